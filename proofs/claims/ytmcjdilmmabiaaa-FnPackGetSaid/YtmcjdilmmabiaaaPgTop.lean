/- PackGet of the program. -/
import Derived.Test.YtmcjdilmmabiaaaPgPacket
import Derived.Shelf.Abstract
namespace Go.Proofs.Ytmcjdilmmabiaaa
open Go.RowKit Go.Shelf

def cellNat : Option Value → Nat
  | some (.int _ z) => z.toNat
  | _ => 0
theorem pg_lt {w : World} {k : Nat} {T : TypeId} {v : Value} (hb : Boxed w k T v) : k < w.heap.size := (Array.getElem?_eq_some_iff.1 hb).1
theorem Off.box {B O base : Nat} {w w' : World} (h : Off B O base w w') {k : Nat} {T : TypeId} {v : Value} (hb : Boxed w k T v) (h0 : k < base) (h1 : k ≠ B) (h2 : k ≠ O) : Boxed w' k T v := (h.rest k h0 h1 h2).trans hb

/-- the code and the bytes -/
def Pg.Is (s : ByteArray) (lim : Nat) (c : Int) (l : List UInt8) : Prop := Pg.get lim s.data.toList [] = (c, l)
/-- how the work ends -/
def PgEnd (w : World) (B O base lim : Nat) (s : ByteArray) (e : Ending) (w' : World) : Prop :=
  Off B O base w w' ∧ ((e = .returned (.tuple #[]) ∧ ∃ l, Pg.Is s lim 0 l ∧ ∃ v, Ot w' O v lim ∧ OwnT w' base v l.length l) ∨ ∃ c, e = fault c ∧ c ≠ 0 ∧ Pg.Is s lim c [])

theorem drop_byte (s : ByteArray) (A : Nat) (h : A < s.size) : ∃ c : UInt8, s.data.toList.drop A = c :: s.data.toList.drop (A + 1) ∧ c.toNat = byteAt s A := by
  refine ⟨s[A]'h, ?_, byteAt_eq s A h⟩
  rw [List.drop_eq_getElem_cons (by rw [Array.length_toList]; exact h)]
  rfl

set_option maxHeartbeats 4000000 in
set_option maxRecDepth 20000 in
theorem packWork_any (IB OB B O lim : Nat) (s : ByteArray) (w : World) (hIB : Boxed w IB 52 (.pointer (some ⟨B, 0, none⟩))) (hOB : Boxed w OB 55 (.pointer (some ⟨O, 0, none⟩))) (hBr : Br w B s 0) (hOt : Ot w O (.slice none 0 0) lim) (hs : s.size ≤ 9000) (hl5 : lim ≤ 5000) (d1 : IB ≠ B) (d2 : IB ≠ O) (d3 : OB ≠ B) (d4 : OB ≠ O) (d5 : B ≠ O) :
    Calls Try.prog 29 #[.pointer (some ⟨IB, 0, none⟩), .pointer (some ⟨OB, 0, none⟩)] w (PgEnd w B O w.heap.size lim s) := by
  obtain ⟨base, hbase⟩ : ∃ base, base = w.heap.size := ⟨_, rfl⟩
  rw [← hbase]
  have i1 : IB < base := by rw [hbase]; exact pg_lt hIB
  have i2 : OB < base := by rw [hbase]; exact pg_lt hOB
  have i3 : B < base := by rw [hbase]; exact hBr.lt
  have i4 : O < base := by rw [hbase]; exact hOt.lt
  have hbw : base ≤ w.heap.size := by omega
  have HK : Hid (Boxed w IB 52 (.pointer (some ⟨B, 0, none⟩)) ∧ Boxed w OB 55 (.pointer (some ⟨O, 0, none⟩))) := ⟨hIB, hOB⟩
  have HI : Hid (Br w B s 0 ∧ Ot w O (.slice none 0 0) lim) := ⟨hBr, hOt⟩
  clear hIB hOB hBr hOt hbase
  go_enter Try.func29, Try.ntmps29
  go_wp2_with fail
  go_loopw [2] (fun _ wr => ∃ (A : Nat) (l : List UInt8), A ≤ s.size ∧ Hid (Pg.get lim s.data.toList [] = Pg.get lim (s.data.toList.drop A) l) ∧ l.length ≤ lim ∧ Hid (Br wr B s A ∧ Off B O base w wr ∧ base ≤ wr.heap.size ∧ ∃ v, Ot wr O v lim ∧ OwnT wr base v l.length l)) (fun _ wr => s.size - cellNat (wr.cell? ⟨B, 1, none⟩))
  case atStart => exact ⟨0, [], Nat.zero_le _, rfl, Nat.zero_le _, HI.out.1, Off.refl _ _ _ _, hbw, _, HI.out.2, ownT_nil _ _⟩
  case round =>
    obtain ⟨A, l, hA, HG, hll, HS⟩ := hrel
    clear HI
    have c1 := (HS.out.2.1.box HK.out.1 i1 d1 d2).cell
    have c2 := (HS.out.2.1.box HK.out.2 i2 d3 d4).cell
    have HLF : Hid (Calls Try.prog 30 #[.pointer (some ⟨B, 0, none⟩)] wr fun e w' => e = .returned (.int .i64 ((s.size - A : Nat) : Int)) ∧ ∃ q, w' = wr.drewN q) := left_any B A s wr HS.out.1 (by omega) hA
    by_cases hlt : A < s.size
    · obtain ⟨L, hL⟩ : ∃ L, L = s.size - A := ⟨_, rfl⟩
      have hL0 : 0 < L := by omega
      have hL0i : (0 : Int) < (L : Int) := by omega
      rw [← hL] at HLF
      have HM : Hid (s.size - cellNat (wr.cell? ⟨B, 1, none⟩) = s.size - A) := by show _ = _; rw [HS.out.1.cells.2.1]; rfl
      clear hL
      go_wp2_with fail
      refine HLF.out.mono ?_
      rintro e w1 ⟨rfl, q, hq⟩
      have HS1 : Hid (Br w1 B s A ∧ Off B O base w w1 ∧ base ≤ w1.heap.size ∧ ∃ v, Ot w1 O v lim ∧ OwnT w1 base v l.length l) := by
        rw [hq]
        obtain ⟨a1, a2, a3, v, a4, a5⟩ := HS.out
        exact ⟨a1, a2.drewN q, a3, v, a4, a5.drewN q⟩
      have c1' : w1.cell? ⟨IB, 0, none⟩ = some (.pointer (some ⟨B, 0, none⟩)) := by rw [hq]; exact c1
      have c2' : w1.cell? ⟨OB, 0, none⟩ = some (.pointer (some ⟨O, 0, none⟩)) := by rw [hq]; exact c2
      have HPK : Hid (Calls Try.prog 31 #[.pointer (some ⟨O, 0, none⟩), .pointer (some ⟨B, 0, none⟩)] w1 (PtEnd w1 B O base lim s A l)) := by
        obtain ⟨a1, a2, a3, v, a4, a5⟩ := HS1.out
        exact outPacket_any B O base lim A s v l w1 a1 hs hlt a4 a5 hll hl5 i4 i3 d5 a3
      clear hq c1 c2 HLF
      go_wp2_with fail
      refine HPK.out.mono ?_
      rintro e w6 ⟨ho6, hcase⟩
      have HO6 : Hid (Off B O base w w6) := HS1.out.2.1.trans ho6
      obtain ⟨c, hc1, hc2⟩ := drop_byte s A hlt
      have hlen : (s.data.toList.drop (A + 1)).length = s.size - (A + 1) := by rw [List.length_drop, Array.length_toList]; rfl
      clear ho6 HPK c1' c2' HS1
      rcases hcase with ⟨h1, h2, rfl, h4, h5, v, h6, h7⟩ | ⟨h1, rfl⟩ | ⟨h1, h2, rfl⟩
      · have hg : Pg.get lim s.data.toList [] = Pg.get lim (s.data.toList.drop (A + 1 + Pg.nd (byteAt s A))) (l ++ Pg.outp (byteAt s A) (s.data.toList.drop (A + 1))) := by
          rw [HG.out, hc1, Pg.get_more (by rw [hc2, hlen]; omega) (by rw [hc2]; exact h2), hc2, List.drop_drop]
        have HN : Hid (s.size - cellNat (w6.cell? ⟨B, 1, none⟩) = s.size - (A + 1 + Pg.nd (byteAt s A))) := by show _ = _; rw [h4.cells.2.1]; rfl
        have HF : Hid (∃ (A : Nat) (l : List UInt8), A ≤ s.size ∧ Hid (Pg.get lim s.data.toList [] = Pg.get lim (s.data.toList.drop A) l) ∧ l.length ≤ lim ∧ Hid (Br w6 B s A ∧ Off B O base w w6 ∧ base ≤ w6.heap.size ∧ ∃ v, Ot w6 O v lim ∧ OwnT w6 base v l.length l)) := ⟨_, _, h1, hg, h2, h4, HO6.out, h5, v, h6, h7⟩
        clear h1 h2 h4 h5 h6 h7 hg hc1 hc2 hlen
        go_wp2_with fail
        go_roundw
        case rel => exact HF.out
        case measure => rw [HM.out, HN.out]; omega
      · have HF : Hid (PgEnd w B O base lim s (fault 2) w6) := ⟨HO6.out, .inr ⟨2, rfl, by decide, by show Pg.get _ _ _ = _; rw [HG.out, hc1]; exact Pg.get_short (by rw [hc2, hlen]; omega)⟩⟩
        clear h1 hc1 hc2 hlen
        unfold fault
        go_wp2_with fail
        exact ⟨rfl, HF.out⟩
      · have HF : Hid (PgEnd w B O base lim s (fault 3) w6) := ⟨HO6.out, .inr ⟨3, rfl, by decide, by show Pg.get _ _ _ = _; rw [HG.out, hc1]; exact Pg.get_long (by rw [hc2, hlen]; omega) (by rw [hc2]; exact h2)⟩⟩
        clear h1 h2 hc1 hc2 hlen
        unfold fault
        go_wp2_with fail
        exact ⟨rfl, HF.out⟩
    · obtain rfl : A = s.size := by omega
      rw [Nat.sub_self] at HLF
      have HF : Hid (∀ q, PgEnd w B O base lim s (.returned (.tuple #[])) (wr.drewN q)) := fun q => by
        obtain ⟨a1, a2, a3, v, a4, a5⟩ := HS.out
        refine ⟨a2.drewN q, .inl ⟨rfl, l, ?_, v, a4, a5.drewN q⟩⟩
        show Pg.get _ _ _ = _
        rw [HG.out, List.drop_of_length_le (by rw [Array.length_toList]; exact Nat.le_refl _), Pg.get_nil]
      go_wp2_with fail
      refine HLF.out.mono ?_
      rintro e w1 ⟨rfl, q, hq⟩
      have HF1 : Hid (PgEnd w B O base lim s (.returned (.tuple #[])) w1) := by rw [hq]; exact HF.out q
      clear hq HF c1 c2 HLF
      go_wp2_with fail
      go_end0
      exact HF1.out
end Go.Proofs.Ytmcjdilmmabiaaa
