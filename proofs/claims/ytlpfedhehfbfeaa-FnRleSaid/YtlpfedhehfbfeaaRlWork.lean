/- The work of RleGet. -/
import Derived.Test.YtlpfedhehfbfeaaRlStep
import Derived.RangeFuncBox
import Derived.Shelf.Abstract
namespace Go.Proofs.Ytlpfedhehfbfeaa
open Go.RowKit Go.Shelf

theorem rl_lt {w : World} {k : Nat} {T : TypeId} {v : Value} (hb : Boxed w k T v) : k < w.heap.size := (Array.getElem?_eq_some_iff.1 hb).1
theorem Tn.box {B S : Nat} {G : List Nat} {w w' : World} (h : Tn B S G w w') {k : Nat} {T : TypeId} {v : Value} (hb : Boxed w k T v) (h1 : k ≠ B) (h2 : k ≠ S) (h3 : k ∉ G) : Boxed w' k T v := (h.rest k h1 h2 h3).trans hb
def cellNatR : Option Value → Nat
  | some (.int _ z) => z.toNat
  | _ => 0
theorem rlMeasure {w1 w6 : World} {B A A' : Nat} {s : ByteArray} (h : Br w1 B s A) (h' : Br w6 B s A') (hl : A < A') (hA : A' ≤ s.size) : s.size - cellNatR (w6.cell? ⟨B, 1, none⟩) < s.size - cellNatR (w1.cell? ⟨B, 1, none⟩) := by
  rw [h.cells.2.1, h'.cells.2.1]
  show s.size - ((A' : Int)).toNat < s.size - ((A : Int)).toNat
  rw [Int.toNat_natCast, Int.toNat_natCast]; omega

/-- how the work ends -/
def WkEnd (base : Nat) (w : World) (B S R : Nat) (G : List Nat) (W : Nat) (ro : Option Addr) (cp : Nat) (s : ByteArray) (e : Ending) (w' : World) : Prop :=
  Tn B S G w w' ∧ ((e = .returned (.tuple #[]) ∧ ∃ g x y, Rl.get s W G.length 0 Rl.zero 0 0 = some g ∧ Sh w' S (.slice ro G.length cp) x y ∧ Gd base w' R G W g) ∨ ∃ c, e = fault c ∧ c ≠ 0 ∧ Rl.get s W G.length 0 Rl.zero 0 0 = none)

set_option maxHeartbeats 4000000 in
set_option maxRecDepth 20000 in
theorem rleWork_any (base : Nat) (w : World) (SB IB B S R : Nat) (G : List Nat) (W : Nat) (ro : Option Addr) (cp : Nat) (s : ByteArray) (hSB : Boxed w SB 53 (.pointer (some ⟨S, 0, none⟩))) (hIB : Boxed w IB 50 (.pointer (some ⟨B, 0, none⟩))) (h : Rst base w B S R G W ro cp s 0 0 0 Rl.zero w) (ap : Apart B S R G ro) (hs : s.size ≤ 9000)
    (s1 : SB ≠ B) (s2 : SB ≠ S) (s3 : SB ∉ G) (i1 : IB ≠ B) (i2 : IB ≠ S) (i3 : IB ∉ G) :
    Calls Try.prog 29 #[.pointer (some ⟨SB, 0, none⟩), .pointer (some ⟨IB, 0, none⟩)] w (WkEnd base w B S R G W ro cp s) := by
  have HI : Hid (Rst base w B S R G W ro cp s 0 0 0 Rl.zero w) := h
  have HKS : Hid (Boxed w SB 53 (.pointer (some ⟨S, 0, none⟩))) := hSB
  have HKI : Hid (Boxed w IB 50 (.pointer (some ⟨B, 0, none⟩))) := hIB
  clear h hSB hIB
  go_enter Try.func29, Try.ntmps29
  go_wp2_with fail
  go_loopw [2] (fun _ wr => ∃ (A x y : Nat) (g : Rl.Grid), A ≤ s.size ∧ x ≤ 300 * A ∧ y ≤ 300 * A ∧ Hid (Rl.get s W G.length 0 Rl.zero 0 0 = Rl.get s W G.length A g x y) ∧ Hid (Rst base w B S R G W ro cp s A x y g wr)) (fun _ wr => s.size - cellNatR (wr.cell? ⟨B, 1, none⟩))
  case atStart => exact ⟨0, 0, 0, Rl.zero, Nat.zero_le _, Nat.le_refl _, Nat.le_refl _, rfl, HI⟩
  case round =>
    obtain ⟨A, x, y, g, hA, hx, hy, HG, HR⟩ := hrel
    clear HI
    have c1 := (HR.out.2.2.2.box HKS.out s1 s2 s3).cell
    have c2 := (HR.out.2.2.2.box HKI.out i1 i2 i3).cell
    have HST : Hid (Calls Try.prog 30 #[.pointer (some ⟨S, 0, none⟩), .pointer (some ⟨B, 0, none⟩)] wr (StEnd base w B S R G W ro cp s A x y g)) := sheetStep_any base w B S R G W ro cp s A x y g wr HR.out ap hs hA (by omega) (by omega)
    go_wp2_with fail
    refine HST.out.mono ?_
    rintro e w2 (⟨⟨on, A', g', x', y'⟩, h1, rfl, h2⟩ | ⟨h1, c, hc, rfl, h2⟩)
    · have hle := Rl.step_le h1
      simp only at hle h2
      obtain ⟨l1, l2, l3, l4⟩ := hle
      have HR2 : Hid (Rst base w B S R G W ro cp s A' x' y' g' w2) := h2
      cases on
      · have HGE : Hid (Rl.get s W G.length 0 Rl.zero 0 0 = if A' = s.size then some g' else none) := by show _ = _; rw [HG.out, Rl.get_end h1]
        have c3 := (HR2.out.2.2.2.box HKI.out i1 i2 i3).cell
        have HLF : Hid (Calls Try.prog 32 #[.pointer (some ⟨B, 0, none⟩)] w2 fun e w' => e = .returned (.int .i64 ((s.size - A' : Nat) : Int)) ∧ ∃ q, w' = w2.drewN q) := left_any B A' s w2 HR2.out.1 (by omega) l2
        clear h1 h2 HG HR HST c1 c2
        by_cases hend : A' = s.size
        · have HF : Hid (∀ q, WkEnd base w B S R G W ro cp s (.returned (.tuple #[])) (w2.drewN q)) := fun q => by
            have h := HR2.out.drewN q
            exact ⟨h.2.2.2, .inl ⟨rfl, g', x', y', by rw [HGE.out, if_pos hend], h.2.1, h.2.2.1⟩⟩
          have h0 : s.size - A' = 0 := by omega
          rw [h0] at HLF
          clear h0 hend HGE HR2
          go_wp2_with fail
          refine HLF.out.mono ?_
          rintro e w3 ⟨rfl, q, hq⟩
          have HF3 : Hid (WkEnd base w B S R G W ro cp s (.returned (.tuple #[])) w3) := by rw [hq]; exact HF.out q
          clear hq HF HLF
          go_wp2_with fail
          refine (insist_of _ 1 _ (by first | rfl | simp <;> omega)).mono ?_
          rintro e w4 ⟨rfl, hw4⟩
          replace hw4 := hw4.symm
          subst hw4
          go_wp2_with fail
          go_end0
          exact HF3.out
        · have HF : Hid (∀ q, WkEnd base w B S R G W ro cp s (fault 1) (w2.drewN q)) := fun q => ⟨(HR2.out.drewN q).2.2.2, .inr ⟨1, rfl, by decide, by rw [HGE.out, if_neg hend]⟩⟩
          obtain ⟨L, hL⟩ : ∃ L, L = s.size - A' := ⟨_, rfl⟩
          have hL0 : ¬ (L : Int) = 0 := by omega
          have hL1 : ((L : Int) == 0) = false := by rw [beq_eq_false_iff_ne]; exact hL0
          have hL2 : ¬ L = 0 := by omega
          rw [← hL] at HLF
          clear hL hend HGE HR2
          go_wp2_with fail
          refine HLF.out.mono ?_
          rintro e w3 ⟨rfl, q, hq⟩
          have HF3 : Hid (WkEnd base w B S R G W ro cp s (fault 1) w3) := by rw [hq]; exact HF.out q
          clear hq HF HLF
          go_wp2_with fail
          refine (insist_not _ 1 _ (by first | rfl | exact hL1 | simp [hL2])).mono ?_
          rintro e w4 ⟨rfl, hw4⟩
          replace hw4 := hw4.symm
          subst hw4
          unfold fault
          go_wp2_with fail
          exact ⟨rfl, HF3.out⟩
      · have HG2 : Hid (Rl.get s W G.length 0 Rl.zero 0 0 = Rl.get s W G.length A' g' x' y') := by show _ = _; rw [HG.out, Rl.get_more h1]
        have HM : Hid (s.size - cellNatR (w2.cell? ⟨B, 1, none⟩) < s.size - cellNatR (wr.cell? ⟨B, 1, none⟩)) := rlMeasure HR.out.1 HR2.out.1 (by omega) l2
        clear h1 h2 HG HR HST c1 c2
        go_wp2_with fail
        go_roundw
        case rel => exact ⟨A', x', y', g', l2, by omega, by omega, HG2.out, HR2.out⟩
        case measure => exact HM.out
    · have HF : Hid (WkEnd base w B S R G W ro cp s (fault c) w2) := ⟨h2, .inr ⟨c, rfl, hc, by rw [HG.out, Rl.get_none h1]⟩⟩
      clear h1 h2 HG HR HST c1 c2
      unfold fault
      go_wp2_with fail
      exact ⟨rfl, HF.out⟩
end Go.Proofs.Ytlpfedhehfbfeaa
