/- Texts laid together: PnFig, BgBits, BgImpl, BpWrite, RwMath, CorePn, ImgOpen. -/
import Derived.Deep.RegionHeld3
import Derived.StillTailTactics
import Derived.ProofKit
import Derived.OpenShut
import Derived.ChangeOld
import Derived.Test.YtbfeonhokagdjaaDoorKEPnmPutx0a
/- pnmFigures of the program. -/
namespace Go.Proofs.YtbfeonhokagdjaaDoor
open Go.RowKit

/-- the parts of a point of a coloured picture -/
def Pn.three (p : Int) : List Int := [p / 65536, p / 256 % 256, p % 256]
def Pn.parts (l : List Int) : List Int := l.flatMap Pn.three
theorem Pn.parts_snoc (l : List Int) (p : Int) : Pn.parts (l ++ [p]) = Pn.parts l ++ Pn.three p := by simp [Pn.parts]
theorem Pn.parts_len (l : List Int) : (Pn.parts l).length = 3 * l.length := by
  induction l with
  | nil => rfl
  | cons x r ih => simp only [Pn.parts, List.flatMap_cons, List.length_append, List.length_cons] at ih ⊢; rw [ih]; simp [Pn.three]; omega
theorem Pn.shr16 (z : Int) : Op.shift .shr .i64 z .u64 16 = pure (.int .i64 (z / 65536)) := shift_shr .i64 .u64 z 16 (by decide) (by decide)
theorem Pn.shr8 (z : Int) : Op.shift .shr .i64 z .u64 8 = pure (.int .i64 (z / 256)) := shift_shr .i64 .u64 z 8 (by decide) (by decide)
theorem and255p (z : Nat) (h : z < 9223372036854775808) : bits BinOp.and IntKind.i64 (z : Int) 255 = (z : Int) % 256 := by
  have h1 := i64_and_nat z 255 h (by omega)
  have h2 : z &&& 255 = z % 256 := Nat.and_two_pow_sub_one_eq_mod z 8
  rw [h2] at h1
  exact h1.trans (by rfl)
def Pn.Pts (l : List Int) : Prop := ∀ p ∈ l, 0 ≤ p ∧ p < 16777216
theorem Pn.parts_fig {l : List Int} (h : Pn.Pts l) : Figs (Pn.parts l) := by
  intro n hn
  obtain ⟨p, hp, hm⟩ := List.mem_flatMap.1 hn
  have hb := h p hp
  simp only [Pn.three, List.mem_cons, List.not_mem_nil, or_false] at hm
  rcases hm with rfl | rfl | rfl <;> omega
theorem Pn.pts_fig {l : List Int} (h : Pn.Pts l) : Figs l := fun p hp => by have := h p hp; omega
set_option maxHeartbeats 2000000 in
theorem pnmFigures_low (a : Option Addr) (N c : Nat) (l : List Int) (k : Int) (hk : k ≠ 2) (w : World) (h : Ints w a l) (hN : l.length = N) (hNb : N ≤ 1000) (hp : Pn.Pts l) (ht : Tens w) :
    Calls Tryd.prog 19 #[.slice a N c, .int .i64 k] w fun e w' => e = .returned (.string ⟨(figs l ++ [10]).toArray⟩) ∧ Below w.heap.size w w' := by
  obtain ⟨S, hS⟩ : ∃ S : ByteArray, S = ⟨(figs l).toArray⟩ := ⟨_, rfl⟩
  have HL : Hid (Calls Tryd.prog 39 #[.slice a N c] w fun e w' => e = .returned (.string S) ∧ Below w.heap.size w w') := by rw [hS]; exact listFigures_any a N c l w h hN (by omega) (Pn.pts_fig hp) ht
  have zS : S.size ≤ 11000 := by rw [hS, str_size]; have := figs_len (Pn.pts_fig hp); omega
  have g : ¬ 9223372036854775807 < S.size + 1 := by omega
  have HE : Hid (S ++ ⟨#[10]⟩ = ⟨(figs l ++ [10]).toArray⟩) := by show _ = _; rw [hS, show (⟨#[10]⟩ : ByteArray) = ⟨[10].toArray⟩ from rfl, str_two]
  have g2 : (k == 2) = false := by rw [beq_eq_false_iff_ne]; exact hk
  have g3 : (k != 2) = true := by rw [bne, g2]; rfl
  clear hS h hN hp ht
  go_enter Tryd.func19, Tryd.ntmps19
  go_wp2_with fail
  refine HL.out.mono ?_
  rintro e w1 ⟨rfl, b1⟩
  have HB : Hid (Below w.heap.size w w1) := b1
  clear b1 HL
  go_wp2_with fail
  go_ret
  exact ⟨ret_str HE.out, HB.out⟩
set_option maxHeartbeats 4000000 in
set_option maxRecDepth 20000 in
theorem pnmFigures_rgb (a : Option Addr) (N c : Nat) (l : List Int) (w : World) (h : Ints w a l) (hN : l.length = N) (hNb : N ≤ 1000) (hp : Pn.Pts l) (ht : Tens w) :
    Calls Tryd.prog 19 #[.slice a N c, .int .i64 2] w fun e w' => e = .returned (.string ⟨(figs (Pn.parts l) ++ [10]).toArray⟩) ∧ Below w.heap.size w w' := by
  have HI : Hid (Ints w a l ∧ l.length = N ∧ Pn.Pts l ∧ Tens w) := ⟨h, hN, hp, ht⟩
  obtain ⟨base, hbase⟩ : ∃ base, base = w.heap.size := ⟨_, rfl⟩
  have HO0 : Hid (OwnI w base (.slice none 0 0) 0 (Pn.parts (l.take 0)) ∧ Below base w w) := ⟨ownI_nil w base, Below.refl _ _⟩
  have HBB : Hid (base = w.heap.size) := hbase
  clear h hN hp ht hbase
  go_enter Tryd.func19, Tryd.ntmps19
  go_wp2_with fail
  go_loopw [5, 15] (fun o i wr => ∃ (q m : Nat) (ao : Option Addr) (cap : Nat), q ≤ N ∧ Hid (m = 3 * q) ∧ i = .int .i64 (q : Int) ∧ o = .slice ao m cap ∧ Hid (OwnI wr base (.slice ao m cap) m (Pn.parts (l.take q)) ∧ Below base w wr)) (fun _ i _ => N - (intOf i).toNat)
  case atStart => exact ⟨0, 0, _, _, Nat.zero_le _, rfl, rfl, rfl, HO0⟩
  case round =>
    obtain ⟨q, m, ao, cap, hq, hm, rfl, rfl, HR⟩ := hrel
    clear HO0
    by_cases hlt : q < N
    · have hqi : (q : Int) < (N : Int) := by omega
      have hql : q < l.length := by rw [HI.out.2.1]; exact hlt
      have hBW : Below w.heap.size w wr := by have h := HR.out.2; rw [HBB.out] at h; exact h
      have hbw : base ≤ wr.heap.size := by rw [HBB.out]; exact hBW.size
      obtain ⟨b1, off, ha, hb1, hcell⟩ := (HI.out.1.kept hBW).cellAt hql
      have hfk := HI.out.2.2.1 _ (List.getElem_mem hql)
      obtain ⟨z, hz⟩ := Int.eq_ofNat_of_zero_le hfk.1
      have HT : Hid (Pn.parts (l.take (q + 1)) = Pn.parts (l.take q) ++ [(z : Int) / 65536, (z : Int) / 256 % 256, (z : Int) % 256]) := by
        show _ = _
        rw [List.take_succ_eq_append_getElem hql, Pn.parts_snoc, hz]
        rfl
      rw [hz] at hcell hfk
      subst ha
      clear hz hBW
      have hz1 : (0 : Int) ≤ (z : Int) := by omega
      have hz2 : (z : Int) < 16777216 := by omega
      have hmb : m ≤ 3000 := by have := hm.out; omega
      obtain ⟨X, hX⟩ : ∃ X : Int, X = (z : Int) / 65536 := ⟨_, rfl⟩
      obtain ⟨Y, hY⟩ : ∃ Y : Nat, (Y : Int) = (z : Int) / 256 := ⟨z / 256, by omega⟩
      obtain ⟨Y2, hY2⟩ : ∃ Y2 : Int, Y2 = (z : Int) / 256 % 256 := ⟨_, rfl⟩
      obtain ⟨Z2, hZ2⟩ : ∃ Z2 : Int, Z2 = (z : Int) % 256 := ⟨_, rfl⟩
      have s1 : Op.shift .shr .i64 (z : Int) .u64 16 = pure (.int .i64 X) := by rw [hX]; exact Pn.shr16 _
      have s2 : Op.shift .shr .i64 (z : Int) .u64 8 = pure (.int .i64 (Y : Int)) := by rw [hY]; exact Pn.shr8 _
      have s3 : bits BinOp.and IntKind.i64 (Y : Int) 255 = Y2 := by rw [and255p Y (by omega), hY2, hY]
      have s4 : bits BinOp.and IntKind.i64 (z : Int) 255 = Z2 := by rw [and255p z (by omega), hZ2]
      have HT2 : Hid (Pn.parts (l.take (q + 1)) = Pn.parts (l.take q) ++ [X, Y2, Z2]) := by show _ = _; rw [HT.out, hX, hY2, hZ2]
      have HOW : Hid (OwnI (wr.alloc (.cells #[.int .i64 X, .int .i64 Y2, .int .i64 Z2] 3)) base (.slice ao m cap) m (Pn.parts (l.take q)) ∧ Below base w (wr.alloc (.cells #[.int .i64 X, .int .i64 Y2, .int .i64 Z2] 3)) ∧ base ≤ (wr.alloc (.cells #[.int .i64 X, .int .i64 Y2, .int .i64 Z2] 3)).heap.size) := ⟨HR.out.1.alloc _, HR.out.2.alloc hbw _, by simp; omega⟩
      have HIN : Hid (Ints (wr.alloc (.cells #[.int .i64 X, .int .i64 Y2, .int .i64 Z2] 3)) (some ⟨wr.heap.size, 0, none⟩) [X, Y2, Z2]) := ints_new wr [X, Y2, Z2] _ rfl
      clear hX hY hY2 hZ2 hfk hz1 hz2 HT HR
      go_wp2_with (at_builtin; refine wpList_append_ints (by rfl) _ _ (by rfl) base _ m (Pn.parts (l.take q)) (by rfl) HOW.out.1 (some ⟨wr.heap.size, 0, none⟩) 3 3 [X, Y2, Z2] (by rfl) HIN.out rfl (by omega) HOW.out.2.2 ?_)
      intro a2 cap2 w2 hO2 hG2
      have HF : Hid (OwnI w2 base (.slice a2 (m + 3) cap2) (m + 3) (Pn.parts (l.take (q + 1))) ∧ Below base w w2) := by
        refine ⟨by rw [HT2.out]; exact hO2, HOW.out.2.1.grown hG2 HOW.out.2.2 (fun b e => (World.ownsRow.lt (show World.ownsRow _ _ _ _ _ _ _ from HOW.out.1) b e).1)⟩
      clear hO2 hG2 HOW HIN HT2 s1 s2 s3 s4 hcell
      go_wp2_with fail
      go_roundw
      case rel => exact ⟨q + 1, m + 3, a2, cap2, by omega, by show _ = _; have := hm.out; omega, by go_num, rfl, HF⟩
      case measure => simp [intOf]; omega
    · have hqe : q = N := by omega
      subst hqe
      have hfl : l.take q = l := by rw [← HI.out.2.1]; exact List.take_length
      obtain ⟨ao', cap', he, hOw⟩ := HR.out.1.owns
      rw [hfl] at hOw
      have hml : (Pn.parts l).length = m := by rw [Pn.parts_len, HI.out.2.1]; exact hm.out.symm
      have hBW : Below w.heap.size w wr := by have h := HR.out.2; rw [HBB.out] at h; exact h
      obtain ⟨S, hS⟩ : ∃ S : ByteArray, S = ⟨(figs (Pn.parts l)).toArray⟩ := ⟨_, rfl⟩
      injection he with e1 e2 e3
      subst e1
      subst e3
      clear e2
      have HL : Hid (Calls Tryd.prog 39 #[.slice ao m cap] wr fun e w' => e = .returned (.string S) ∧ Below wr.heap.size wr w') := by rw [hS]; exact listFigures_any ao m cap (Pn.parts l) wr hOw.ints hml (by have := hm.out; omega) (Pn.parts_fig HI.out.2.2.1) (HI.out.2.2.2.below hBW)
      have zS : S.size ≤ 33000 := by
        rw [hS, str_size]
        have h1 := figs_len (Pn.parts_fig HI.out.2.2.1)
        have h2 := hm.out
        omega
      have g : ¬ 9223372036854775807 < S.size + 1 := by omega
      have HE : Hid (S ++ ⟨#[10]⟩ = ⟨(figs (Pn.parts l) ++ [10]).toArray⟩) := by show _ = _; rw [hS, show (⟨#[10]⟩ : ByteArray) = ⟨[10].toArray⟩ from rfl, str_two]
      have HB : Hid (Below w.heap.size w wr) := hBW
      clear hS hOw hml hBW HR hfl
      go_wp2_with fail
      refine HL.out.mono ?_
      rintro e w1 ⟨rfl, b1⟩
      have HB1 : Hid (Below w.heap.size w w1) := HB.out.trans (b1.mono HB.out.size)
      clear b1 HL
      go_wp2_with fail
      go_ret
      exact ⟨ret_str HE.out, HB1.out⟩
end Go.Proofs.YtbfeonhokagdjaaDoor

/- Bits of a text as the specification reads them. -/
namespace Go.Proofs.YtbfeonhokagdjaaDoor
open Go.RowKit

/-- a bit of a text -/
def bitAt (s : ByteArray) (hi : Bool) (i : Nat) : Nat := byteAt s (i / 8) / 2 ^ Bg.spot hi i % 2
end Go.Proofs.YtbfeonhokagdjaaDoor

/- Bits of a text as the program reads them: a reader behind an interface. -/
namespace Go.Proofs.YtbfeonhokagdjaaDoor
open Go.RowKit

/-- the closure that tells which comes first -/
def ordV (hi : Bool) : Value := .func (.func (if hi then 53 else 54)) #[] #[]

/-- a reader of bits in block B, at bit p -/
structure Reads (w : World) (B : Nat) (hi : Bool) (s : ByteArray) (p : Nat) : Prop where
  c0 : w.cell? ⟨B, 0, none⟩ = some (ordV hi)
  c1 : w.cell? ⟨B, 1, none⟩ = some (.string s)
  c2 : w.cell? ⟨B, 2, none⟩ = some (.int .i64 (p : Int))
  f2 : w.frozen? ⟨B, 2, none⟩ = false

theorem Reads.drewN {w : World} {B p : Nat} {hi : Bool} {s : ByteArray} (h : Reads w B hi s p) (m : Nat) : Reads (w.drewN m) B hi s p := ⟨h.c0, h.c1, h.c2, h.f2⟩
theorem Reads.drew {w : World} {B p : Nat} {hi : Bool} {s : ByteArray} (h : Reads w B hi s p) : Reads w.drew B hi s p := ⟨h.c0, h.c1, h.c2, h.f2⟩

end Go.Proofs.YtbfeonhokagdjaaDoor

/- Bits packed into bytes, as the program does it: a writer behind an interface. -/
namespace Go.Proofs.YtbfeonhokagdjaaDoor
open Go.RowKit

/-- a writer of bits in block B: N bits of f are written -/
structure Writes (w : World) (B : Nat) (hi : Bool) (f : Nat → Nat) (N : Nat) : Prop where
  c0 : w.cell? ⟨B, 0, none⟩ = some (ordV hi)
  c1 : ∃ v L, w.cell? ⟨B, 1, none⟩ = some v ∧ OwnB w (B + 1) v L (Bp.pack hi f N) ∧ L = (N + 7) / 8
  c2 : w.cell? ⟨B, 2, none⟩ = some (.int .i64 (N : Int))
  f1 : w.frozen? ⟨B, 1, none⟩ = false
  f2 : w.frozen? ⟨B, 2, none⟩ = false
  lt : B < w.heap.size

theorem u8_or_nat (a b : Nat) (ha : a < 256) (hb : b < 256) : bits .or .u8 (a : Int) (b : Int) = ((a ||| b : Nat) : Int) := by
  have hx : a ||| b < 2 ^ 8 := Nat.or_lt_two_pow (by omega) (by omega)
  show IntKind.u8.wrap ((BitVec.ofInt 8 (a : Int) ||| BitVec.ofInt 8 (b : Int)).toNat : Int) = _
  have e : ∀ c : Nat, c < 256 → (BitVec.ofInt 8 (c : Int)).toNat = c := by
    intro c hc
    rw [BitVec.ofInt_natCast, BitVec.toNat_ofNat]; exact Nat.mod_eq_of_lt (by omega)
  rw [BitVec.toNat_or, e a ha, e b hb]
  simp [IntKind.wrap, IntKind.bits, IntKind.signed]; omega

theorem wrap_u8_nat' (a : Nat) (ha : a < 256) : IntKind.u8.wrap (a : Int) = (a : Int) := by
  simp [IntKind.wrap, IntKind.bits, IntKind.signed]; omega

set_option maxHeartbeats 400000 in
theorem wroom_any (B N : Nat) (hi : Bool) (f : Nat → Nat) (w : World) (h : Writes w B hi f N) (hN : N ≤ 72000) :
    Calls Tryd.prog 93 #[.pointer (some ⟨B, 0, none⟩)] w fun e w' => e = .returned (.int .i64 (72000 - (N : Int))) ∧ w' = w := by
  have h2 := h.c2
  clear h
  go_enter Tryd.func93, Tryd.ntmps93
  go_wp2_with fail
  go_ret
  exact ⟨rfl, rfl⟩

/-- behind the last store the writer is one bit further -/
theorem Writes.next {w : World} {B g j L cap N y : Nat} {hi : Bool} {f : Nat → Nat} {o : List Nat} (h0 : w.cell? ⟨B, 0, none⟩ = some (ordV hi)) (h1 : w.cell? ⟨B, 1, none⟩ = some (.slice (some ⟨g, 0, none⟩) L cap)) (h2 : w.cell? ⟨B, 2, none⟩ = some (.int .i64 (N : Int))) (hf1 : w.frozen? ⟨B, 1, none⟩ = false) (hf2 : w.frozen? ⟨B, 2, none⟩ = false) (hlt : B < w.heap.size) (hg : B < g)
    (hown : OwnB w (B + 1) (.slice (some ⟨g, 0, none⟩) L cap) L o) (ho : o = Bp.room N (Bp.pack hi f N)) (hj : j = N / 8) (hL : L = (N + 1 + 7) / 8) (hy : y = o.getD j 0 + f N * 2 ^ Bg.spot hi N) :
    Writes ((w.setCell ⟨g, j, none⟩ (.int .u8 (y : Int))).setCell ⟨B, 2, none⟩ (.int .i64 ((N : Int) + 1))) B hi f (N + 1) := by
  subst ho
  have hs := hown.step hj hy
  have hne : ∀ o', ¬ ((⟨g, j, none⟩ : Addr) = ⟨B, o', none⟩) := fun o' e => absurd (congrArg Addr.block e) (show ¬ g = B by omega)
  refine ⟨?_, ⟨.slice (some ⟨g, 0, none⟩) L cap, L, ?_, ?_, hL⟩, ?_, ?_, ?_, ?_⟩
  · rw [World.cell?_setCell_other _ _ _ _ (fun e => absurd (congrArg Addr.off e) (show ¬ (2 : Nat) = 0 by omega)), World.cell?_setCell_other _ _ _ _ (hne 0)]; exact h0
  · rw [World.cell?_setCell_other _ _ _ _ (fun e => absurd (congrArg Addr.off e) (show ¬ (2 : Nat) = 1 by omega)), World.cell?_setCell_other _ _ _ _ (hne 1)]; exact h1
  · exact ownsRow_setCell_below hs (by show B < B + 1; omega) _
  · have : (w.setCell ⟨g, j, none⟩ (.int .u8 (y : Int))).cell? ⟨B, 2, none⟩ = some (.int .i64 (N : Int)) := by
      rw [World.cell?_setCell_other _ _ _ _ (hne 2)]; exact h2
    rw [World.cell?_setCell_same _ _ _ this]; rfl
  · rw [World.frozen?_setCell, World.frozen?_setCell]; exact hf1
  · rw [World.frozen?_setCell, World.frozen?_setCell]; exact hf2
  · simp; exact hlt
end Go.Proofs.YtbfeonhokagdjaaDoor

/- The points of a row, told by their bits. -/
namespace Go.Proofs.YtbfeonhokagdjaaDoor
open Go.RowKit
namespace Rw

/-- the i-th point of D bits -/
def pt (s : ByteArray) (D i : Nat) : Nat := Bg.big (fun k => bitAt s true (i * D + k)) D
/-- n points -/
def row (s : ByteArray) (D n : Nat) : List Int := (List.range n).map fun i => ((pt s D i : Nat) : Int)
def thereB (n : Nat) (d c : Int) : Bool := depB d && decide (0 ≤ c ∧ c ≤ 1000 ∧ (n : Int) = (c * d + 7) / 8)
/-- what is read -/
def ans (s : ByteArray) (d c : Int) : List Int := if thereB s.size d c = true then row s d.toNat c.toNat else []
theorem dep_cases {d : Int} (h : depB d = true) : d = 1 ∨ d = 2 ∨ d = 4 ∨ d = 8 ∨ d = 24 ∨ d = 32 := of_decide_eq_true h
theorem dep_nat {d : Int} (h : depB d = true) : ∃ D : Nat, d = (D : Int) ∧ 1 ≤ D ∧ D ≤ 32 ∧ (D ≤ 24 ∨ D = 32) := by
  have := dep_cases h
  exact ⟨d.toNat, by omega, by omega, by omega, by omega⟩
end Rw
end Go.Proofs.YtbfeonhokagdjaaDoor

/- A law on a picture, a bool and a text: walked over the contracts of both (for PnmPut, PnmPut, PnmPut, GifPut). -/
namespace Go.Proofs.YtbfeonhokagdjaaDoor
open Go.RowKit

set_option linter.unusedSimpArgs false in
set_option maxHeartbeats 8000000 in
set_option maxRecDepth 20000 in
theorem exPnmPut_core (k d wd hi : Int) (ca : Option Addr) (cn cc : Nat) (pa : Option Addr) (pn pc : Nat) (bo : Bool) (T : ByteArray) (cs ps : List Int) (w : World) (hIc : Ints w ca cs) (hIp : Ints w pa ps) (hcn : cs.length = cn) (hpn : ps.length = pn) (hsum : cn + pn ≤ 1048576)
    (hSP : ∀ (x y : Option Addr) (w' : World), Ints w' x cs → Ints w' y ps → Calls Tryd.prog 5 #[.agg #[.int .i64 k, .int .i64 d, .int .i64 wd, .int .i64 hi, .slice x cn cn, .slice y pn pn], .bool bo] w' fun e w'' => e = .returned (.string T) ∧ Below w'.heap.size w' w'')
    (hIM : ∀ (x y : Option Addr) (w' : World), Below w.heap.size w w' → Ints w' x cs → Ints w' y ps → Calls Tryd.prog 7 #[.agg #[.int .i64 k, .int .i64 d, .int .i64 wd, .int .i64 hi, .slice x cn cn, .slice y pn pn], .bool bo] w' fun e w'' => e = .returned (.string T) ∧ Below w'.heap.size w' w'') :
    Calls Tryd.prog 3 #[.agg #[.int .i64 k, .int .i64 d, .int .i64 wd, .int .i64 hi, .slice ca cn cc, .slice pa pn pc], .bool bo] w fun e w' => e = .returned (.bool true) ∧ Below w.heap.size w w' := by
  have HSP : Hid (∀ (x y : Option Addr) (w' : World), Ints w' x cs → Ints w' y ps → Calls Tryd.prog 5 #[.agg #[.int .i64 k, .int .i64 d, .int .i64 wd, .int .i64 hi, .slice x cn cn, .slice y pn pn], .bool bo] w' fun e w'' => e = .returned (.string T) ∧ Below w'.heap.size w' w'') := hSP
  have HIM : Hid (∀ (x y : Option Addr) (w' : World), Below w.heap.size w w' → Ints w' x cs → Ints w' y ps → Calls Tryd.prog 7 #[.agg #[.int .i64 k, .int .i64 d, .int .i64 wd, .int .i64 hi, .slice x cn cn, .slice y pn pn], .bool bo] w' fun e w'' => e = .returned (.string T) ∧ Below w'.heap.size w' w'') := hIM
  have hB0 : Below w.heap.size w (w.alloc (.cells #[.int .i64 k, .int .i64 d, .int .i64 wd, .int .i64 hi, .slice ca cn cc, .slice pa pn pc] 24)) := (Below.refl _ _).alloc (Nat.le_refl _) _
  have HZ : Hid (Calls Tryd.prog 4 #[.agg #[.int .i64 k, .int .i64 d, .int .i64 wd, .int .i64 hi, .slice ca cn cc, .slice pa pn pc], .int .i64 1048576] (w.alloc (.cells #[.int .i64 k, .int .i64 d, .int .i64 wd, .int .i64 hi, .slice ca cn cc, .slice pa pn pc] 24)) fun e w' => e = .returned (.int .i64 (1048576 - (cn : Int) - (pn : Int))) ∧ Below (w.alloc (.cells #[.int .i64 k, .int .i64 d, .int .i64 wd, .int .i64 hi, .slice ca cn cc, .slice pa pn pc] 24)).heap.size (w.alloc (.cells #[.int .i64 k, .int .i64 d, .int .i64 wd, .int .i64 hi, .slice ca cn cc, .slice pa pn pc] 24)) w') := szImage_small k d wd hi ca cn cc pa pn pc _ hsum
  have HTO : Hid (∀ w', Ints w' ca cs → Ints w' pa ps → Calls Tryd.prog 6 #[.agg #[.int .i64 k, .int .i64 d, .int .i64 wd, .int .i64 hi, .slice ca cn cc, .slice pa pn pc]] w' fun e w'' => (∃ x y, e = .returned (.agg #[.int .i64 k, .int .i64 d, .int .i64 wd, .int .i64 hi, .slice x cn cn, .slice y pn pn]) ∧ Two w'' w'.heap.size w''.heap.size x cs y ps) ∧ Below w'.heap.size w' w'') := fun w' h1 h2 => toImage_two k d wd hi ca cn cc pa pn pc cs ps w' h1 hcn (by omega) h2 hpn (by omega)
  have HEQ0 : Hid (∀ (x y u v : Option Addr) (w' : World), Ints w' x cs → Ints w' y ps → Ints w' u cs → Ints w' v ps → Calls Tryd.prog 8 #[.agg #[.int .i64 k, .int .i64 d, .int .i64 wd, .int .i64 hi, .slice x cn cn, .slice y pn pn], .agg #[.int .i64 k, .int .i64 d, .int .i64 wd, .int .i64 hi, .slice u cn cn, .slice v pn pn]] w' fun e w'' => e = .returned (.bool true) ∧ Below w'.heap.size w' w'') := fun x y u v w' h1 h2 h3 h4 => eqImage_same k d wd hi x cn y pn u cn v pn cn pn cs ps w' h1 h2 h3 h4 hcn (by omega) hpn (by omega)
  have hd0 : decide (1048576 - (cn : Int) - (pn : Int) < 0) = false := by simp; omega
  have HIC : Hid (∀ w', Below w.heap.size w w' → Ints w' ca cs) := fun w' b => hIc.kept b
  have HIP : Hid (∀ w', Below w.heap.size w w' → Ints w' pa ps) := fun w' b => hIp.kept b
  clear hIc hIp hcn hpn hSP hIM hsum
  go_enter Tryd.func3, Tryd.ntmps3
  go_wp2_with fail
  refine HZ.out.mono ?_
  rintro e w1 ⟨rfl, b1⟩
  have A1 : Hid (Bx w1 w.heap.size (.int .i64 k) (.int .i64 d) (.int .i64 wd) (.int .i64 hi) (.slice ca cn cc) (.slice pa pn pc)) := (bx_new w _ _ _ _ _ _ 24).kept b1
  have bel1 : Below w.heap.size w w1 := hB0.trans (b1.mono hB0.size)
  obtain ⟨_, a0, a1, a2, a3, a4, a5⟩ := A1.out
  clear b1 HZ hB0
  go_wp2_with fail
  refine (HTO.out w1 (HIC.out _ bel1) (HIP.out _ bel1)).mono ?_
  rintro e w2 ⟨⟨x2, y2, rfl, T2⟩, b2⟩
  have A2 : Hid (Bx w2 w.heap.size (.int .i64 k) (.int .i64 d) (.int .i64 wd) (.int .i64 hi) (.slice ca cn cc) (.slice pa pn pc)) := A1.out.kept b2
  have bel2 : Below w.heap.size w w2 := bel1.trans (b2.mono bel1.size)
  have T2i : Hid (Ints w2 x2 cs ∧ Ints w2 y2 ps) := T2.ints
  clear b2 bel1 A1 T2 a0 a1 a2 a3 a4 a5
  go_wp2_with fail
  refine (HSP.out x2 y2 w2 T2i.out.1 T2i.out.2).mono ?_
  rintro e w3 ⟨rfl, b3⟩
  have A3 : Hid (Bx w3 w.heap.size (.int .i64 k) (.int .i64 d) (.int .i64 wd) (.int .i64 hi) (.slice ca cn cc) (.slice pa pn pc)) := A2.out.kept b3
  have bel3 : Below w.heap.size w w3 := bel2.trans (b3.mono bel2.size)
  obtain ⟨_, a0, a1, a2, a3, a4, a5⟩ := A3.out
  clear b3 bel2 A2 T2i HSP
  go_wp2_with fail
  refine (HTO.out w3 (HIC.out _ bel3) (HIP.out _ bel3)).mono ?_
  rintro e w5 ⟨⟨x5, y5, rfl, T5⟩, b5⟩
  have b6 : Below w5.heap.size w5 (w5.alloc (.cells #[.int .i64 k, .int .i64 d, .int .i64 wd, .int .i64 hi, .slice x5 cn cn, .slice y5 pn pn] 27)) := (Below.refl _ _).alloc (Nat.le_refl _) _
  have A6 : Hid (Bx (w5.alloc (.cells #[.int .i64 k, .int .i64 d, .int .i64 wd, .int .i64 hi, .slice x5 cn cn, .slice y5 pn pn] 27)) w.heap.size (.int .i64 k) (.int .i64 d) (.int .i64 wd) (.int .i64 hi) (.slice ca cn cc) (.slice pa pn pc)) := (A3.out.kept b5).kept b6
  have X6 : Hid (Bx (w5.alloc (.cells #[.int .i64 k, .int .i64 d, .int .i64 wd, .int .i64 hi, .slice x5 cn cn, .slice y5 pn pn] 27)) w5.heap.size (.int .i64 k) (.int .i64 d) (.int .i64 wd) (.int .i64 hi) (.slice x5 cn cn) (.slice y5 pn pn)) := bx_new w5 _ _ _ _ _ _ 27
  have I6 : Hid (Ints (w5.alloc (.cells #[.int .i64 k, .int .i64 d, .int .i64 wd, .int .i64 hi, .slice x5 cn cn, .slice y5 pn pn] 27)) x5 cs ∧ Ints (w5.alloc (.cells #[.int .i64 k, .int .i64 d, .int .i64 wd, .int .i64 hi, .slice x5 cn cn, .slice y5 pn pn] 27)) y5 ps) := ⟨T5.ints.1.kept b6, T5.ints.2.kept b6⟩
  have bel5 : Below w.heap.size w w5 := bel3.trans (b5.mono bel3.size)
  have bel6 : Hid (Below w.heap.size w (w5.alloc (.cells #[.int .i64 k, .int .i64 d, .int .i64 wd, .int .i64 hi, .slice x5 cn cn, .slice y5 pn pn] 27))) := bel5.trans (b6.mono bel5.size)
  clear b5 b6 bel3 bel5 A3 T5 a0 a1 a2 a3 a4 a5
  go_wp2_with fail
  refine (HIM.out x5 y5 _ bel6.out I6.out.1 I6.out.2).mono ?_
  rintro e w7 ⟨rfl, b7⟩
  have A7 : Hid (Bx w7 w.heap.size (.int .i64 k) (.int .i64 d) (.int .i64 wd) (.int .i64 hi) (.slice ca cn cc) (.slice pa pn pc)) := A6.out.kept b7
  have X7 : Hid (Bx w7 w5.heap.size (.int .i64 k) (.int .i64 d) (.int .i64 wd) (.int .i64 hi) (.slice x5 cn cn) (.slice y5 pn pn)) := X6.out.kept b7
  have I7 : Hid (Ints w7 x5 cs ∧ Ints w7 y5 ps) := ⟨I6.out.1.kept b7, I6.out.2.kept b7⟩
  have bel7 : Hid (Below w.heap.size w w7) := bel6.out.trans (b7.mono bel6.out.size)
  clear b7 A6 X6 I6 bel6 HIM
  generalize w5.heap.size = XB at *
  obtain ⟨_, a0, a1, a2, a3, a4, a5⟩ := A7.out
  obtain ⟨_, x0, x1, x2', x3, x4, x5'⟩ := X7.out
  go_wp2_with fail
  refine wp_region_held_drew (S := fun w' => w'.cell? ⟨w.heap.size, 0, none⟩ = some (.int .i64 k) ∧ w'.cell? ⟨w.heap.size, 1, none⟩ = some (.int .i64 d) ∧ w'.cell? ⟨w.heap.size, 2, none⟩ = some (.int .i64 wd) ∧ w'.cell? ⟨w.heap.size, 3, none⟩ = some (.int .i64 hi) ∧ w'.cell? ⟨w.heap.size, 4, none⟩ = some (.slice ca cn cc) ∧ w'.cell? ⟨w.heap.size, 5, none⟩ = some (.slice pa pn pc) ∧ w'.cell? ⟨XB, 0, none⟩ = some (.int .i64 k) ∧ w'.cell? ⟨XB, 1, none⟩ = some (.int .i64 d) ∧ w'.cell? ⟨XB, 2, none⟩ = some (.int .i64 wd) ∧ w'.cell? ⟨XB, 3, none⟩ = some (.int .i64 hi) ∧ w'.cell? ⟨XB, 4, none⟩ = some (.slice x5 cn cn) ∧ w'.cell? ⟨XB, 5, none⟩ = some (.slice y5 pn pn)) (by kernel_rfl) ⟨a0, a1, a2, a3, a4, a5, x0, x1, x2', x3, x4, x5'⟩ (fun hHeld => ?_)
  refine wpAnyH_take (i := 0) (v := .agg #[.int .i64 k, .int .i64 d, .int .i64 wd, .int .i64 hi, .slice x5 cn cn, .slice y5 pn pn]) rfl (by kernel_rfl) (by kernel_rfl) (by kernel_rfl) (fun _ _ _ h => h) (Or.inl ⟨by rfl, ?_⟩) hHeld ?_
  · intro w' hSw
    obtain ⟨s0, s1, s2, s3, s4, s5, s6, s7, s8, s9, s10, s11⟩ := hSw
    go_simp
  try simp only [List.getElem_toArray, List.getElem_cons_succ, List.getElem_cons_zero, Act.put, List.setIfInBounds_toArray, List.set_cons_zero, List.set_cons_succ]
  refine wpAnyH_take (i := 1) (v := .agg #[.int .i64 k, .int .i64 d, .int .i64 wd, .int .i64 hi, .slice ca cn cc, .slice pa pn pc]) rfl (by kernel_rfl) (by kernel_rfl) (by kernel_rfl) (fun _ _ _ h => h) (Or.inl ⟨by rfl, ?_⟩) hHeld ?_
  · intro w' hSw
    obtain ⟨s0, s1, s2, s3, s4, s5, s6, s7, s8, s9, s10, s11⟩ := hSw
    go_simp
  try simp only [List.getElem_toArray, List.getElem_cons_succ, List.getElem_cons_zero, Act.put, List.setIfInBounds_toArray, List.set_cons_zero, List.set_cons_succ]
  refine wpAnyH_ready (rs := [2]) (by kernel_rfl) (by simp) ?_
  refine AllReadyH.cons rfl (fun K hK => ?_) AllReadyH.nil
  go_simp
  refine (HTO.out w7.drew (HIC.out _ bel7.out.drew) (HIP.out _ bel7.out.drew)).mono ?_
  rintro e w8 ⟨⟨x8, y8, rfl, T8⟩, b8'⟩
  have b8 := box_drew b8'
  have A8 : Hid (Bx w8 w.heap.size (.int .i64 k) (.int .i64 d) (.int .i64 wd) (.int .i64 hi) (.slice ca cn cc) (.slice pa pn pc)) := A7.out.kept b8
  have X8 : Hid (Bx w8 XB (.int .i64 k) (.int .i64 d) (.int .i64 wd) (.int .i64 hi) (.slice x5 cn cn) (.slice y5 pn pn)) := X7.out.kept b8
  have I8 : Hid (Ints w8 x5 cs ∧ Ints w8 y5 ps ∧ Ints w8 x8 cs ∧ Ints w8 y8 ps) := ⟨I7.out.1.kept b8, I7.out.2.kept b8, T8.ints.1, T8.ints.2⟩
  have bel8 : Hid (Below w.heap.size w w8) := bel7.out.trans (b8.mono bel7.out.size)
  obtain ⟨_, c0, c1, c2, c3, c4, c5⟩ := A8.out
  obtain ⟨_, d0, d1, d2, d3, d4, d5⟩ := X8.out
  clear b8 b8' T8
  refine hK.out _ _ ⟨c0, c1, c2, c3, c4, c5, d0, d1, d2, d3, d4, d5⟩ (fun hHeld => ?_)
  clear hK K
  try simp only [List.getElem_toArray, List.getElem_cons_succ, List.getElem_cons_zero, Act.put, List.setIfInBounds_toArray, List.set_cons_zero, List.set_cons_succ]
  refine wpAnyH_ready (rs := [3]) (by kernel_rfl) (by simp) ?_
  refine AllReadyH.cons rfl (fun K hK => ?_) AllReadyH.nil
  go_simp
  refine (HEQ0.out x5 y5 x8 y8 _ I8.out.1 I8.out.2.1 I8.out.2.2.1 I8.out.2.2.2).mono ?_
  rintro e w9 ⟨rfl, b9⟩
  have A9 : Hid (Bx w9 w.heap.size (.int .i64 k) (.int .i64 d) (.int .i64 wd) (.int .i64 hi) (.slice ca cn cc) (.slice pa pn pc)) := A8.out.kept b9
  have X9 : Hid (Bx w9 XB (.int .i64 k) (.int .i64 d) (.int .i64 wd) (.int .i64 hi) (.slice x5 cn cn) (.slice y5 pn pn)) := X8.out.kept b9
  have bel9 : Hid (Below w.heap.size w w9) := bel8.out.trans (b9.mono bel8.out.size)
  obtain ⟨_, e0, e1, e2, e3, e4, e5⟩ := A9.out
  obtain ⟨_, f0, f1, f2, f3, f4, f5⟩ := X9.out
  clear b9
  refine hK.out _ _ ⟨e0, e1, e2, e3, e4, e5, f0, f1, f2, f3, f4, f5⟩ (fun hHeld => ?_)
  clear hK K
  try simp only [List.getElem_toArray, List.getElem_cons_succ, List.getElem_cons_zero, Act.put, List.setIfInBounds_toArray, List.set_cons_zero, List.set_cons_succ]
  refine wpAnyH_take (i := 4) (v := .bool false) rfl (by kernel_rfl) (by kernel_rfl) (by kernel_rfl) (fun _ _ _ h => h) (Or.inl ⟨by rfl, ?_⟩) hHeld ?_
  · intro w' hSw
    obtain ⟨s0, s1, s2, s3, s4, s5, s6, s7, s8, s9, s10, s11⟩ := hSw
    go_simp
  try simp only [List.getElem_toArray, List.getElem_cons_succ, List.getElem_cons_zero, Act.put, List.setIfInBounds_toArray, List.set_cons_zero, List.set_cons_succ]
  refine wpAnyH_done (by kernel_rfl) ?_ _
  try simp only [List.getElem_toArray, List.getElem_cons_succ, List.getElem_cons_zero, Act.put, List.setIfInBounds_toArray, List.set_cons_zero, List.set_cons_succ]
  clear hHeld
  go_wp2_with fail
  go_ret
  exact ⟨rfl, bel9.out⟩
end Go.Proofs.YtbfeonhokagdjaaDoor

/- A picture that came in by value, opened. -/
namespace Go.Proofs.YtbfeonhokagdjaaDoor
open Go.ChangeShapes Go.WideShapes Go.ChangeAt Go.RowKit

theorem array6 {α : Type} {cs : Array α} (h : cs.size = 6) : ∃ c0 c1 c2 c3 c4 c5, cs = #[c0, c1, c2, c3, c4, c5] := by
  obtain ⟨l⟩ := cs
  match l, h with
  | [c0, c1, c2, c3, c4, c5], _ => exact ⟨c0, c1, c2, c3, c4, c5, rfl⟩

theorem row64_trod {H : Type} {enc : TypeId × Value → H} {w : World} {base : Nat} {held : Bool} {n : Nat} {c : Value} {y : DataW H × List MemPlace} (h : DataW.trod enc Tryd.prog w base (fun _ => true) held n 22 [c] = some y) : ∃ a len cap, c = .slice a len cap ∧ Row64 w a len cap := by
  rcases open_ints Tryd.underlying22 Tryd.underlying3 (by kernel_rfl) h with ⟨hcs, _⟩ | ⟨a, len, cap, zs, hcs, hb, hl, hm, hlen, _, hcell, hwf⟩
  · simp only [List.cons.injEq, and_true] at hcs
    exact ⟨none, 0, 0, hcs, row64_of (zs := []) (.inl ⟨rfl, rfl, rfl, rfl⟩)⟩
  · simp only [List.cons.injEq, and_true] at hcs
    refine ⟨some a, len, cap, hcs, row64_of (zs := zs) (.inr ⟨a, rfl, hl, hm, ?_, hcell, hwf⟩)⟩
    rw [if_pos rfl] at hlen; exact hlen

theorem int_trod {H : Type} {enc : TypeId × Value → H} {w : World} {base : Nat} {held : Bool} {n : Nat} {c : Value} {y : DataW H × List MemPlace} (h : DataW.trod enc Tryd.prog w base (fun _ => true) held n 3 [c] = some y) : ∃ z, c = .int .i64 z ∧ (Lit.int .i64 z).wf = true := by
  obtain ⟨z, e, _, hw⟩ := DataW.trod_int Tryd.underlying3 h
  exact ⟨z, by simpa using e, hw⟩

set_option maxRecDepth 20000 in
/-- the value written out -/
theorem open_image {H : Type} {enc : TypeId × Value → H} {w : World} {base : Nat} {held : Bool} {r : Reach} {b0 : Nat} {v : Value} {d : DataW H} {p : List MemPlace} (hv : Value.okWide Tryd.prog w r b0 24 v) (h : DataW.Trod enc Tryd.prog w base (fun _ => true) held 24 v d p) :
    ∃ (k e wd hi : Int) (ca : Option Addr) (cn cc : Nat) (pa : Option Addr) (pn pc : Nat), v = .agg #[.int .i64 k, .int .i64 e, .int .i64 wd, .int .i64 hi, .slice ca cn cc, .slice pa pn pc] ∧ Row64 w ca cn cc ∧ Row64 w pa pn pc := by
  obtain ⟨cs, rfl, hsz⟩ := okWide_struct Tryd.underlying24 hv
  obtain ⟨c0, c1, c2, c3, c4, c5, rfl⟩ := array6 (hsz.trans (by kernel_rfl))
  obtain ⟨fuel, hf⟩ := h
  obtain ⟨xs, n, _, _, _, hl, hx⟩ := DataW.trod_struct Tryd.underlying24 hf
  have hl6 : xs.length = 6 := hl
  have key : ∀ i, i < 6 → ∃ y, xs[i]? = some y := fun i hi => ⟨xs[i]'(by omega), List.getElem?_eq_getElem (by omega)⟩
  have g0 := hx 0 _ rfl
  have g1 := hx 1 _ rfl
  have g2 := hx 2 _ rfl
  have g3 := hx 3 _ rfl
  have g4 := hx 4 _ rfl
  have g5 := hx 5 _ rfl
  simp only [Value.cells] at g0 g1 g2 g3 g4 g5
  obtain ⟨y0, e0⟩ := key 0 (by omega)
  obtain ⟨y1, e1⟩ := key 1 (by omega)
  obtain ⟨y2, e2⟩ := key 2 (by omega)
  obtain ⟨y3, e3⟩ := key 3 (by omega)
  obtain ⟨y4, e4⟩ := key 4 (by omega)
  obtain ⟨y5, e5⟩ := key 5 (by omega)
  obtain ⟨k, rfl, _⟩ := int_trod (c := c0) (g0.trans e0)
  obtain ⟨d', rfl, _⟩ := int_trod (c := c1) (g1.trans e1)
  obtain ⟨wd, rfl, _⟩ := int_trod (c := c2) (g2.trans e2)
  obtain ⟨hi, rfl, _⟩ := int_trod (c := c3) (g3.trans e3)
  obtain ⟨ca, cn, cc, rfl, hc⟩ := row64_trod (c := c4) (g4.trans e4)
  obtain ⟨pa, pn, pc, rfl, hp⟩ := row64_trod (c := c5) (g5.trans e5)
  exact ⟨k, d', wd, hi, ca, cn, cc, pa, pn, pc, rfl, hc, hp⟩
end Go.Proofs.YtbfeonhokagdjaaDoor
