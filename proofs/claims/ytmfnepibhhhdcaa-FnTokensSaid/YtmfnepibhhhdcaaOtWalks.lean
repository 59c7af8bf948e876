/- Bytes that are put out, so many at most. -/
import Derived.Test.YtmfnepibhhhdcaaFault
import Derived.Test.YtmfnepibhhhdcaaOwnText
import Derived.Test.YtmfnepibhhhdcaaOffB
import Derived.RangeFuncBox
import Derived.Deep.RegionHeld
namespace Go.Proofs.Ytmfnepibhhhdcaa
open Go.RowKit

/-- what is put out: its bytes and its limit -/
def Ot (w : World) (O : Nat) (v : Value) (lim : Nat) : Prop := w.heap[O]? = some (.cells #[v, .int .i64 (lim : Int)] 73 (0, 0))
theorem Ot.lt {w : World} {O lim : Nat} {v : Value} (h : Ot w O v lim) : O < w.heap.size := (Array.getElem?_eq_some_iff.1 h).1
theorem Ot.cells {w : World} {O lim : Nat} {v : Value} (h : Ot w O v lim) : w.cell? ⟨O, 0, none⟩ = some v ∧ w.cell? ⟨O, 1, none⟩ = some (.int .i64 (lim : Int)) ∧ w.frozen? ⟨O, 0, none⟩ = false := by
  refine ⟨?_, ?_, ?_⟩ <;> simp [World.cell?, World.frozen?, show w.heap[O]? = _ from h]
theorem Ot.other {w w' : World} {O C lim : Nat} {v : Value} (h : Ot w O v lim) (o : Only C w w') (hO : O ≠ C) : Ot w' O v lim := (o.rest _ h.lt hO).trans h
theorem Ot.set {w : World} {O lim : Nat} {v : Value} (h : Ot w O v lim) (v' : Value) : Ot (w.setCell ⟨O, 0, none⟩ v') O v' lim := by
  unfold Ot
  rw [setCell_eq_setRow w O 0 _ _ (0, 0) _ h]
  exact setRow_heap w O _ _ _ _ h
theorem OwnT.through {w w' : World} {B C n : Nat} {v : Value} {l : List UInt8} (h : OwnT w B v n l) (ho : Only C w w') (hC : C < B) : OwnT w' B v n l := by
  refine World.ownsRow.kept (show World.ownsRow _ _ _ _ _ _ _ from h) (row := some C) ⟨ho.below.os, ho.below.tape, ho.below.output, ho.below.size, fun k hk hne => ho.rest k hk (fun e => hne (by rw [e]))⟩ (.inr (fun e => ?_))
  have := (World.ownsRow.lt (show World.ownsRow _ _ _ _ _ _ _ from h) C (by first | exact e | exact e.symm)).1
  omega
theorem OwnT.shape {w : World} {B n : Nat} {v : Value} {l : List UInt8} (h : OwnT w B v n l) : ∃ ao cap, v = .slice ao n cap := by
  rcases h.2 with ⟨rfl, h0⟩ | ⟨g, cap, cur, rfl, _⟩
  · exact ⟨none, 0, by rw [h0]⟩
  · exact ⟨_, _, rfl⟩

/-- one byte was put out -/
def Put1 (w : World) (O base lim n : Nat) (l : List UInt8) (w' : World) : Prop := ∃ v, Ot w' O v lim ∧ OwnT w' base v n l ∧ Off O O base w w' ∧ base ≤ w'.heap.size

set_option maxHeartbeats 2000000 in
theorem put_yes (O base lim n : Nat) (v : Value) (l : List UInt8) (c : UInt8) (w : World) (h : Ot w O v lim) (hv : OwnT w base v n l) (hO : O < base) (hb : base ≤ w.heap.size) (hn : n < lim) (hl : lim ≤ 5000) :
    Calls Try.prog 92 #[.pointer (some ⟨O, 0, none⟩), .int .u8 ((c.toNat : Nat) : Int)] w fun e w' => e = .returned (.tuple #[]) ∧ Put1 w O base lim (n + 1) (l ++ [c]) w' := by
  obtain ⟨ao, cap, rfl⟩ := hv.shape
  obtain ⟨c0, c1, f0⟩ := h.cells
  have HO : Hid (Ot w O (.slice ao n cap) lim ∧ OwnT w base (.slice ao n cap) n l) := ⟨h, hv⟩
  have hni : (n : Int) < (lim : Int) := by omega
  have hc := UInt8.toNat_lt c
  obtain ⟨z, hz⟩ : ∃ z : Int, z = ((c.toNat : Nat) : Int) := ⟨_, rfl⟩
  have HZ : Hid (z = ((c.toNat : Nat) : Int)) := hz
  rw [← hz]
  clear h hv hz hc
  go_enter Try.func92, Try.ntmps92
  go_wp2_with fail
  go_quiet ((go_at_call 90; exact Calls.quiet_of_same (insist_of _ 3 _ (by first | rfl | simp <;> omega))))
  have c0' : (w.drewN nq).cell? ⟨O, 0, none⟩ = some (.slice ao n cap) := c0
  have HO' : Hid (Ot (w.drewN nq) O (.slice ao n cap) lim ∧ OwnT (w.drewN nq) base (.slice ao n cap) n l ∧ Off O O base w (w.drewN nq) ∧ base ≤ (w.drewN nq).heap.size) := ⟨HO.out.1, HO.out.2, (Off.refl _ _ _ _).drewN nq, hb⟩
  clear c0 c1 f0 HO hb hni
  generalize w.drewN nq = w1 at *
  go_wp2_with (at_builtin; refine wpList_appT1 w1 (by rfl) _ _ (by rfl) base _ n l _ c HZ.out (by rfl) HO'.out.2.1 (by rfl) (by omega) HO'.out.2.2.2 ?_)
  intro g cap4 w4 hown4 hgrow
  have hO4 : Ot w4 O (.slice ao n cap) lim := (hgrow.block O HO'.out.1.lt (fun e => by have := (hgrow.own O e.symm).1; omega)).trans HO'.out.1
  obtain ⟨k0, k1, k2⟩ := hO4.cells
  have HF : Hid (Put1 w O base lim (n + 1) (l ++ [c]) (w4.setCell ⟨O, 0, none⟩ (.slice (some ⟨g, 0, none⟩) (n + 1) cap4))) := by
    refine ⟨_, hO4.set _, ?_, ?_, ?_⟩
    · refine World.ownsRow.kept (show World.ownsRow _ _ _ _ _ _ _ from hown4) (row := some O) ⟨rfl, rfl, rfl, by simp, fun k hk hne => Below.heap_setCell w4 ⟨O, 0, none⟩ _ k (fun e => hne (by rw [e]))⟩ (.inr (fun e => ?_))
      have := (World.ownsRow.lt (show World.ownsRow _ _ _ _ _ _ _ from hown4) O (by first | exact e | exact e.symm)).1
      omega
    · refine HO'.out.2.2.1.trans ⟨hgrow.os, hgrow.tape, hgrow.output, by simpa using hgrow.size, fun k hk h1 _ => (Below.heap_setCell w4 ⟨O, 0, none⟩ _ k h1).trans (hgrow.block k (Nat.lt_of_lt_of_le hk HO'.out.2.2.2) (fun e => by have := (hgrow.own k e.symm).1; omega))⟩
    · rw [World.size_setCell]; exact Nat.le_trans HO'.out.2.2.2 hgrow.size
  clear hO4 hown4 hgrow HO'
  go_wp2_with fail
  go_end0
  exact ⟨rfl, HF.out⟩

set_option linter.unusedSimpArgs false in
set_option maxHeartbeats 2000000 in
theorem put_no (O base lim n : Nat) (v : Value) (l : List UInt8) (z : Int) (w : World) (h : Ot w O v lim) (hv : OwnT w base v n l) (hn : lim ≤ n) :
    Calls Try.prog 92 #[.pointer (some ⟨O, 0, none⟩), .int .u8 z] w fun e w' => e = fault 3 ∧ ∃ q, w' = w.drewN q := by
  obtain ⟨ao, cap, rfl⟩ := hv.shape
  obtain ⟨c0, c1, f0⟩ := h.cells
  have hni : ¬ (n : Int) < (lim : Int) := by omega
  clear h hv f0
  go_enter Try.func92, Try.ntmps92
  go_wp2_with fail
  refine wp_region_held_drew (S := fun w' => w'.cell? ⟨O, 0, none⟩ = some (.slice ao n cap) ∧ w'.cell? ⟨O, 1, none⟩ = some (.int .i64 (lim : Int))) (by kernel_rfl) ⟨c0, c1⟩ (fun _ => ?_)
  refine wpAnyH_take (i := 0) (v := .pointer (some ⟨O, 0, none⟩)) rfl (by kernel_rfl) (by kernel_rfl) (by kernel_rfl) (fun _ _ _ h => h) (Or.inl ⟨by rfl, ?_⟩) ⟨c0, c1⟩ ?_
  · rintro w' ⟨s1, s2⟩
    go_simp
    try omega
  try simp only [Act.put, List.setIfInBounds_toArray, List.set_cons_zero, List.set_cons_succ]
  refine wpAnyH_take (i := 1) (v := .pointer (some ⟨O, 0, none⟩)) rfl (by kernel_rfl) (by kernel_rfl) (by kernel_rfl) (fun _ _ _ h => h) (Or.inl ⟨by rfl, ?_⟩) ⟨c0, c1⟩ ?_
  · rintro w' ⟨s1, s2⟩
    go_simp
    try omega
  try simp only [Act.put, List.setIfInBounds_toArray, List.set_cons_zero, List.set_cons_succ]
  refine wpAnyH_take (i := 2) (v := .pointer (some ⟨O, 0, none⟩)) rfl (by kernel_rfl) (by kernel_rfl) (by kernel_rfl) (fun _ _ _ h => h) (Or.inl ⟨by rfl, ?_⟩) ⟨c0, c1⟩ ?_
  · rintro w' ⟨s1, s2⟩
    go_simp
    try omega
  try simp only [Act.put, List.setIfInBounds_toArray, List.set_cons_zero, List.set_cons_succ]
  refine wpAnyH_take (i := 3) (v := .slice ao n cap) rfl (by kernel_rfl) (by kernel_rfl) (by kernel_rfl) (fun _ _ _ h => h) (Or.inl ⟨by rfl, ?_⟩) ⟨c0, c1⟩ ?_
  · rintro w' ⟨s1, s2⟩
    go_simp
    try omega
  try simp only [Act.put, List.setIfInBounds_toArray, List.set_cons_zero, List.set_cons_succ]
  refine wpAnyH_take (i := 4) (v := .int .i64 (n : Int)) rfl (by kernel_rfl) (by kernel_rfl) (by kernel_rfl) (fun _ _ _ h => h) (Or.inl ⟨by rfl, ?_⟩) ⟨c0, c1⟩ ?_
  · rintro w' ⟨s1, s2⟩
    go_simp
    try omega
  try simp only [Act.put, List.setIfInBounds_toArray, List.set_cons_zero, List.set_cons_succ]
  refine wpAnyH_take (i := 5) (v := .pointer (some ⟨O, 0, none⟩)) rfl (by kernel_rfl) (by kernel_rfl) (by kernel_rfl) (fun _ _ _ h => h) (Or.inl ⟨by rfl, ?_⟩) ⟨c0, c1⟩ ?_
  · rintro w' ⟨s1, s2⟩
    go_simp
    try omega
  try simp only [Act.put, List.setIfInBounds_toArray, List.set_cons_zero, List.set_cons_succ]
  refine wpAnyH_take (i := 6) (v := .pointer (some ⟨O, 0, none⟩)) rfl (by kernel_rfl) (by kernel_rfl) (by kernel_rfl) (fun _ _ _ h => h) (Or.inl ⟨by rfl, ?_⟩) ⟨c0, c1⟩ ?_
  · rintro w' ⟨s1, s2⟩
    go_simp
    try omega
  try simp only [Act.put, List.setIfInBounds_toArray, List.set_cons_zero, List.set_cons_succ]
  refine wpAnyH_take (i := 7) (v := .pointer (some ⟨O, 1, none⟩)) rfl (by kernel_rfl) (by kernel_rfl) (by kernel_rfl) (fun _ _ _ h => h) (Or.inl ⟨by rfl, ?_⟩) ⟨c0, c1⟩ ?_
  · rintro w' ⟨s1, s2⟩
    go_simp
    try omega
  try simp only [Act.put, List.setIfInBounds_toArray, List.set_cons_zero, List.set_cons_succ]
  refine wpAnyH_take (i := 8) (v := .int .i64 (lim : Int)) rfl (by kernel_rfl) (by kernel_rfl) (by kernel_rfl) (fun _ _ _ h => h) (Or.inl ⟨by rfl, ?_⟩) ⟨c0, c1⟩ ?_
  · rintro w' ⟨s1, s2⟩
    go_simp
    try omega
  try simp only [Act.put, List.setIfInBounds_toArray, List.set_cons_zero, List.set_cons_succ]
  refine wpAnyH_take (i := 9) (v := .bool false) rfl (by kernel_rfl) (by kernel_rfl) (by kernel_rfl) (fun _ _ _ h => h) (Or.inl ⟨by rfl, ?_⟩) ⟨c0, c1⟩ ?_
  · rintro w' ⟨s1, s2⟩
    go_simp
    try omega
  try simp only [Act.put, List.setIfInBounds_toArray, List.set_cons_zero, List.set_cons_succ]
  refine wpAnyH_ready (rs := [10]) (by kernel_rfl) (by simp) ?_
  refine AllReadyH.cons rfl (fun K hK => ?_) AllReadyH.nil
  go_simp
  refine (insist_no 3 _).mono ?_
  rintro e w2 ⟨rfl, rfl⟩
  unfold fault
  go_wp2_with fail
  exact ⟨rfl, rfl, 1, rfl⟩

end Go.Proofs.Ytmfnepibhhhdcaa
