/- CodeMake of the specification. -/
import Derived.Test.YtjdilanmkgodnaaMakeWalks
namespace Go.Proofs.Ytjdilanmkgodnaa
open Go.RowKit

set_option maxHeartbeats 400000 in
theorem spec_codeMake (a : Option Addr) (cap n : Nat) (zs : List Int) (w : World) (h : Ints w a zs) (hn : zs.length = n) (hl : n ≤ 1048576) :
    Calls Try.prog 11 #[.slice a n cap] w fun e w' => (∃ x c, e = .returned (.slice x (mkB zs).length c) ∧ Owns w' w.heap.size x (mkB zs)) ∧ Below w.heap.size w w' := by
  cases hy : Cd.okB zs
  · have HC : Hid (Calls Try.prog 13 #[.slice a n cap] w fun e w' => e = .returned (.bool false) ∧ w' = w) := by
      have := spec_codeOk a cap n zs w h hn hl; rw [hy] at this; exact this
    rw [mkB_no hy]
    clear h hn hy
    go_enter Try.func11, Try.ntmps11
    go_wp2_with fail
    refine HC.out.mono ?_
    rintro e w0 ⟨rfl, hw0⟩
    subst hw0
    go_wp2_with fail
    go_ret
    exact ⟨⟨_, _, rfl, .inl rfl⟩, (Below.refl _ _).alloc (Nat.le_refl _) _⟩
  · have h3 := okB_len' hy
    have HC : Hid (Calls Try.prog 13 #[.slice a n cap] w fun e w' => e = .returned (.bool true) ∧ w' = w) := by
      have := spec_codeOk a cap n zs w h hn hl; rw [hy] at this; exact this
    have HM : Hid (Calls Try.prog 33 #[.slice a n cap] w fun e w' => e = .returned (.slice (some ⟨w.heap.size, 0, none⟩) n n) ∧ w' = w.alloc (.cells (arr (Mk.mk zs)) 3)) := l3Make_any a cap n zs w h hn (by omega)
    have HL : Hid ((Mk.mk zs).length = n) := by show _ = _; rw [Mk.mk_len, hn]
    rw [mkB_yes hy]
    clear h hn hy
    generalize Mk.mk zs = ms at *
    go_enter Try.func11, Try.ntmps11
    go_wp2_with fail
    refine HC.out.mono ?_
    rintro e w0 ⟨rfl, hw0⟩
    subst hw0
    go_wp2_with fail
    refine HM.out.mono ?_
    rintro e w1 ⟨rfl, hw1⟩
    subst hw1
    go_wp2_with fail
    go_ret
    exact ⟨⟨_, n, by rw [HL.out]; rfl, owns_arr _ _⟩, (Below.refl _ _).alloc (Nat.le_refl _) _⟩
end Go.Proofs.Ytjdilanmkgodnaa
