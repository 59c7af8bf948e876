/- What BitsPut answers, in plain mathematics. -/
import Derived.Test.YtjfihmpnbblomaaBpMath
namespace Go.Proofs.Ytjfihmpnbblomaa

/-- what BitsPut answers -/
def Bp.answer (hi : Bool) (l : List (Int × Int)) : List Nat := if (∀ j (h : j < l.length), Bp.okB l[j] = true ∧ Bp.tot l (j + 1) ≤ 72000) then Bp.text hi l else []

theorem Bp.answer_yes {hi : Bool} {l : List (Int × Int)} (h : Bp.Fits l l.length) : Bp.answer hi l = Bp.text hi l := by
  unfold Bp.answer
  rw [if_pos (fun j hj => ⟨Bp.okB_true (h j hj hj).1, (h j hj hj).2⟩)]
theorem Bp.answer_no {hi : Bool} {l : List (Int × Int)} (h : ¬ Bp.Fits l l.length) : Bp.answer hi l = [] := by
  unfold Bp.answer
  rw [if_neg (fun g => h (fun j hj _ => ⟨Bp.okB_ok (g j hj).1, (g j hj).2⟩))]

end Go.Proofs.Ytjfihmpnbblomaa
