/- What BitsPut answers, in plain mathematics. -/
import Derived.Test.YtoocijfkckjbfaoBpMath
namespace Go.Proofs.Ytoocijfkckjbfao

/-- what BitsPut answers -/
def Bp.answer (hi : Bool) (l : List (Int × Int)) : List Nat := if (∀ j (h : j < l.length), Bp.Ok l[j] ∧ Bp.tot l (j + 1) ≤ 72000) then Bp.text hi l else []

theorem Bp.answer_yes {hi : Bool} {l : List (Int × Int)} (h : Bp.Fits l l.length) : Bp.answer hi l = Bp.text hi l := by
  unfold Bp.answer
  rw [if_pos (fun j hj => h j hj hj)]
theorem Bp.answer_no {hi : Bool} {l : List (Int × Int)} (h : ¬ Bp.Fits l l.length) : Bp.answer hi l = [] := by
  unfold Bp.answer
  rw [if_neg (fun g => h (fun j hj _ => g j hj))]

end Go.Proofs.Ytoocijfkckjbfao
