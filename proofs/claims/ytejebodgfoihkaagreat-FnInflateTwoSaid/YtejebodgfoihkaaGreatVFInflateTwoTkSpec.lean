/- Tokens of a text, by the specification: some list of tokens. -/
import Derived.Deep.AppendLies
import Derived.Below
import Derived.BigQuiet
import Derived.Deep.QuietTactic
import Derived.Test.YtejebodgfoihkaaGreatKFInflateTwox0
namespace Go.Proofs.YtejebodgfoihkaaGreat
open Go.RowKit

theorem tkCells_snoc:∀(l:List Tk) (v s d:Int),tkCells l++[.int .i64 v,.int .i64 s,.int .i64 d]=tkCells (l++[(v,s,d)])
 | [],v,s,d=>rfl
 | p::l,v,s,d=>by simp only[tkCells,List.cons_append,tkCells_snoc l v s d]
theorem OwnK.more {w:World} {B n g cap:Nat} {l:List Tk} {v s d:Int} (h:w.ownsRow B 53 3 (.slice (some ⟨g,0,none⟩) (n+1) cap) (n+1) (tkCells l++[.int .i64 v,.int .i64 s,.int .i64 d])):
 OwnK w B (.slice (some ⟨g,0,none⟩) (n+1) cap) (n+1) (l++[(v,s,d)]):=by
 rw[tkCells_snoc] at h;exact h
theorem tk_own_none (w:World):OwnK (w.alloc (.cells #[] 53)) w.heap.size (.slice (some ⟨w.heap.size,0,none⟩) 0 0) 0 []:=
 World.ownsRow_lit w #[] 0 (Nat.le_refl _) (by decide) rfl

end Go.Proofs.YtejebodgfoihkaaGreat
