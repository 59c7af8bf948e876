/- A region that draws its order, in the body of a loop over an iterator: what was walked outside of rounds serves there. -/
import Derived.Deep.RegionHeld
import Derived.RangeFuncCalls
import Derived.RangeFuncNested
import Derived.Test.YtejebodgfoihkaaGreatKFInflateTwox0
namespace Go.Proofs.YtejebodgfoihkaaGreat
open Go.RowKit

theorem round_ops {P:Program} {ops:Array Oper} {Q:Exit→Act→World→Prop} {r n:Nat} (hQ:∀a w,¬Q .outgrown a w) (hnd:∀(i:Nat) (o:Oper),ops[i]?=some o→∀c,o.op≠.defer c):
 ∀(l:List Nat) (a:Act) (w:World),wpOps P ops Q l a w→wpOpsIn (Fence.wide.inRound r) n P ops Q l a w
 | [],_,_,h=>h
 | i::rest,a,w,h=>by
  have ih:=round_ops (P:=P) (r:=r) (n:=n) hQ hnd rest
  simp only[wpOps,wpOpsIn] at h ⊢
  cases ho:ops[i]? with
  | none=>simp only[ho] at h ⊢;exact ih a w h
  | some o=>
   simp only[ho] at h ⊢
   by_cases hw:Region.wanted o (yielded ops a.tmps)=true
   · simp only[hw,if_true] at h ⊢
     rcases h with h|⟨_,a₀,w₀,hq⟩
     case inr=>exact (hQ _ _ hq).elim
     refine⟨fun _ _=>trivial,?_⟩
     rw[Oper.semAt_eq _ _ _ (hnd i o ho)]
     unfold Oper.wp at h
     generalize (execOp a.eval o).run P w=R at h ⊢
     match R,h with
     | .ok (.value v) w',h=>exact ih _ _ h
     | .ok .skip w',h=>exact ih _ _ h
     | .ok (.defer d) w',h=>exact ih _ _ h
     | .ok (.enter f args) w',h=>
      refine⟨fun hd=>(by simp[Fence.wide] at hd),?_⟩
      refine (CallsIn.inRound r (callsIn_wide.2 h)).mono ?_
      intro e w'' hr
      cases e with
      | returned v=>exact ih _ _ hr
      | panicked c=>exact hr
      | outgrown=>exact hr
     | .ok (.row row args) w',h=>
      refine⟨fun hd=>(by simp[Fence.wide] at hd),fun c cs _=>?_⟩
      obtain⟨v,w'',hr,hs⟩:=h c cs
      exact⟨v,w'',ih _ _ hr,stepsIn_wide.2 hs⟩
     | .ok (.round _ _ _ _ _) _,h=>exact h.elim
     | .halt x _,h=>cases x<;>first|exact h|exact h.elim
   simp only[hw,if_false,Bool.false_eq_true] at h ⊢
   exact⟨fun _ _=>trivial,ih _ _ h⟩

def noDefer (ops:Array Oper):Bool:=ops.all fun o=>match o.op with|.defer _=>false|_=>true
theorem noDefer_spec {ops:Array Oper} (h:noDefer ops=true) (i:Nat) (o:Oper) (ho:ops[i]?=some o) (c:Call):o.op≠.defer c:=by
 unfold noDefer at h
 rw[Array.all_eq_true] at h
 obtain⟨hi,he⟩:=Array.getElem?_eq_some_iff.1 ho
 have:=h i hi
 rw[he] at this
 intro e
 rw[e] at this
 cases this

theorem round_region {P:Program} {id:Nat} {ops:Array Oper} {Q:Exit→Act→World→Prop} {a:Act} {w:World} {r n:Nat} (hm:P.follows .mixedOrders=true) (hQ:∀a w,¬Q .outgrown a w) (hnd:noDefer ops=true)
 (h:wpAny P .any ops Q ops.size (Array.replicate ops.size false) a w.drew):(Code.region id ops true).wpIn (Fence.wide.inRound r) n P Q a w:=
 wpIn_region_draw fun t=>round_ops hQ (noDefer_spec hnd) _ _ _ (by
  simp only[Region.schedule,hm,Bool.true_or,if_true]
  exact wpAny_sound ops.size t _ a _ h)

end Go.Proofs.YtejebodgfoihkaaGreat
