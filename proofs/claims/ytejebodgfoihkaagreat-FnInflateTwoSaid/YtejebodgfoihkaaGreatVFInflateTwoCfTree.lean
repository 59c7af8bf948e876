/- The lengths of the specification's tree: how great they can be. -/
import Derived.Deep.Cut
import Derived.Deep.CutRange
import Derived.Laws.Tables
import Derived.Deep.RegionHeld3
import Derived.StillTailTactics
import Derived.Test.YtejebodgfoihkaaGreatVFInflateTwoCfLeast
import Derived.Test.YtejebodgfoihkaaGreatKFInflateTwox0
namespace Go.Proofs.YtejebodgfoihkaaGreat
open Go.RowKit

theorem own_low {w w':World} {b n lo:Nat} {f:Nat→Int} (h:Own w b n f) (hb:Below lo w w') (hl:b<lo):Own w' b n f:=
 ⟨Nat.lt_of_lt_of_le h.1 hb.size,fun i hi=>⟨(hb.cell (p:=⟨b,i,none⟩) hl).trans (h.2 i hi).1,(hb.frozen (p:=⟨b,i,none⟩) hl).trans (h.2 i hi).2⟩⟩
theorem own_set {w:World} {b n k:Nat} {f g:Nat→Int} (v:Int) (h:Own w b n f) (hk:k<n) (hg:g k=v) (hf:∀i,i<n→i≠k→g i=f i):Own (w.setCell ⟨b,k,none⟩ (.int .i64 v)) b n g:=by
 refine⟨by rw[World.size_setCell];exact h.1,fun i hi=>⟨?_,?_⟩⟩
 · by_cases e:i=k
   · subst e
     rw[World.cell?_setCell_same _ _ _ (h.2 i hi).1,hg]
   rw[World.cell?_setCell_other _ _ _ _ (fun q=>e (congrArg Addr.off q).symm),hf i hi e];exact (h.2 i hi).1
 rw[World.frozen?_setCell];exact (h.2 i hi).2

theorem ownI_alloc {w:World} {B n:Nat} {v:Value} {l:List Int} (h:OwnI w B v n l) (o:Obj):OwnI (w.alloc o) B v n l:=World.ownsRow.alloc (show World.ownsRow _ _ _ _ _ _ _ from h) o
theorem own_not {w:World} {lo n Bn:Nat} {v:Value} {l:List Int} {cs:Array Value} {fr:Nat×Nat} (h:OwnI w lo v n l) (hb:w.heap[Bn]?=some (.cells cs 166 fr)):v.ownBlock≠some Bn:=fun e=>by
 rcases h.2 with⟨rfl,_⟩|⟨g,cap,cur,rfl,_,hg,_⟩
 · cases e
 simp[Value.ownBlock] at e
 subst e
 rw[hg] at hb
 cases hb
theorem box_cells {w:World} {Bn:Nat} {u v:Value} (h:w.heap[Bn]?=some (.cells #[u,v] 166 (0,0))):w.cell? ⟨Bn,0,none⟩=some u∧w.cell? ⟨Bn,1,none⟩=some v∧w.frozen? ⟨Bn,0,none⟩=false∧w.frozen? ⟨Bn,1,none⟩=false:=by
 simp[World.cell?,World.frozen?,h]
theorem step_app_n {w:World} {ops:Array Oper} {o:Oper} {a:Act} {K:Act→World→Prop} {Q:Exit→Act→World→Prop} {E:Prop} (hgd:o.guard=none) (s x:Operand)
 (ho:o.op=.call { callee:=.builtin .append,args:=#[s,x],argTypes:=#[30,30] })
 (base:Nat) (v:Value) (n N:Nat) (l l2:List Int) (hs:a.eval s=v) (hown:OwnI w base v n l) (ca:Option Addr) (m c:Nat) (cs:List Int) (hx:a.eval x=.slice ca m c) (hc:Ints w ca cs) (hm:cs.length=m) (hN:n+m=N) (hl:l++cs=l2) (h63:N≤9000000) (hbase:base≤w.heap.size)
 (h:∀a' cap w',OwnI w' base (.slice a' N cap) N l2→w.grownBy w' v.ownBlock→K (a.put o.dst (.slice a' N cap)) w'):
 if Region.wanted o (yielded ops a.tmps)=true then Oper.wp Tryz.prog o a w K Q else E:=by
 subst hN
 subst hl
 exact step_append_ints hgd s x ho base v n l hs hown ca m c cs hx hc hm h63 hbase h
def T13 (Q:Nat) (w3:World) (Bn WT:Nat) (s:Sy) (l:List Nat) (wc:World):Prop:=
 Below w3.heap.size w3 wc∧w3.heap.size≤Bn∧wc.heap[Bn]?=some (.cells #[.int .i64 (WT:Int),syV s] 166 (0,0))∧SymRow Q wc s∧s.2.2=l
theorem t13_mk {Q:Nat} {w3 X:World} {Bn WT LT c:Nat} {a:Option Addr} {u v:Value} {lx ly:List Nat} (b:Below w3.heap.size w3 X) (nb:X.heap[Bn]?=some (.cells #[u,v] 166 (0,0))) (hB:w3.heap.size≤Bn)
 (o:OwnI X w3.heap.size (.slice a LT c) LT ((lx++ly).map (fun x:Nat=>(x:Int)))) (hQ:Q<w3.heap.size):
 T13 Q w3 Bn WT (a,c,lx++ly) (lx++ly) ((X.setCell ⟨Bn,0,none⟩ (.int .i64 (WT:Int))).setCell ⟨Bn,1,none⟩ (.slice a LT c)):=by
 have hlen:(lx++ly).length=LT:=by have:=o.len;rw[List.length_map] at this;exact this
 have h1:(X.setCell ⟨Bn,0,none⟩ (.int .i64 (WT:Int))).heap[Bn]?=some (.cells #[.int .i64 (WT:Int),v] 166 (0,0)):=by
  rw[setCell_eq_setRow X Bn 0 _ _ (0,0) _ nb]
  exact setRow_heap X Bn _ _ _ _ nb
 have h2:((X.setCell ⟨Bn,0,none⟩ (.int .i64 (WT:Int))).setCell ⟨Bn,1,none⟩ (.slice a LT c)).heap[Bn]?=some (.cells #[.int .i64 (WT:Int),.slice a LT c] 166 (0,0)):=by
  rw[setCell_eq_setRow _ Bn 1 _ _ (0,0) _ h1]
  exact setRow_heap _ Bn _ _ _ _ h1
 refine⟨(b.setCell (p:=⟨Bn,0,none⟩) hB _).setCell (p:=⟨Bn,1,none⟩) hB _,hB,?_,?_,rfl⟩
 · rw[h2]
   unfold syV
   rw[hlen]
 have hs:SymRow Q X (a,c,lx++ly):=symRow_own o hQ
 refine⟨hs.1,?_⟩
 rcases hs.2 with e|⟨g,cs,fr,e1,e2,e3,e4⟩
 · exact .inl e
 refine .inr ⟨g,cs,fr,e1,e2,?_,e4⟩
 have hgB:g≠Bn:=fun e=>by
  subst e
  rw[nb] at e3
  cases e3
 rw[Below.heap_setCell _ ⟨Bn,1,none⟩ _ _ hgB,Below.heap_setCell _ ⟨Bn,0,none⟩ _ _ hgB]
 exact e3

def lenV:Value→Nat
 | .slice _ m _=>m
 | _=>0
def TrS (w:World) (n:Nat) (ps:List Cf.Nd) (f:Nat→Nat) (v:Value) (wr:World):Prop:=
 (∃ss:List Sy,ss.map (fun s=>s.2.2)=ps.map (fun p:Cf.Nd=>p.2)∧Nodes w.heap.size (w.heap.size+1) wr v ((ps.map (fun p:Cf.Nd=>p.1)).map (fun x=>x.1)) ss)∧Own wr w.heap.size n (fun i=>(f i:Int))∧Below w.heap.size w wr∧w.heap.size<wr.heap.size
end Go.Proofs.YtejebodgfoihkaaGreat
