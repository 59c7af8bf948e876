/- Texts laid together: CtMem. -/
import Derived.Test.YtejebodgfoihkaaGreatKFInflateTwox0
import Derived.Test.YtejebodgfoihkaaGreatVFInflateTwoHpPop
/- The tree of a code in memory, and the heap of its nodes. -/
namespace Go.Proofs.YtejebodgfoihkaaGreat
open Go.RowKit
open Ct (Tr Nt)

def nodeC (s:Int) (x y:Value) (o p:Nat):Obj:=.cells #[.int .i64 s,x,y,.int .i64 (o:Int),.int .i64 (p:Int)] 141 (0,0)
def TreeAt (W:World):Nat→Tr→Prop
 | k,.leaf s=>∃o p,W.heap[k]?=some (nodeC (s:Int) (.pointer none) (.pointer none) o p)
 | k,.node l r=>∃kl kr o p,W.heap[k]?=some (nodeC (-1) (ptN kl) (ptN kr) o p)∧TreeAt W kl l∧TreeAt W kr r
def NodesK (W W':World):Prop:=∀(k:Nat) (cs:Array Value),W.heap[k]?=some (.cells cs 141 (0,0))→W'.heap[k]?=some (.cells cs 141 (0,0))
theorem TreeAt.kept {W W':World} (h:NodesK W W'):∀{t:Tr} {k:Nat},TreeAt W k t→TreeAt W' k t
 | .leaf _,k,⟨o,p,e⟩=>⟨o,p,h k _ e⟩
 | .node _ _,k,⟨kl,kr,o,p,e,h1,h2⟩=>⟨kl,kr,o,p,h k _ e,TreeAt.kept h h1,TreeAt.kept h h2⟩
theorem NodesK.of_hp {L Hb:Nat} {W W':World} (h:HpG L Hb W W') (hb:∃v,Boxed W Hb 161 v):NodesK W W':=fun k cs e=>by
 obtain⟨v,hv⟩:=hb
 refine h.same k _ e (fun ek=>?_) (by show (141:TypeId)≠137;decide)
 rw[ek,show W.heap[Hb]?=_ from hv] at e
 cases e
theorem NodesK.of_below {W W':World} (h:Below W.heap.size W W'):NodesK W W':=fun k _ e=>(h.block k (Array.getElem?_eq_some_iff.1 e).1).trans e
abbrev tD:Nt:=(0,Tr.leaf 0)
structure Gs (W:World) (K:Nat→Hp.Key) (ks:List Nat) (ts:List Nt) (P:Nat):Prop where
 keys:KeysAt W K ks
 inc:ks.Pairwise (fun x y=>(K x).2<(K y).2)
 plc:∀x∈ks,(K x).2<P
 len:ks.length=ts.length
 tree:∀i,i<ks.length→TreeAt W (ks.getD i 0) (ts.getD i tD).2∧(K (ks.getD i 0)).1=(ts.getD i tD).1
 wgt:Cf.sum (fun p:Nt=>p.1) ts≤3000000
theorem Gs.kept {W W':World} {K:Nat→Hp.Key} {ks:List Nat} {ts:List Nt} {P:Nat} (h:Gs W K ks ts P) (hk:NodesK W W'):Gs W' K ks ts P:=
 ⟨fun k hx=>by obtain⟨s,x,y,e⟩:=h.keys k hx;exact⟨s,x,y,hk k _ e⟩,h.inc,h.plc,h.len,fun i hi=>⟨(h.tree i hi).1.kept hk,(h.tree i hi).2⟩,h.wgt⟩
theorem Gs.lt {W:World} {K:Nat→Hp.Key} {ks:List Nat} {ts:List Nt} {P:Nat} (h:Gs W K ks ts P) {k:Nat} (hk:k∈ks):k<W.heap.size:=by
 obtain⟨s,x,y,e⟩:=h.keys k hk
 exact (Array.getElem?_eq_some_iff.1 e).1
theorem sum_at {f:Nt→Nat}:∀(l:List Nt) (i:Nat),i<l.length→f (l.getD i tD)≤Cf.sum f l
 | [],i,h=>by simp at h
 | x::l,0,_=>by simp[Cf.sum]
 | x::l,i+1,h=>by
  have:=sum_at (f:=f) l i (by simpa using h)
  simp only[Cf.sum,List.getD_cons_succ]
  omega
theorem Gs.bound {W:World} {K:Nat→Hp.Key} {ks:List Nat} {ts:List Nt} {P:Nat} (h:Gs W K ks ts P) (hP:P≤100000):∀x∈ks,(K x).1≤100000000∧(K x).2≤100000000:=fun x hx=>by
 obtain⟨i,hi,rfl⟩:=List.mem_iff_getElem.1 hx
 have h1:=(h.tree i hi).2
 have h2:=h.plc _ hx
 have h3:=sum_at (f:=fun p=>p.1) ts i (by rw[←h.len];exact hi)
 have h4:=h.wgt
 rw[List.getD_eq_getElem?_getD,List.getElem?_eq_getElem hi] at h1
 dsimp only[Option.getD_some] at h1
 exact⟨by omega,by omega⟩
def addK (K:Nat→Hp.Key) (b:Nat) (o p:Nat):Nat→Hp.Key:=fun z=>if z=b then (o,p) else K z
theorem Gs.more {W:World} {K:Nat→Hp.Key} {ks:List Nat} {ts:List Nt} {P o p:Nat} {s:Int} {x y:Value} {t:Tr} (h:Gs W K ks ts P) (hp:P≤p) (ht:TreeAt (W.alloc (nodeC s x y o p)) W.heap.size t) (hw:Cf.sum (fun p:Nt=>p.1) ts+o≤3000000):
 Gs (W.alloc (nodeC s x y o p)) (addK K W.heap.size o p) (ks++[W.heap.size]) (ts++[(o,t)]) (p+1):=by
 have hk:=h.kept (NodesK.of_below ((Below.refl _ W).alloc (Nat.le_refl _) (nodeC s x y o p)))
 have hold:∀k∈ks,addK K W.heap.size o p k=K k:=fun k hx=>by unfold addK;rw[if_neg (by have:=h.lt hx;omega)]
 have hnew:addK K W.heap.size o p W.heap.size=(o,p):=by unfold addK;rw[if_pos rfl]
 refine⟨fun k hx=>?_,?_,fun k hx=>?_,by rw[List.length_append,List.length_append,h.len];rfl,fun i hi=>?_,?_⟩
 · rcases List.mem_append.1 hx with h1|h1
   · rw[hold k h1];exact hk.keys k h1
   rw[List.mem_singleton.1 h1,hnew]
   exact⟨.int .i64 s,x,y,by rw[heap_alloc_new];rfl⟩
 · rw[List.pairwise_append]
   refine⟨h.inc.imp_of_mem (fun {a b} ha hb hab=>by rw[hold a ha,hold b hb];exact hab),by simp,fun a ha b hb=>?_⟩
   rw[List.mem_singleton.1 hb,hold a ha,hnew]
   have:=h.plc a ha
   show (K a).2<p
   omega
 · rcases List.mem_append.1 hx with h1|h1
   · rw[hold k h1];have:=h.plc k h1;omega
   rw[List.mem_singleton.1 h1,hnew];show p<p+1;omega
 · rw[List.length_append] at hi
   by_cases e:i<ks.length
   · have e1:(ks++[W.heap.size]).getD i 0=ks.getD i 0:=by rw[List.getD_eq_getElem?_getD,List.getD_eq_getElem?_getD,List.getElem?_append_left e]
     have e2:(ts++[(o,t)]).getD i tD=ts.getD i tD:=by rw[List.getD_eq_getElem?_getD,List.getD_eq_getElem?_getD,List.getElem?_append_left (by rw[←h.len];exact e)]
     rw[e1,e2,hold _ (getD_mem e)]
     exact hk.tree i e
   have ei:i=ks.length:=by simp at hi;omega
   have e1:(ks++[W.heap.size]).getD i 0=W.heap.size:=by rw[List.getD_eq_getElem?_getD,ei,List.getElem?_append_right (Nat.le_refl _)];simp
   have e2:(ts++[(o,t)]).getD i tD=(o,t):=by rw[List.getD_eq_getElem?_getD,ei,h.len,List.getElem?_append_right (Nat.le_refl _)];simp
   rw[e1,e2,hnew]
   exact⟨ht,rfl⟩
 rw[Cf.sum_append]
 show Cf.sum _ ts+(o+0)≤_
 omega
theorem Gs.two {W:World} {K:Nat→Hp.Key} {ks:List Nat} {ts:List Nt} {P a b:Nat} (h:Gs W K ks ts P) (hab:a≠b) (ha:a<ks.length) (hb:b<ks.length):Gs W K (Cf.wo a b ks 0) (Cf.wo a b ts 0) P:=by
 have hz:∃zs:List (Nat×Nt),zs.map Prod.fst=ks∧zs.map Prod.snd=ts:=⟨ks.zip ts,List.map_fst_zip (by rw[h.len];exact Nat.le_refl _),List.map_snd_zip (by rw[h.len];exact Nat.le_refl _)⟩
 obtain⟨zs,e1,e2⟩:=hz
 have f1:Cf.wo a b ks 0=(Cf.wo a b zs 0).map Prod.fst:=by rw[Cf.wo_map,e1]
 have f2:Cf.wo a b ts 0=(Cf.wo a b zs 0).map Prod.snd:=by rw[Cf.wo_map,e2]
 have hsub:=Ct.wo_sub a b ks 0
 have hall:∀q∈zs,TreeAt W q.1 q.2.2∧(K q.1).1=q.2.1:=fun q hq=>by
  obtain⟨i,hi,rfl⟩:=List.mem_iff_getElem.1 hq
  have hik:i<ks.length:=by rw[←e1,List.length_map];exact hi
  have h5:=h.tree i hik
  have g1:ks.getD i 0=zs[i].1:=by rw[←e1,List.getD_eq_getElem?_getD,List.getElem?_map,List.getElem?_eq_getElem hi];rfl
  have g2:ts.getD i tD=zs[i].2:=by rw[←e2,List.getD_eq_getElem?_getD,List.getElem?_map,List.getElem?_eq_getElem hi];rfl
  rw[g1,g2] at h5
  exact h5
 refine⟨fun k hk=>h.keys k (hsub.mem hk),h.inc.sublist hsub,fun k hk=>h.plc k (hsub.mem hk),by rw[f1,f2,List.length_map,List.length_map],fun i hi=>?_,?_⟩
 · rw[f1,List.length_map] at hi
   have g1:(Cf.wo a b ks 0).getD i 0=(Cf.wo a b zs 0)[i].1:=by rw[f1,List.getD_eq_getElem?_getD,List.getElem?_map,List.getElem?_eq_getElem hi];rfl
   have g2:(Cf.wo a b ts 0).getD i tD=(Cf.wo a b zs 0)[i].2:=by rw[f2,List.getD_eq_getElem?_getD,List.getElem?_map,List.getElem?_eq_getElem hi];rfl
   rw[g1,g2]
   exact hall _ ((Ct.wo_sub a b zs 0).mem (List.getElem_mem hi))
 have:=Cf.wo_sum0 (fun p:Nt=>p.1) hab ts (by rw[←h.len];exact ha) (by rw[←h.len];exact hb)
 have:=h.wgt
 omega
theorem Gs.ns {W:World} {K:Nat→Hp.Key} {ks:List Nat} {ts:List Nt} {P:Nat} (h:Gs W K ks ts P):∀i,i<ks.length→∃x,(ts.map Ct.wt)[i]?=some x∧x.1=(K (ks.getD i 0)).1:=fun i hi=>by
 have hit:i<ts.length:=by rw[←h.len];exact hi
 refine⟨Ct.wt ts[i],by rw[List.getElem?_map,List.getElem?_eq_getElem hit];rfl,?_⟩
 rw[(h.tree i hi).2,List.getD_eq_getElem?_getD,List.getElem?_eq_getElem hit]
 rfl
end Go.Proofs.YtejebodgfoihkaaGreat
