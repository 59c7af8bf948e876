/- Texts laid together: CtTell, CtSpec, CtOnes, CtMono, CtImpl, CtFit, CtKraft, CtCode, CtBest, CtBest2, CtFib. -/
import Derived.Test.YtejebodgfoihkaaGreatVFInflateTwoCtGrow
import Derived.Test.YtejebodgfoihkaaGreatKFInflateTwox0
import Derived.Test.YtejebodgfoihkaaGreatVFInflateTwoCfTree
/- How deep each symbol stands is written down. -/
namespace Go.Proofs.YtejebodgfoihkaaGreat
open Go.RowKit
open Ct (Tr Nt)

def tell:Tr→Nat→(Nat→Nat)→(Nat→Nat)
 | .leaf s,d,f=>fun i=>if i=s then d else f i
 | .node l r,d,f=>tell r (d+1) (tell l (d+1) f)
def OwnL (w:World) (B n:Nat) (f:Nat→Nat):Prop:=Own w B n (fun i=>((f i:Nat):Int))∧∃cs fr,w.heap[B]?=some (.cells cs 3 fr)
theorem OwnL.set {w:World} {B n:Nat} {f:Nat→Nat} (h:OwnL w B n f) {s:Nat} (hs:s<n) (d:Nat):OwnL (w.setCell ⟨B,s,none⟩ (.int .i64 (d:Int))) B n (fun i=>if i=s then d else f i)∧Turned B w (w.setCell ⟨B,s,none⟩ (.int .i64 (d:Int))):=by
 obtain⟨h1,cs,fr,h2⟩:=h
 refine⟨⟨⟨by rw[World.size_setCell];exact h1.1,fun i hi=>⟨?_,?_⟩⟩,?_⟩,(Turned.refl B w).set s _⟩
 · by_cases e:i=s
   · subst e;rw[World.cell?_setCell_same _ _ _ (h1.2 i hi).1];simp
   rw[World.cell?_setCell_other _ _ _ _ (fun q=>e (congrArg Addr.off q).symm),(h1.2 i hi).1];simp[e]
 · rw[World.frozen?_setCell];exact (h1.2 i hi).2
 rw[setCell_eq_setRow w B s cs _ fr _ h2]
 exact⟨_,_,setRow_heap w B cs _ _ _ h2⟩
theorem Turned.nodes {B:Nat} {w w':World} (h:Turned B w w') (hb:∃cs fr,w.heap[B]?=some (.cells cs 3 fr)):NodesK w w':=fun k cs e=>by
 obtain⟨cs',fr,hb⟩:=hb
 refine (h.rest k (fun ek=>?_)).trans e
 rw[ek,hb] at e
 cases e
theorem Turned.trans {B:Nat} {x y z:World} (h:Turned B x y) (k:Turned B y z):Turned B x z:=⟨k.os.trans h.os,k.tape.trans h.tape,k.output.trans h.output,k.size.trans h.size,fun i hi=>(k.rest i hi).trans (h.rest i hi)⟩
def TellEnd (B n:Nat) (f:Nat→Nat) (w:World) (e:Ending) (w':World):Prop:=(∃v,e=.returned v)∧OwnL w' B n f∧Turned B w w'
set_option maxHeartbeats 2000000 in
set_option maxRecDepth 20000 in
theorem tell_leaf (B n c k s d o p:Nat) (f:Nat→Nat) (w:World) (hs:s<n) (hk:w.heap[k]?=some (nodeC (s:Int) (.pointer none) (.pointer none) o p)) (hL:OwnL w B n f):
 Calls Tryz.prog 95 #[.pointer (some ⟨k,0,none⟩),.int .i64 (d:Int),.slice (some ⟨B,0,none⟩) n c] w (TellEnd B n (fun i=>if i=s then d else f i) w):=by
 have hc:w.cell? ⟨k,0,none⟩=some (.int .i64 (s:Int)):=by unfold nodeC at hk;simp[World.cell?,hk]
 obtain⟨h1,h2⟩:=hL.set hs d
 have HF:Hid (∀v,TellEnd B n (fun i=>if i=s then d else f i) w (.returned v) (w.setCell ⟨B,s,none⟩ (.int .i64 (d:Int)))):=fun v=>⟨⟨v,rfl⟩,h1,h2⟩
 obtain⟨hcs,hfs⟩:=hL.1.2 s hs
 have hsi:(s:Int)<(n:Int):=by omega
 have dg:decide ((s:Int)≥0)=true:=by simp
 generalize ((f s:Nat):Int)=u at hcs
 clear h1 h2 hL hk
 go_enter Tryz.func95,Tryz.ntmps95
 go_wp2_with fail
 refine bodyPost_ret (results_none rfl _ _ _) rfl ?_
 exact HF.out _
set_option maxHeartbeats 2000000 in
set_option maxRecDepth 20000 in
theorem tell_any (B n c:Nat):∀(t:Tr) (k d:Nat) (f:Nat→Nat) (w:World),(∀s∈Ct.syms t,s<n)→TreeAt w k t→OwnL w B n f→d+Ct.hgt t≤1000→
 Calls Tryz.prog 95 #[.pointer (some ⟨k,0,none⟩),.int .i64 (d:Int),.slice (some ⟨B,0,none⟩) n c] w (TellEnd B n (tell t d f) w)
 | .leaf s,k,d,f,w,hs,⟨o,p,hk⟩,hL,_=>tell_leaf B n c k s d o p f w (hs s (by simp[Ct.syms])) hk hL
 | .node l r,k,d,f,w,hs,⟨kl,kr,o,p,hk,hl,hr⟩,hL,hd=>by
  have hm:Ct.hgt l≤Nat.max (Ct.hgt l) (Ct.hgt r):=Nat.le_max_left _ _
  have hm':Ct.hgt r≤Nat.max (Ct.hgt l) (Ct.hgt r):=Nat.le_max_right _ _
  have hd':d+(1+Nat.max (Ct.hgt l) (Ct.hgt r))≤1000:=hd
  have H1:Hid (Calls Tryz.prog 95 #[.pointer (some ⟨kl,0,none⟩),.int .i64 ((d+1:Nat):Int),.slice (some ⟨B,0,none⟩) n c] w (TellEnd B n (tell l (d+1) f) w)):=tell_any B n c l kl (d+1) f w (fun s h=>hs s (by simp[Ct.syms,h])) hl hL (by omega)
  have H2:Hid (∀w':World,TreeAt w' kr r→OwnL w' B n (tell l (d+1) f)→Calls Tryz.prog 95 #[.pointer (some ⟨kr,0,none⟩),.int .i64 ((d+1:Nat):Int),.slice (some ⟨B,0,none⟩) n c] w' (TellEnd B n (tell r (d+1) (tell l (d+1) f)) w')):=fun w' h1 h2=>tell_any B n c r kr (d+1) _ w' (fun s h=>hs s (by simp[Ct.syms,h])) h1 h2 (by omega)
  have HT:Hid (∀w',Turned B w w'→NodesK w w'):=fun w' h=>h.nodes hL.2
  have HR:Hid (TreeAt w kr r):=hr
  have HK:Hid (w.heap[k]?=some (nodeC (-1) (ptN kl) (ptN kr) o p)):=hk
  have hc0:w.cell? ⟨k,0,none⟩=some (.int .i64 (-1)):=by unfold nodeC at hk;simp[World.cell?,hk]
  have hc1:w.cell? ⟨k,1,none⟩=some (.pointer (some ⟨kl,0,none⟩)):=by unfold nodeC ptN at hk;simp[World.cell?,hk]
  have ed:(d:Int)+1=((d+1:Nat):Int):=by omega
  obtain⟨D,hD⟩:∃D,D=d+1:=⟨_,rfl⟩
  have hDb:D≤1001:=by omega
  show Calls Tryz.prog _ _ _ (TellEnd B n (tell r (d+1) (tell l (d+1) f)) w)
  rw[←hD] at ed H1 H2 ⊢
  generalize tell l D f=fl at*
  generalize tell r D fl=fr at*
  clear hd hd' hm hm' hl hr hL hk hD hs
  go_enter Tryz.func95,Tryz.ntmps95
  go_wp2_with fail
  refine H1.out.mono ?_
  rintro e w1 ⟨⟨v1,rfl⟩,o1,t1⟩
  have hk1:w1.heap[k]?=some (nodeC (-1) (ptN kl) (ptN kr) o p):=HT.out w1 t1 k _ HK.out
  have hc2:w1.cell? ⟨k,2,none⟩=some (.pointer (some ⟨kr,0,none⟩)):=by unfold nodeC ptN at hk1;simp[World.cell?,hk1]
  have H3:Hid (Calls Tryz.prog 95 #[.pointer (some ⟨kr,0,none⟩),.int .i64 (D:Int),.slice (some ⟨B,0,none⟩) n c] w1 (TellEnd B n fr w1)):=H2.out w1 (HR.out.kept (HT.out w1 t1)) o1
  have HT1:Hid (Turned B w w1):=t1
  clear hk1 t1 o1 H1 H2 hc0 hc1 HT HR HK
  go_wp2_with fail
  refine H3.out.mono ?_
  rintro e w2 ⟨⟨v2,rfl⟩,o2,t2⟩
  have HF:Hid (∀v,TellEnd B n fr w (.returned v) w2):=fun v=>⟨⟨v,rfl⟩,o2,HT1.out.trans t2⟩
  clear o2 t2 HT1 H3 hc2
  go_wp2_with fail
  go_end0
  exact HF.out _
end Go.Proofs.YtejebodgfoihkaaGreat
namespace Go.Proofs.YtejebodgfoihkaaGreat
open Ct (Tr Nt)
namespace Ct

theorem step_cases (ts:List Nt):(step ts=ts∧ts.length≤1)∨∃a wa b wb,Cf.lst (-1) (ts.map wt) 0 none=some (a,wa)∧Cf.lst (a:Int) (ts.map wt) 0 none=some (b,wb)∧a≠b∧a<ts.length∧b<ts.length:=by
 by_cases h:1<ts.length
 · obtain⟨a,wa,b,wb,h1,h2,hab,ha,hb⟩:=Cf.two (ns:=ts.map wt) (by rw[List.length_map];exact h)
   rw[List.length_map] at ha hb
   exact .inr ⟨a,wa,b,wb,h1,h2,hab,ha,hb⟩
 refine .inl ⟨?_,by omega⟩
 match ts,h with
 | [],_=>rfl
 | [x],_=>rfl
 | x::y::l,h=>simp at h
theorem getD_at {ts:List Nt} {a:Nat} (ha:a<ts.length):ts.getD a (0,.leaf 0)=ts[a]:=by rw[List.getD_eq_getElem?_getD,List.getElem?_eq_getElem ha];rfl
theorem step_sum (f:Nt→Nat) {ts:List Nt} {a wa b wb:Nat} (h1:Cf.lst (-1) (ts.map wt) 0 none=some (a,wa)) (h2:Cf.lst (a:Int) (ts.map wt) 0 none=some (b,wb)) (hab:a≠b) (ha:a<ts.length) (hb:b<ts.length):
 Cf.sum f (step ts)+f ts[a]+f ts[b]=Cf.sum f ts+f (ts[a].1+ts[b].1,.node ts[a].2 ts[b].2):=by
 rw[step_two h1 h2,Cf.sum_append,getD_at ha,getD_at hb,←Cf.wo_sum0 f hab ts ha hb]
 show Cf.sum f _+(f _+0)+f ts[a]+f ts[b]=_
 omega
def cnt (s:Nat) (p:Nt):Nat:=(syms p.2).count s
def lvs (p:Nt):Nat:=(syms p.2).length
def dpt (s:Nat) (p:Nt):Nat:=dep p.2 s
theorem step_cnt (s:Nat) (ts:List Nt):Cf.sum (cnt s) (step ts)=Cf.sum (cnt s) ts:=by
 rcases step_cases ts with⟨h,_⟩|⟨a,wa,b,wb,h1,h2,hab,ha,hb⟩
 · rw[h]
 have:=step_sum (cnt s) h1 h2 hab ha hb
 have e:cnt s (ts[a].1+ts[b].1,.node ts[a].2 ts[b].2)=cnt s ts[a]+cnt s ts[b]:=by unfold cnt;simp only[syms];rw[List.count_append]
 omega
theorem step_lvs (ts:List Nt):Cf.sum lvs (step ts)=Cf.sum lvs ts:=by
 rcases step_cases ts with⟨h,_⟩|⟨a,wa,b,wb,h1,h2,hab,ha,hb⟩
 · rw[h]
 have:=step_sum lvs h1 h2 hab ha hb
 have e:lvs (ts[a].1+ts[b].1,.node ts[a].2 ts[b].2)=lvs ts[a]+lvs ts[b]:=by unfold lvs;simp only[syms];rw[List.length_append]
 omega
theorem iter_cnt (s:Nat) (ts:List Nt):∀j,Cf.sum (cnt s) (iterT ts j)=Cf.sum (cnt s) ts
 | 0=>rfl
 | j+1=>by rw[iterT,step_cnt,iter_cnt s ts j]
theorem iter_lvs (ts:List Nt):∀j,Cf.sum lvs (iterT ts j)=Cf.sum lvs ts
 | 0=>rfl
 | j+1=>by rw[iterT,step_lvs,iter_lvs ts j]
theorem init_cnt (zs:List Int) (s:Nat):∀k,Cf.sum (cnt s) (initT zs k)≤1∧(k≤s→Cf.sum (cnt s) (initT zs k)=0)
 | 0=>⟨by simp[initT,Cf.sum],fun _=>rfl⟩
 | k+1=>by
  obtain⟨h1,h2⟩:=init_cnt zs s k
  unfold initT
  split
  · rw[Cf.sum_append]
    have e:Cf.sum (cnt s) [((zs.getD k 0).toNat,Tr.leaf k)]=if k=s then 1 else 0:=by
     simp[Cf.sum,cnt,syms,List.count_cons]
    rw[e]
    refine⟨?_,fun h=>?_⟩
    · by_cases hk:k=s
      · rw[if_pos hk,h2 (by omega)];exact Nat.le_refl _
      rw[if_neg hk];omega
    rw[h2 (by omega),if_neg (by omega)]
  exact⟨h1,fun h=>h2 (by omega)⟩
theorem init_lvs (zs:List Int):∀k,Cf.sum lvs (initT zs k)≤k
 | 0=>by simp[initT,Cf.sum]
 | k+1=>by
  have:=init_lvs zs k
  unfold initT
  split
  · rw[Cf.sum_append]
    have e:Cf.sum lvs [((zs.getD k 0).toNat,Tr.leaf k)]=1:=by simp[Cf.sum,lvs,syms]
    omega
  omega
theorem hgt_lvs:∀t:Tr,hgt t+1≤(syms t).length
 | .leaf _=>by simp[hgt,syms]
 | .node l r=>by
  have h1:=hgt_lvs l
  have h2:=hgt_lvs r
  simp only[hgt,syms,List.length_append]
  have:Nat.max (hgt l) (hgt r)=hgt l∨Nat.max (hgt l) (hgt r)=hgt r:=by
   rcases Nat.le_total (hgt l) (hgt r) with h|h
   · exact .inr (Nat.max_eq_right h)
   exact .inl (Nat.max_eq_left h)
  omega
theorem dep_none {s:Nat}:∀{t:Tr},s ∉ syms t→dep t s=0
 | .leaf _,_=>rfl
 | .node l r,h=>by
  simp only[syms,List.mem_append,not_or] at h
  simp only[dep]
  rw[dep_none h.1,dep_none h.2,List.count_append,List.count_eq_zero.2 h.1,List.count_eq_zero.2 h.2]
theorem tell_is {s:Nat}:∀{t:Tr} {d:Nat} {f:Nat→Nat},(syms t).count s≤1→tell t d f s=if s∈syms t then d+dep t s else f s
 | .leaf x,d,f,_=>by simp[tell,syms,dep]
 | .node l r,d,f,h=>by
  simp only[syms,List.count_append] at h
  simp only[tell]
  rw[tell_is (t:=r) (by omega),tell_is (t:=l) (by omega)]
  by_cases hr:s∈syms r
  · have c1:(syms r).count s=1:=by have:=List.one_le_count_iff.2 hr;omega
    have hl:s ∉ syms l:=fun hl=>by have:=List.one_le_count_iff.2 hl;omega
    rw[if_pos hr,if_pos (by simp[syms,hr])]
    simp only[dep]
    rw[List.count_append,c1,List.count_eq_zero.2 hl,dep_none hl]
    omega
  rw[if_neg hr]
  by_cases hl:s∈syms l
  · have c1:(syms l).count s=1:=by have:=List.one_le_count_iff.2 hl;omega
    rw[if_pos hl,if_pos (by simp[syms,hl])]
    simp only[dep]
    rw[List.count_append,c1,List.count_eq_zero.2 hr,dep_none hr]
    omega
  rw[if_neg hl,if_neg (by simp[syms,hl,hr])]
def topT:Tr→(Nat→Nat)
 | .leaf s=>fun i=>if i=s then 1 else 0
 | .node l r=>tell (.node l r) 0 (fun _=>0)
def IsLens (zs:List Int) (F:Nat→Nat):Prop:=(initT zs zs.length=[]∧F=fun _=>0)∨∃o t j,iterT (initT zs zs.length) j=[(o,t)]∧F=topT t
theorem iter_stop {ts:List Nt} {j:Nat} {x:Nt} (h:iterT ts j=[x]):∀k,iterT ts (j+k)=[x]
 | 0=>h
 | k+1=>by
  show step (iterT ts (j+k))=[x]
  rw[iter_stop h k]
  rfl
theorem iter_nil:∀j,iterT [] j=[]
 | 0=>rfl
 | j+1=>by rw[iterT,iter_nil j];rfl
theorem IsLens.same {zs:List Int} {F G:Nat→Nat} (h:IsLens zs F) (k:IsLens zs G):F=G:=by
 rcases h with⟨h1,h2⟩|⟨o,t,j,h1,h2⟩<;>rcases k with⟨k1,k2⟩|⟨o',t',j',k1,k2⟩
 · rw[h2,k2]
 · rw[h1,iter_nil] at k1;cases k1
 · rw[k1,iter_nil] at h1;cases h1
 have e1:=iter_stop h1 j'
 have e2:=iter_stop k1 j
 rw[Nat.add_comm] at e2
 rw[e1] at e2
 injection e2 with e3
 injection e3 with _ e4
 rw[h2,k2,e4]
def nd (p:Nt):Cf.Nd:=((p.1,hgt p.2),syms p.2)
theorem nd_wt (ts:List Nt):(ts.map nd).map (fun p=>p.1)=ts.map wt:=by rw[List.map_map];rfl
def sumd (ts:List Nt) (s:Nat):Nat:=Cf.sum (dpt s) ts
def Ex (zs:List Int) (ps:List Cf.Nd) (f:Nat→Nat):Prop:=∃ts j,ts=iterT (initT zs zs.length) j∧ps=ts.map nd∧((f=sumd ts∧∀o x,ts≠[(o,.leaf x)])∨(∃o x,ts=[(o,.leaf x)]∧f=fun i=>if i=x then 1 else 0))
theorem init_nd (zs:List Int):∀k,(initT zs k).map nd=Cf.init zs k
 | 0=>rfl
 | k+1=>by
  unfold initT Cf.init
  split
  · rw[List.map_append,init_nd zs k];rfl
  exact init_nd zs k
theorem init_dep (zs:List Int) (s:Nat):∀k,Cf.sum (dpt s) (initT zs k)=0
 | 0=>rfl
 | k+1=>by
  unfold initT
  split
  · rw[Cf.sum_append,init_dep zs s k];rfl
  exact init_dep zs s k
theorem Ex.init {zs:List Int} (h:(Cf.init zs zs.length).length≠1):Ex zs (Cf.init zs zs.length) (fun _=>0):=⟨_,0,rfl,(init_nd zs _).symm,.inl ⟨by funext s;exact (init_dep zs s _).symm,fun o x e=>h (by rw[←init_nd,show initT zs zs.length=_ from e];rfl)⟩⟩
theorem Ex.one {zs:List Int} {p:Cf.Nd} {x:Nat} (h:Cf.init zs zs.length=[p]) (hx:p.2=[x]):Ex zs (Cf.init zs zs.length) (fun i=>if i=x then 1 else 0):=by
 refine⟨_,0,rfl,(init_nd zs _).symm,.inr ?_⟩
 have h2:=init_nd zs zs.length
 rw[h] at h2
 show ∃o y,initT zs zs.length=[(o,Tr.leaf y)]∧_
 match hq:initT zs zs.length,h2 with
 | [],h2=>cases h2
 | [(o,t)],h2=>
  injection h2 with h3
  match t,h3 with
  | .leaf y,h3=>
   rw[←h3] at hx
   simp[nd,syms] at hx
   exact⟨o,y,rfl,by rw[hx]⟩
  | .node l r,h3=>
   rw[←h3] at hx
   have h4:(syms (Tr.node l r)).length=1:=by
    have:syms (Tr.node l r)=[x]:=hx
    rw[this];rfl
   have:=hgt_lvs (Tr.node l r)
   simp only[hgt] at this
   omega
 | y::z::l,h2=>injection h2 with _ h3;cases h3
theorem Ex.next {zs:List Int} {ps:List Cf.Nd} {f:Nat→Nat} (h:Ex zs ps f) {a wa b wb:Nat} {x y:Cf.Nd} (h1:Cf.lst (-1) (ps.map (fun p=>p.1)) 0 none=some (a,wa)) (h2:Cf.lst (a:Int) (ps.map (fun p=>p.1)) 0 none=some (b,wb)) (hx:ps[a]?=some x) (hy:ps[b]?=some y) (hab:a≠b):Ex zs (Cf.next ps a b x y) (fun s=>f s+(x.2++y.2).count s):=by
 obtain⟨ts,j,hts,rfl,hf⟩:=h
 rw[nd_wt] at h1 h2
 have ha:a<ts.length:=by have:=(List.getElem?_eq_some_iff.1 hx).1;rwa [List.length_map] at this
 have hb:b<ts.length:=by have:=(List.getElem?_eq_some_iff.1 hy).1;rwa [List.length_map] at this
 have ex:x=nd ts[a]:=by rw[List.getElem?_map,List.getElem?_eq_getElem ha] at hx;exact (Option.some.inj hx).symm
 have ey:y=nd ts[b]:=by rw[List.getElem?_map,List.getElem?_eq_getElem hb] at hy;exact (Option.some.inj hy).symm
 refine⟨step ts,j+1,by rw[hts];rfl,?_,.inl ⟨?_,fun o x e=>?_⟩⟩
 · rw[step_two h1 h2,List.map_append,Cf.wo_map,getD_at ha,getD_at hb,ex,ey]
   rfl
 · rcases hf with⟨rfl,_⟩|⟨o,z,e,_⟩
   · funext s
     have h5:=step_sum (dpt s) h1 h2 hab ha hb
     have e:dpt s (ts[a].1+ts[b].1,.node ts[a].2 ts[b].2)=(syms ts[a].2++syms ts[b].2).count s+dpt s ts[a]+dpt s ts[b]:=rfl
     rw[ex,ey]
     show Cf.sum (dpt s) ts+(syms ts[a].2++syms ts[b].2).count s=Cf.sum (dpt s) (step ts)
     omega
   exfalso
   rw[e] at ha hb
   simp at ha hb
   omega
 rw[step_two h1 h2] at e
 have h7:=congrArg List.getLast? e
 simp at h7
theorem step_none {ts:List Nt} (h:step ts=[]):ts=[]:=by
 rcases step_cases ts with⟨e,_⟩|⟨a,wa,b,wb,h1,h2,_⟩
 · rw[←e];exact h
 rw[step_two h1 h2] at h;simp at h
theorem iter_none {ts:List Nt}:∀{j:Nat},iterT ts j=[]→ts=[]
 | 0,h=>h
 | _+1,h=>iter_none (step_none h)
theorem Ex.end {zs:List Int} {ps:List Cf.Nd} {f:Nat→Nat} (h:Ex zs ps f) (hl:ps.length≤1):IsLens zs f:=by
 obtain⟨ts,j,hts,rfl,hf⟩:=h
 rw[List.length_map] at hl
 match ts,hl,hts,hf with
 | [],_,hts,hf=>
  refine .inl ⟨iter_none hts.symm,?_⟩
  rcases hf with⟨rfl,_⟩|⟨o,x,e,_⟩
  · rfl
  · cases e
 | [(o,t)],_,hts,hf=>
  refine .inr ⟨o,t,j,hts.symm,?_⟩
  rcases hf with⟨rfl,hno⟩|⟨o',x,e,hf⟩
  · match t,hts,hno with
    | .leaf x,_,hno=>exact absurd rfl (hno o x)
    | .node l r,hts,_=>
     funext s
     have hc:=iter_cnt s (initT zs zs.length) j
     rw[←hts] at hc
     have hc1:=(init_cnt zs s zs.length).1
     have hc2:(syms (Tr.node l r)).count s≤1:=by
      have e:Cf.sum (cnt s) [(o,Tr.node l r)]=(syms (Tr.node l r)).count s:=by simp[Cf.sum,cnt]
      omega
     show Cf.sum (dpt s) [(o,Tr.node l r)]=tell (.node l r) 0 (fun _=>0) s
     rw[tell_is hc2]
     have e:Cf.sum (dpt s) [(o,Tr.node l r)]=dep (Tr.node l r) s:=by simp[Cf.sum,dpt]
     rw[e]
     by_cases hm:s∈syms (Tr.node l r)
     · rw[if_pos hm];omega
     rw[if_neg hm,dep_none hm]
  · injection e with e1
    injection e1 with _ e2
    rw[hf,e2]
    rfl
 | x::y::l,hl,_,_=>simp at hl
end Ct
end Go.Proofs.YtejebodgfoihkaaGreat
namespace Go.Proofs.YtejebodgfoihkaaGreat
namespace Ct
open Cf (lst wo Wt)

theorem wo_idx {α:Type} {a b:Nat}:∀(xs:List α) (i:Nat) (z:α),z∈wo a b xs i→∃j,xs[j]?=some z∧i+j≠a∧i+j≠b
 | [],_,z,h=>by simp[wo] at h
 | x::xs,i,z,h=>by
  rw[Cf.wo_cons] at h
  by_cases hc:(Nat.beq i a||Nat.beq i b)=true
  · rw[if_pos hc] at h
    obtain⟨j,h1,h2,h3⟩:=wo_idx xs (i+1) z h
    exact⟨j+1,by simpa using h1,by omega,by omega⟩
  rw[if_neg hc] at h
  rcases List.mem_cons.1 h with h1|h1
  · refine⟨0,by simp[h1],?_,?_⟩
    · intro e;apply hc;simp[show i=a by omega]
    intro e;apply hc;simp[show i=b by omega]
  obtain⟨j,h1,h2,h3⟩:=wo_idx xs (i+1) z h1
  exact⟨j+1,by simpa using h1,by omega,by omega⟩
def odd (k:Nat) (x:Wt):Nat:=if 2^k<x.1∧x.1<2^(k+1) then 1 else 0
structure Ph (k:Nat) (ns:List Wt):Prop where
 kind:∀x∈ns,(x.1=2^k∧x.2≤k)∨(x.1=2^(k+1)∧x.2≤k+1)∨(2^k<x.1∧x.1<2^(k+1)∧x.2≤k+1)
 one:Cf.sum (odd k) ns≤1
theorem sum_zero {α:Type} {f:α→Nat}:∀{l:List α},(∀x∈l,f x=0)→Cf.sum f l=0
 | [],_=>rfl
 | x::l,h=>by
  simp only[Cf.sum]
  rw[h x (by simp),sum_zero (fun y hy=>h y (by simp[hy]))]
theorem max_le {a b c:Nat} (h1:a≤c) (h2:b≤c):Nat.max a b≤c:=Nat.max_le.2 ⟨h1,h2⟩
theorem ph_step {k:Nat} {ns:List Wt} (h:Ph k ns) (hl:1<ns.length):∃k',Ph k' (Cf.step ns):=by
 obtain⟨a,wa,b,wb,h1,h2,hab,ha,hb⟩:=Cf.two hl
 obtain⟨_,_,x,hx,hxa⟩:=Cf.lst_at h1
 obtain⟨_,_,y,hy,hyb⟩:=Cf.lst_at h2
 dsimp only at hx hxa hy hyb
 have gx:ns[a]=x:=by rw[List.getElem?_eq_getElem ha] at hx;exact Option.some.inj hx
 have gy:ns[b]=y:=by rw[List.getElem?_eq_getElem hb] at hy;exact Option.some.inj hy
 have hgx:Cf.hgt ns a=x.2:=by unfold Cf.hgt;rw[List.getD_eq_getElem?_getD,hx];rfl
 have hgy:Cf.hgt ns b=y.2:=by unfold Cf.hgt;rw[List.getD_eq_getElem?_getD,hy];rfl
 rw[Cf.step_two h1 h2,hgx,hgy,←hxa,←hyb]
 have hrest:∀z∈wo a b ns 0,x.1≤z.1∧y.1≤z.1∧z∈ns:=fun z hz=>by
  obtain⟨j,hj,j1,j2⟩:=wo_idx ns 0 z hz
  rw[Nat.zero_add] at j1 j2
  have e1:=(lst_min h1 (by omega) hj).1
  have e2:=(lst_min h2 (by omega) hj).1
  dsimp only at e1 e2
  exact⟨by omega,by omega,List.mem_of_getElem? hj⟩
 have hsum:=Cf.wo_sum0 (odd k) hab ns ha hb
 rw[gx,gy] at hsum
 have hone:=h.one
 have hxy:x.1≤y.1:=by have:=(lst_min h1 (k:=b) (x:=y) (by omega) hy).1;dsimp only at this;omega
 have kx:=h.kind x (List.mem_of_getElem? hx)
 have ky:=h.kind y (List.mem_of_getElem? hy)
 have e1:2^(k+1)=2*2^k:=by rw[Nat.pow_succ];omega
 have e2:2^(k+1+1)=4*2^k:=by rw[Nat.pow_succ,e1];omega
 have hp:0<2^k:=Nat.two_pow_pos k
 by_cases c1:x.1=2^k∧y.1=2^k
 · refine⟨k,fun z hz=>?_,?_⟩
   · rcases List.mem_append.1 hz with hz|hz
     · exact h.kind z (hrest z hz).2.2
     rw[List.mem_singleton.1 hz]
     refine .inr (.inl ⟨by show x.1+y.1=_;omega,?_⟩)
     show 1+Nat.max x.2 y.2≤k+1
     have:=max_le (a:=x.2) (b:=y.2) (c:=k) (by omega) (by omega)
     omega
   rw[Cf.sum_append]
   have e0:Cf.sum (odd k) [(x.1+y.1,1+Nat.max x.2 y.2)]=0:=sum_zero (fun z hz=>by
    rw[List.mem_singleton.1 hz];unfold odd;rw[if_neg (by show ¬(2^k<x.1+y.1∧x.1+y.1<2^(k+1));omega)])
   omega
 -- all others are of the next power
 have hoth:∀z∈wo a b ns 0,z.1=2^(k+1)∧z.2≤k+1:=fun z hz=>by
  obtain⟨z1,z2,z3⟩:=hrest z hz
  have kz:=h.kind z z3
  have oz:=Cf.sum_one (odd k) (wo a b ns 0) z hz
  by_cases hoz:2^k<z.1∧z.1<2^(k+1)
  · exfalso
    have o1:odd k z=1:=by unfold odd;rw[if_pos hoz]
    have ox:odd k x=0:=by omega
    have oy:odd k y=0:=by omega
    unfold odd at ox oy
    have nx:¬(2^k<x.1∧x.1<2^(k+1)):=fun q=>by rw[if_pos q] at ox;cases ox
    have ny:¬(2^k<y.1∧y.1<2^(k+1)):=fun q=>by rw[if_pos q] at oy;cases oy
    omega
  omega
 have hnew:2^(k+1)<x.1+y.1∧x.1+y.1≤2^(k+1+1):=by omega
 have hh:1+Nat.max x.2 y.2≤k+1+1:=by
  have:=max_le (a:=x.2) (b:=y.2) (c:=k+1) (by omega) (by omega)
  omega
 refine⟨k+1,fun z hz=>?_,?_⟩
 · rcases List.mem_append.1 hz with hz|hz
   · exact .inl (hoth z hz)
   rw[List.mem_singleton.1 hz]
   by_cases e:x.1+y.1=2^(k+1+1)
   · exact .inr (.inl ⟨e,hh⟩)
   exact .inr (.inr ⟨hnew.1,by show x.1+y.1<_;omega,hh⟩)
 rw[Cf.sum_append,sum_zero (fun z hz=>by unfold odd;rw[if_neg (by have:=(hoth z hz).1;omega)])]
 have e0:Cf.sum (odd (k+1)) [(x.1+y.1,1+Nat.max x.2 y.2)]≤1:=by
  simp only[Cf.sum,odd]
  split<;>omega
 omega
theorem ph_fin:∀(n:Nat) (ns:List Wt) (k m:Nat),ns.length≤n→Ph k ns→Cf.sum (fun x:Wt=>x.1) ns≤2^m→Cf.fin ns≤m
 | 0,ns,k,m,hn,_,_=>by
  have:ns=[]:=List.eq_nil_of_length_eq_zero (by omega)
  subst this
  exact Nat.zero_le _
 | n+1,ns,k,m,hn,h,hs=>by
  by_cases hl:1<ns.length
  · rw[Cf.fin_step hl]
    obtain⟨k',h'⟩:=ph_step h hl
    have hlen:=Cf.step_len hl
    refine ph_fin n (Cf.step ns) k' m (by omega) h' ?_
    obtain⟨a,wa,b,wb,h1,h2,hab,ha,hb⟩:=Cf.two hl
    obtain⟨_,_,x,hx,hxa⟩:=Cf.lst_at h1
    obtain⟨_,_,y,hy,hyb⟩:=Cf.lst_at h2
    dsimp only at hx hxa hy hyb
    have hsum:=Cf.wo_sum0 (fun x:Wt=>x.1) hab ns ha hb
    rw[List.getElem?_eq_getElem ha] at hx
    rw[List.getElem?_eq_getElem hb] at hy
    rw[Option.some.inj hx,Option.some.inj hy] at hsum
    rw[Cf.step_two h1 h2,Cf.sum_append]
    show Cf.sum _ (wo a b ns 0)+(wa+wb+0)≤_
    omega
  rw[Cf.fin_one (by omega)]
  match ns,hl,h,hs with
  | [],_,_,_=>exact Nat.zero_le _
  | [x],_,h,hs=>
   have hs':x.1≤2^m:=by simpa [Cf.sum] using hs
   have hm:Cf.maxh [x]=x.2:=by simp[Cf.maxh]
   rw[hm]
   rcases h.kind x (by simp) with⟨e1,e2⟩|⟨e1,e2⟩|⟨e1,e2,e3⟩
   · rw[e1] at hs'
     have:=(Nat.pow_le_pow_iff_right (by omega:1<2)).1 hs'
     omega
   · rw[e1] at hs'
     have:=(Nat.pow_le_pow_iff_right (by omega:1<2)).1 hs'
     omega
   · have h5:2^k<2^m:=by omega
     have:=(Nat.pow_lt_pow_iff_right (by omega:1<2)).1 h5
     omega
  | x::y::l,hl,_,_=>simp at hl
def come (zs:List Int):Nat:=(initT zs zs.length).length
theorem ones_init {zs:List Int} (h:∀i,i<zs.length→zs.getD i 0≤1):∀k,k≤zs.length→(∀x∈(initT zs k).map wt,x=(1,0))∧Cf.sum (fun x:Wt=>x.1) ((initT zs k).map wt)=(initT zs k).length
 | 0,_=>⟨fun x hx=>by simp[initT] at hx,rfl⟩
 | k+1,hk=>by
  obtain⟨h1,h2⟩:=ones_init h k (by omega)
  unfold initT
  split
  · rename_i hp
    have e:zs.getD k 0=1:=by have:=h k (by omega);omega
    rw[e,List.map_append,Cf.sum_append,List.length_append,h2]
    refine⟨fun x hx=>?_,rfl⟩
    rcases List.mem_append.1 hx with hx|hx
    · exact h1 x hx
    simpa [wt,hgt] using hx
  exact⟨h1,h2⟩
theorem ones_deep {zs:List Int} (h:∀i,i<zs.length→zs.getD i 0≤1) {m:Nat} (hm:1≤m) (hc:come zs≤2^m):Cf.deep zs≤m:=by
 obtain⟨h1,h2⟩:=ones_init h zs.length (Nat.le_refl _)
 have h3:Cf.fin ((initT zs zs.length).map wt)≤m:=by
  refine ph_fin _ _ 0 m (Nat.le_refl _) ⟨fun x hx=>.inl (by rw[h1 x hx];exact⟨rfl,Nat.le_refl _⟩),?_⟩ (by rw[h2];exact hc)
  rw[sum_zero (fun x hx=>by rw[h1 x hx];rfl)]
  omega
 unfold Cf.deep
 rw[←init_nd,nd_wt]
 exact max_le hm h3
theorem dep_hgt {s:Nat}:∀{t:Tr},(syms t).count s≤1→dep t s≤hgt t
 | .leaf _,_=>Nat.le_refl _
 | .node l r,h=>by
  simp only[syms,List.count_append] at h
  have hl:=dep_hgt (t:=l) (s:=s) (by omega)
  have hr:=dep_hgt (t:=r) (s:=s) (by omega)
  have m1:hgt l≤Nat.max (hgt l) (hgt r):=Nat.le_max_left _ _
  have m2:hgt r≤Nat.max (hgt l) (hgt r):=Nat.le_max_right _ _
  simp only[dep,hgt,List.count_append]
  by_cases c:s∈syms l
  · have hc:=List.one_le_count_iff.2 c
    have hn:s ∉ syms r:=fun q=>by have:=List.one_le_count_iff.2 q;omega
    rw[dep_none hn]
    omega
  rw[dep_none c]
  omega
theorem step_wt (ts:List Nt):(step ts).map wt=Cf.step (ts.map wt):=by
 rcases step_cases ts with⟨h,hl⟩|⟨a,wa,b,wb,h1,h2,hab,ha,hb⟩
 · rw[h]
   match ts,hl with
   | [],_=>rfl
   | [x],_=>rfl
   | x::y::l,hl=>simp at hl
 obtain⟨_,_,x,hx,hxa⟩:=Cf.lst_at h1
 obtain⟨_,_,y,hy,hyb⟩:=Cf.lst_at h2
 dsimp only at hx hxa hy hyb
 rw[List.getElem?_map,List.getElem?_eq_getElem ha] at hx
 rw[List.getElem?_map,List.getElem?_eq_getElem hb] at hy
 have ex:=Option.some.inj hx
 have ey:=Option.some.inj hy
 have hgx:Cf.hgt (ts.map wt) a=hgt ts[a].2:=by unfold Cf.hgt;rw[List.getD_eq_getElem?_getD,List.getElem?_map,List.getElem?_eq_getElem ha];rfl
 have hgy:Cf.hgt (ts.map wt) b=hgt ts[b].2:=by unfold Cf.hgt;rw[List.getD_eq_getElem?_getD,List.getElem?_map,List.getElem?_eq_getElem hb];rfl
 rw[step_two h1 h2,Cf.step_two h1 h2,List.map_append,Cf.wo_map,getD_at ha,getD_at hb,hgx,hgy,←hxa,←hyb,←ex,←ey]
 rfl
theorem iter_fin (ts:List Nt):∀j,Cf.fin ((iterT ts j).map wt)=Cf.fin (ts.map wt)
 | 0=>rfl
 | j+1=>by
  rw[iterT,step_wt,←iter_fin ts j]
  by_cases h:1<((iterT ts j).map wt).length
  · exact (Cf.fin_step h).symm
  rw[List.length_map] at h
  rw[←step_wt]
  rcases step_cases (iterT ts j) with⟨e,_⟩|⟨a,wa,b,wb,_,_,hab,ha,hb⟩
  · rw[e]
  omega
theorem IsLens.deep {zs:List Int} {F:Nat→Nat} (h:IsLens zs F):∀i,F i≤Cf.deep zs:=fun i=>by
 have h1:1≤Cf.deep zs:=Nat.le_max_left _ _
 rcases h with⟨_,rfl⟩|⟨o,t,j,hit,rfl⟩
 · exact Nat.zero_le _
 have hd:hgt t≤Cf.deep zs:=by
  have e:=iter_fin (initT zs zs.length) j
  rw[hit] at e
  have e2:Cf.fin ([(o,t)].map wt)=hgt t:=by rw[Cf.fin_one (by simp)];simp[Cf.maxh,wt]
  rw[e2] at e
  unfold Cf.deep
  rw[←init_nd,nd_wt,←e]
  exact Nat.le_max_right _ _
 match t,hit,hd with
 | .leaf s,_,_=>
  show (if i=s then 1 else 0)≤_
  split<;>omega
 | .node l r,hit,hd=>
  have hc:=iter_cnt i (initT zs zs.length) j
  rw[hit] at hc
  have hc1:=(init_cnt zs i zs.length).1
  have hc2:(syms (Tr.node l r)).count i≤1:=by
   have e:Cf.sum (cnt i) [(o,Tr.node l r)]=(syms (Tr.node l r)).count i:=by simp[Cf.sum,cnt]
   omega
  show tell (.node l r) 0 (fun _=>0) i≤_
  rw[tell_is hc2]
  split
  · have:=dep_hgt hc2;omega
  exact Nat.zero_le _
end Ct
end Go.Proofs.YtejebodgfoihkaaGreat
namespace Go.Proofs.YtejebodgfoihkaaGreat
namespace Ct
open Cf (lst wo)

def made:Tr→Prop
 | .leaf _=>False
 | .node _ _=>True
def wAt (ts:List Nt) (i:Nat):Nat:=(ts.getD i (0,.leaf 0)).1
def tAt (ts:List Nt) (i:Nat):Tr:=(ts.getD i (0,.leaf 0)).2
structure Two (ts:List Nt) (a b:Nat):Prop where
 ne:a≠b
 la:a<ts.length
 lb:b<ts.length
 st:step ts=wo a b ts 0++[(wAt ts a+wAt ts b,.node (tAt ts a) (tAt ts b))]
 mn:∀k,k<ts.length→k≠a→k≠b→wAt ts a≤wAt ts k∧wAt ts b≤wAt ts k∧(k<a→wAt ts a<wAt ts k)∧(k<b→wAt ts b<wAt ts k)
 ab:wAt ts a≤wAt ts b
theorem two_of {ts:List Nt} (h:1<ts.length):∃a b,Two ts a b:=by
 obtain⟨a,wa,b,wb,h1,h2,hab,ha,hb⟩:=Cf.two (ns:=ts.map wt) (by rw[List.length_map];exact h)
 rw[List.length_map] at ha hb
 obtain⟨_,_,x,hx,hxa⟩:=Cf.lst_at h1
 obtain⟨_,_,y,hy,hyb⟩:=Cf.lst_at h2
 dsimp only at hx hxa hy hyb
 have hw:∀k (hk:k<ts.length),(ts.map wt)[k]?=some (wt ts[k])∧wAt ts k=(wt ts[k]).1:=fun k hk=>by
  refine⟨by rw[List.getElem?_map,List.getElem?_eq_getElem hk];rfl,?_⟩
  unfold wAt
  rw[getD_at hk];rfl
 have ea:wAt ts a=wa:=by have:=hw a ha;rw[this.1] at hx;rw[this.2,←hxa,←Option.some.inj hx]
 have eb:wAt ts b=wb:=by have:=hw b hb;rw[this.1] at hy;rw[this.2,←hyb,←Option.some.inj hy]
 refine⟨a,b,hab,ha,hb,by rw[step_two h1 h2];rfl,fun k hk ka kb=>?_,?_⟩
 · have e1:=lst_min h1 (k:=k) (by omega) (hw k hk).1
   have e2:=lst_min h2 (k:=k) (by omega) (hw k hk).1
   rw[←(hw k hk).2] at e1 e2
   dsimp only at e1 e2
   rw[ea,eb]
   exact⟨e1.1,e2.1,e1.2,e2.2⟩
 have e1:=lst_min h1 (k:=b) (by omega) (hw b hb).1
 rw[←(hw b hb).2] at e1
 dsimp only at e1
 rw[ea]
 exact e1.1
theorem step_last {ts:List Nt} {a b:Nat} (t:Two ts a b):(step ts).length+1=ts.length∧wAt (step ts) ((step ts).length-1)=wAt ts a+wAt ts b∧tAt (step ts) ((step ts).length-1)=.node (tAt ts a) (tAt ts b):=by
 have hl:=Cf.wo_len0 t.ne ts t.la t.lb
 have e:(step ts).length=(wo a b ts 0).length+1:=by rw[t.st,List.length_append];rfl
 have g:(step ts).getD ((step ts).length-1) (0,.leaf 0)=(wAt ts a+wAt ts b,.node (tAt ts a) (tAt ts b)):=by
  rw[e,List.getD_eq_getElem?_getD,t.st]
  simp
 refine⟨by omega,by unfold wAt at g ⊢;rw[g],by unfold tAt at g ⊢;rw[g]⟩
theorem step_from {ts:List Nt} {a b:Nat} (t:Two ts a b) {k:Nat} (hk:k<(step ts).length):k=(step ts).length-1∨∃i,i<ts.length∧i≠a∧i≠b∧wAt (step ts) k=wAt ts i∧tAt (step ts) k=tAt ts i:=by
 have e:(step ts).length=(wo a b ts 0).length+1:=by rw[t.st,List.length_append];rfl
 by_cases hl:k=(step ts).length-1
 · exact .inl hl
 right
 have hk':k<(wo a b ts 0).length:=by omega
 obtain⟨i,hi,h1,h2⟩:=wo_idx ts 0 _ (List.getElem_mem hk')
 rw[Nat.zero_add] at h1 h2
 have hil:=(List.getElem?_eq_some_iff.1 hi).1
 have g:(step ts).getD k (0,.leaf 0)=ts[i]:=by
  rw[List.getD_eq_getElem?_getD,t.st,List.getElem?_append_left hk',List.getElem?_eq_getElem hk']
  rw[List.getElem?_eq_getElem hil] at hi
  exact (Option.some.inj hi).symm
 exact⟨i,hil,h1,h2,by unfold wAt;rw[g,getD_at hil],by unfold tAt;rw[g,getD_at hil]⟩
theorem init_leaves (zs:List Int):∀k,∀p∈initT zs k,∃s,p.2=.leaf s
 | 0,p,h=>by simp[initT] at h
 | k+1,p,h=>by
  unfold initT at h
  split at h
  · rcases List.mem_append.1 h with h|h
    · exact init_leaves zs k p h
    rw[List.mem_singleton.1 h];exact⟨k,rfl⟩
  exact init_leaves zs k p h
theorem init_has {zs:List Int} {s:Nat} (h:0<zs.getD s 0):∀k,s<k→((zs.getD s 0).toNat,Tr.leaf s)∈initT zs k
 | 0,hk=>by omega
 | k+1,hk=>by
  unfold initT
  by_cases e:s=k
  · subst e
    rw[if_pos h];simp
  have:=init_has h k (by omega)
  split
  · exact List.mem_append_left _ this
  exact this
end Ct
end Go.Proofs.YtejebodgfoihkaaGreat
namespace Go.Proofs.YtejebodgfoihkaaGreat
open Go.RowKit
open Ct (Tr Nt)

theorem syms_lt {zs:List Int} {j o:Nat} {t:Tr} (h:iterT (initT zs zs.length) j=[(o,t)]):∀s∈Ct.syms t,s<zs.length:=fun s hs=>by
 rcases Nat.lt_or_ge s zs.length with hlt|hge
 · exact hlt
 have h1:=Ct.iter_cnt s (initT zs zs.length) j
 rw[h,(Ct.init_cnt zs s zs.length).2 hge] at h1
 have h2:Cf.sum (Ct.cnt s) [(o,t)]=(Ct.syms t).count s:=by simp[Cf.sum,Ct.cnt]
 have h3:=List.one_le_count_iff.2 hs
 omega
theorem hgt_le {zs:List Int} {j o:Nat} {t:Tr} (h:iterT (initT zs zs.length) j=[(o,t)]):Ct.hgt t≤zs.length:=by
 have h1:=Ct.iter_lvs (initT zs zs.length) j
 rw[h] at h1
 have h2:Cf.sum Ct.lvs [(o,t)]=(Ct.syms t).length:=by simp[Cf.sum,Ct.lvs]
 have h3:=Ct.init_lvs zs zs.length
 have h4:=Ct.hgt_lvs t
 omega
theorem OwnL.below {w w':World} {B n lo:Nat} {f:Nat→Nat} (h:OwnL w B n f) (hb:Below lo w w') (hl:B<lo):OwnL w' B n f:=by
 obtain⟨h1,cs,fr,h2⟩:=h
 exact⟨own_low h1 hb hl,cs,fr,(hb.block B hl).trans h2⟩
def TLEnd (zs:List Int) (n:Nat) (w:World) (e:Ending) (w':World):Prop:=(e=.returned (.slice (some ⟨w.heap.size,0,none⟩) n n)∧∃f,OwnL w' w.heap.size n f∧Ct.IsLens zs f)∧Below w.heap.size w w'
set_option maxHeartbeats 4000000 in
set_option maxRecDepth 20000 in
theorem treeLengths_any (a:Option Addr) (n cap:Nat) (zs:List Int) (w:World) (h:Ints w a zs) (hn:zs.length=n) (hb:n≤300) (hz:∀i,i<zs.length→0≤zs.getD i 0∧zs.getD i 0≤9000):
 Calls Tryz.prog 60 #[.slice a n cap] w (TLEnd zs n w):=by
 have HI:Hid (Ints w a zs):=h
 have HN:Hid (zs.length=n):=hn
 have hmk:=make_arr zs n hn (by omega) w
 obtain⟨w1,hw1⟩:∃w1,w1=w.alloc (.cells (arr (Mk.outer zs 0).2) 3):=⟨_,rfl⟩
 have b1:Below w.heap.size w w1:=by rw[hw1];exact (Below.refl _ _).alloc (Nat.le_refl _) _
 have hs1:w1.heap.size=w.heap.size+1:=by rw[hw1];simp
 have HO1:Hid (OwnL w1 w.heap.size n (fun _=>0)):=by
  rw[hw1]
  refine⟨⟨by simp,fun i hi=>⟨?_,by rw[World.frozen?_alloc_at _ _ _ _ rfl]⟩⟩,_,_,heap_alloc_new _ _⟩
  rw[World.cell?_alloc_at _ _ _ _ rfl,arr_get _ i (by rw[Mk.outer_len,hn];exact hi)]
  simp[Mk.outer]
 have HGT:Hid (Calls Tryz.prog 94 #[.slice a n cap] w1 (GrowEnd zs w1)):=growTree_any a n cap zs w1 (h.kept b1) hn hb hz
 rw[←hw1] at hmk
 clear h hn hz hw1
 go_enter Tryz.func60,Tryz.ntmps60
 go_wp2_with fail
 refine HGT.out.mono ?_
 rintro e w2 ⟨h2|⟨k,o,t,j,hit,rfl,ht⟩,b2⟩
 · obtain⟨hnil,rfl⟩:=h2
   have HF:Hid (TLEnd zs n w (.returned (.slice (some ⟨w.heap.size,0,none⟩) n n)) w2):=⟨⟨rfl,_,HO1.out.below b2 (by omega),.inl ⟨hnil,rfl⟩⟩,b1.trans (b2.mono b1.size)⟩
   clear hnil b2 HGT
   go_wp2_with fail
   go_ret
   exact HF.out
 have hO2:=HO1.out.below b2 (by omega)
 have hsl:=syms_lt hit
 have hhl:=hgt_le hit
 rw[HN.out] at hsl hhl
 have bw2:=b1.trans (b2.mono b1.size)
 match t,hit,ht,hsl,hhl with
 | .leaf s,hit,⟨o',p',hk⟩,hsl,_=>
  have hs:s<n:=hsl s (by simp[Ct.syms])
  have hc:w2.cell? ⟨k,0,none⟩=some (.int .i64 (s:Int)):=by unfold nodeC at hk;simp[World.cell?,hk]
  obtain⟨h3,h4⟩:=hO2.set hs 1
  have HF:Hid (TLEnd zs n w (.returned (.slice (some ⟨w.heap.size,0,none⟩) n n)) (w2.setCell ⟨w.heap.size,s,none⟩ (.int .i64 1))):=⟨⟨rfl,_,h3,.inr ⟨o,_,j,hit,rfl⟩⟩,bw2.setCell (p:=⟨w.heap.size,s,none⟩) (Nat.le_refl _) _⟩
  obtain⟨hcs,hfs⟩:=hO2.1.2 s hs
  have hcs':w2.cell? ⟨w.heap.size,s,none⟩=some (.int .i64 0):=hcs
  have hsi:(s:Int)<(n:Int):=by omega
  have dg:decide ((s:Int)≥0)=true:=by simp
  clear h3 h4 hO2 hk hit hsl hhl bw2 b2 hcs HGT HO1
  go_wp2_with fail
  go_ret
  exact HF.out
 | .node l r,hit,ht,hsl,hhl=>
  have HTE:Hid (Calls Tryz.prog 95 #[.pointer (some ⟨k,0,none⟩),.int .i64 ((0:Nat):Int),.slice (some ⟨w.heap.size,0,none⟩) n n] w2 (TellEnd w.heap.size n (tell (.node l r) 0 (fun _=>0)) w2)):=tell_any w.heap.size n n (.node l r) k 0 (fun _=>0) w2 hsl ht hO2 (by omega)
  have hc:w2.cell? ⟨k,0,none⟩=some (.int .i64 (-1)):=by
   obtain⟨kl,kr,o',p',hk,_⟩:=ht
   unfold nodeC at hk;simp[World.cell?,hk]
  have HB2:Hid (Below w.heap.size w w2):=bw2
  have HIT:Hid (iterT (initT zs zs.length) j=[(o,.node l r)]):=hit
  clear hO2 hsl hhl ht b2 bw2 hit HGT HO1
  go_wp2_with fail
  refine HTE.out.mono ?_
  rintro e w3 ⟨⟨v,rfl⟩,o3,t3⟩
  have HF:Hid (TLEnd zs n w (.returned (.slice (some ⟨w.heap.size,0,none⟩) n n)) w3):=⟨⟨rfl,_,o3,.inr ⟨o,_,j,HIT.out,rfl⟩⟩,HB2.out.trans (t3.below (Nat.le_refl _))⟩
  clear o3 t3 HTE
  go_wp2_with fail
  go_ret
  exact HF.out
def aboveB (l:List Int) (m:Int):Bool:=l.any (fun z=>decide (z>m))
set_option maxHeartbeats 1000000 in
theorem oneAbove_any (a:Option Addr) (n c:Nat) (l:List Int) (m:Int) (w:World) (h:Ints w a l) (hn:l.length=n) (hb:n≤1000):
 Calls Tryz.prog 61 #[.slice a n c,.int .i64 m] w fun e w'=>e=.returned (.bool (aboveB l m))∧w'=w:=by
 have HI:Hid (Ints w a l):=h
 have HN:Hid (l.length=n):=hn
 clear h hn
 go_enter Tryz.func61,Tryz.ntmps61
 go_wp2_with fail
 go_loopw [9] (fun i wr=>∃k:Nat,k≤n∧i=.int .i64 (k:Int)∧wr=w∧Hid (aboveB l m=aboveB (l.drop k) m)) (fun i _=>n-(intOf i).toNat)
 case atStart=>exact⟨0,Nat.zero_le _,rfl,rfl,by show _=_;rw[List.drop_zero]⟩
 case round=>
  obtain⟨k,hk,rfl,hwr,HA⟩:=hrel
  subst hwr
  by_cases hlt:k<n
  · have hki:(k:Int)<(n:Int):=by omega
    have hkl:k<l.length:=by rw[HN.out];exact hlt
    obtain⟨ab,ao,rfl,hac⟩:∃ab ao,a=some ⟨ab,ao,none⟩∧wr.cell? ⟨ab,ao+k,none⟩=some (.int .i64 l[k]):=by
     rcases HI.out with e|⟨b,off,e1,e2,e3⟩
     · rw[e] at hkl;simp at hkl
     exact⟨b,off,e1,e3 k hkl⟩
    have hd:aboveB (l.drop k) m=(decide (l[k]>m)||aboveB (l.drop (k+1)) m):=by rw[List.drop_eq_getElem_cons hkl];rfl
    generalize l[k]=z at*
    by_cases hgt:z>m
    · have HT:Hid (aboveB l m=true):=by show _=_;rw[HA.out,hd,decide_eq_true hgt];rfl
      have dgt:decide (z>m)=true:=decide_eq_true hgt
      clear HA hd hgt
      go_wp2_with fail
      go_ret
      exact⟨by rw[HT.out];rfl,rfl⟩
    have HT:Hid (aboveB l m=aboveB (l.drop (k+1)) m):=by show _=_;rw[HA.out,hd,decide_eq_false hgt];rfl
    have dgt:decide (z>m)=false:=decide_eq_false hgt
    clear HA hd hgt
    go_wp2_with fail
    go_roundw
    case rel=>exact⟨k+1,by omega,by go_num,trivial,HT⟩
    case measure=>simp[intOf];omega
  have hki:¬(k:Int)<(n:Int):=by omega
  have HT:Hid (aboveB l m=false):=by show _=_;rw[HA.out,List.drop_of_length_le (by rw[HN.out];omega)];rfl
  clear HA
  go_wp2_with fail
  go_ret
  exact⟨by rw[HT.out];rfl,rfl⟩
end Go.Proofs.YtejebodgfoihkaaGreat
namespace Go.Proofs.YtejebodgfoihkaaGreat
open Go.RowKit
namespace Ct

def half (z:Int):Int:=(z+1) / 2
def hv (zs:List Int):List Int:=zs.map half
theorem hv_len (zs:List Int):(hv zs).length=zs.length:=by unfold hv;simp
theorem hv_get {zs:List Int} {i:Nat} (h:i<zs.length):(hv zs).getD i 0=half (zs.getD i 0):=by
 unfold hv
 rw[List.getD_eq_getElem?_getD,List.getD_eq_getElem?_getD,List.getElem?_map,List.getElem?_eq_getElem h];rfl
def Good (m:Nat) (zs:List Int):Prop:=zs.length≤300∧(∀i,i<zs.length→0≤zs.getD i 0∧zs.getD i 0≤9000)∧come zs≤2^m
theorem come_hv_k {zs:List Int} (h:∀i,i<zs.length→0≤zs.getD i 0∧zs.getD i 0≤9000):∀k,k≤zs.length→(initT (hv zs) k).length=(initT zs k).length
 | 0,_=>rfl
 | k+1,hk=>by
  have ih:=come_hv_k h k (by omega)
  have hz:=h k (by omega)
  unfold initT
  rw[hv_get (by omega)]
  unfold half
  by_cases hp:0<zs.getD k 0
  · rw[if_pos hp,if_pos (by omega),List.length_append,List.length_append,ih];rfl
  rw[if_neg hp,if_neg (by omega),ih]
theorem Good.hv {m:Nat} {zs:List Int} (h:Good m zs):Good m (hv zs):=by
 obtain⟨h1,h2,h3⟩:=h
 refine⟨by rw[hv_len];exact h1,fun i hi=>?_,?_⟩
 · rw[hv_len] at hi
   rw[hv_get hi]
   have:=h2 i hi
   unfold half
   omega
 unfold come at*
 rw[hv_len,come_hv_k h2 _ (Nat.le_refl _)]
 exact h3
inductive Fits (m:Nat):List Int→(Nat→Nat)→Prop
 | stop {zs:List Int} {F:Nat→Nat}:IsLens zs F→(∀i,i<zs.length→F i≤m)→Fits m zs F
 | more {zs:List Int} {F G:Nat→Nat}:IsLens zs F→(∃i,i<zs.length∧m<F i)→Fits m (hv zs) G→Fits m zs G
theorem Fits.same {m:Nat} {zs:List Int} {F G:Nat→Nat} (h:Fits m zs F) (k:Fits m zs G):F=G:=by
 induction h generalizing G with
 | stop h1 h2=>
  cases k with
  | stop k1 k2=>exact h1.same k1
  | more k1 k2 k3=>
   obtain⟨i,hi,hgt⟩:=k2
   have:=h2 i hi
   rw[h1.same k1] at this
   omega
 | more h1 h2 h3 ih=>
  cases k with
  | stop k1 k2=>
   obtain⟨i,hi,hgt⟩:=h2
   have:=k2 i hi
   rw[←h1.same k1] at this
   omega
  | more k1 k2 k3=>exact ih k3
def tot (zs:List Int):Nat:=Cf.sum (fun z:Int=>z.toNat) zs
theorem tot_hv:∀{zs:List Int},(∀z∈zs,0≤z)→tot (hv zs)≤tot zs∧((∃z∈zs,1<z)→tot (hv zs)<tot zs)
 | [],_=>⟨Nat.le_refl _,fun ⟨z,hz,_⟩=>by simp at hz⟩
 | z::zs,h=>by
  obtain⟨h1,h2⟩:=tot_hv (zs:=zs) (fun y hy=>h y (by simp[hy]))
  have hz:=h z (by simp)
  have e1:tot (hv (z::zs))=(half z).toNat+tot (hv zs):=rfl
  have e2:tot (z::zs)=z.toNat+tot zs:=rfl
  have e3:(half z).toNat≤z.toNat:=by unfold half;omega
  rw[e1,e2]
  refine⟨by omega,fun ⟨y,hy,hgt⟩=>?_⟩
  rcases List.mem_cons.1 hy with rfl|hy
  · have:(half y).toNat<y.toNat:=by unfold half;omega
    omega
  have:=h2 ⟨y,hy,hgt⟩
  omega
theorem Good.less {m:Nat} {zs:List Int} {F:Nat→Nat} (h:Good m zs) (hm:1≤m) (hF:IsLens zs F) (hx:∃i,i<zs.length∧m<F i):tot (Ct.hv zs)<tot zs:=by
 refine (tot_hv (fun z hz=>?_)).2 ?_
 · obtain⟨i,hi,rfl⟩:=List.mem_iff_getElem.1 hz
   have:=(h.2.1 i hi).1
   rwa [List.getD_eq_getElem?_getD,List.getElem?_eq_getElem hi] at this
 by_cases c:∃z∈zs,1<z
 · exact c
 exfalso
 obtain⟨i,hi,hgt⟩:=hx
 have h1:=ones_deep (zs:=zs) (fun i hi=>by
  rw[List.getD_eq_getElem?_getD,List.getElem?_eq_getElem hi]
  show zs[i]≤1
  rcases Int.lt_or_le 1 zs[i] with q|q
  · exact absurd ⟨zs[i],List.getElem_mem hi,q⟩ c
  exact q) hm h.2.2
 have h2:=hF.deep i
 omega
end Ct

def memSum (w:World):Value→Nat
 | .slice (some a) n _=>Ct.tot ((List.range n).map (fun i=>intOf ((w.cell? ⟨a.block,a.off+i,none⟩).getD undef)))
 | _=>0
theorem memSum_is {w:World} {a:Option Addr} {n c:Nat} {l:List Int} (h:Ints w a l) (hn:l.length=n):memSum w (.slice a n c)=Ct.tot l:=by
 rcases h with rfl|⟨b,off,rfl,_,hc⟩
 · subst hn
   cases a<;>rfl
 show Ct.tot ((List.range n).map (fun i=>intOf ((w.cell? ⟨b,off+i,none⟩).getD undef)))=Ct.tot l
 congr 1
 apply List.ext_getElem
 · simp[hn]
 intro i h1 h2
 simp only[List.getElem_map,List.getElem_range]
 rw[hc i h2]
 rfl
set_option maxHeartbeats 2000000 in
set_option maxRecDepth 20000 in
theorem halves_any (a:Option Addr) (n cap:Nat) (zs:List Int) (w:World) (h:Ints w a zs) (hn:zs.length=n) (hb:n≤300) (hz:∀i,i<zs.length→0≤zs.getD i 0∧zs.getD i 0≤9000):
 Calls Tryz.prog 62 #[.slice a n cap] w fun e w'=>e=.returned (.slice (some ⟨w.heap.size,0,none⟩) n n)∧Ints w' (some ⟨w.heap.size,0,none⟩) (Ct.hv zs)∧Below w.heap.size w w':=by
 have HI:Hid (Ints w a zs):=h
 have HN:Hid (zs.length=n):=hn
 have HZ:Hid (∀i,i<zs.length→0≤zs.getD i 0∧zs.getD i 0≤9000):=hz
 have hmk:=make_arr zs n hn (by omega) w
 obtain⟨w1,hw1⟩:∃w1,w1=w.alloc (.cells (arr (Mk.outer zs 0).2) 3):=⟨_,rfl⟩
 have b1:Below w.heap.size w w1:=by rw[hw1];exact (Below.refl _ _).alloc (Nat.le_refl _) _
 have HO1:Hid (OwnL w1 w.heap.size n (fun _=>0)):=by
  rw[hw1]
  refine⟨⟨by simp,fun i hi=>⟨?_,by rw[World.frozen?_alloc_at _ _ _ _ rfl]⟩⟩,_,_,heap_alloc_new _ _⟩
  rw[World.cell?_alloc_at _ _ _ _ rfl,arr_get _ i (by rw[Mk.outer_len,hn];exact hi)]
  simp[Mk.outer]
 rw[←hw1] at hmk
 clear h hn hz hw1
 go_enter Tryz.func62,Tryz.ntmps62
 go_wp2_with fail
 go_loopw [11] (fun i wr=>∃(k:Nat) (f:Nat→Nat),k≤n∧i=.int .i64 (k:Int)∧Hid (OwnL wr w.heap.size n f∧Below w.heap.size w wr∧∀i,i<k→((f i:Nat):Int)=Ct.half (zs.getD i 0))) (fun i _=>n-(intOf i).toNat)
 case atStart=>exact⟨0,_,Nat.zero_le _,rfl,HO1.out,b1,fun i hi=>by omega⟩
 case round=>
  obtain⟨k,f,hk,rfl,HR⟩:=hrel
  by_cases hlt:k<n
  · have hki:(k:Int)<(n:Int):=by omega
    have hkl:k<zs.length:=by rw[HN.out];exact hlt
    obtain⟨ab,ao,rfl,hac⟩:∃ab ao,a=some ⟨ab,ao,none⟩∧wr.cell? ⟨ab,ao+k,none⟩=some (.int .i64 (zs.getD k 0)):=by
     rcases HI.out with e|⟨b,off,e1,e2,e3⟩
     · rw[e] at hkl;simp at hkl
     refine⟨b,off,e1,(HR.out.2.1.cell (p:=⟨b,off+k,none⟩) e2).trans ?_⟩
     rw[e3 k hkl,List.getD_eq_getElem?_getD,List.getElem?_eq_getElem hkl];rfl
    have hzk:=HZ.out k hkl
    obtain⟨z,hz⟩:∃z:Nat,zs.getD k 0=(z:Int):=⟨(zs.getD k 0).toNat,by omega⟩
    rw[hz] at hac
    obtain⟨z1,hz1⟩:∃z1,z1=z+1:=⟨_,rfl⟩
    have ez:(z:Int)+1=(z1:Int):=by omega
    obtain⟨H,hH⟩:∃H,H=(z+1) / 2:=⟨_,rfl⟩
    have eH:(z1:Int).tdiv 2=(H:Int):=by rw[hH,←hz1];rfl
    have eH2:(z1:Int) / 2=(H:Int):=by omega
    obtain⟨h3,h4⟩:=HR.out.1.set hlt H
    have HR2:Hid (OwnL (wr.setCell ⟨w.heap.size,k,none⟩ (.int .i64 (H:Int))) w.heap.size n (fun i=>if i=k then H else f i)∧Below w.heap.size w (wr.setCell ⟨w.heap.size,k,none⟩ (.int .i64 (H:Int)))∧∀i,i<k+1→(((if i=k then H else f i):Nat):Int)=Ct.half (zs.getD i 0)):=by
     refine⟨h3,HR.out.2.1.setCell (p:=⟨w.heap.size,k,none⟩) (Nat.le_refl _) _,fun i hi=>?_⟩
     by_cases e:i=k
     · subst e
       rw[if_pos rfl,hz]
       unfold Ct.half
       omega
     rw[if_neg e]
     exact HR.out.2.2 i (by omega)
    obtain⟨hcs,hfs⟩:=HR.out.1.1.2 k hlt
    have hzb:z1≤9001:=by omega
    generalize ((f k:Nat):Int)=u at hcs
    clear HR h3 h4 hz hzk hz1 hH HO1
    go_wp2_with fail
    go_roundw
    case rel=>exact⟨k+1,_,by omega,by go_num,HR2⟩
    case measure=>simp[intOf];omega
  have hki:¬(k:Int)<(n:Int):=by omega
  obtain rfl:k=n:=by omega
  have HF:Hid (Ints wr (some ⟨w.heap.size,0,none⟩) (Ct.hv zs)∧Below w.heap.size w wr):=by
   refine⟨.inr ⟨w.heap.size,0,rfl,HR.out.1.1.1,fun i hi=>?_⟩,HR.out.2.1⟩
   rw[Ct.hv_len,HN.out] at hi
   have h5:wr.cell? ⟨w.heap.size,i,none⟩=some (.int .i64 ((f i:Nat):Int)):=(HR.out.1.1.2 i hi).1
   rw[HR.out.2.2 i hi,←Ct.hv_get (by rw[HN.out];exact hi),List.getD_eq_getElem?_getD,List.getElem?_eq_getElem (by rw[Ct.hv_len,HN.out];exact hi)] at h5
   rw[Nat.zero_add]
   exact h5
  clear HR HO1
  go_wp2_with fail
  go_ret
  exact⟨rfl,HF.out.1,HF.out.2⟩
end Go.Proofs.YtejebodgfoihkaaGreat
namespace Go.Proofs.YtejebodgfoihkaaGreat
namespace Ct

def sg (g:Nat→Nat):Nat→Nat
 | 0=>0
 | n+1=>sg g n+g n
theorem sg_same {g h:Nat→Nat}:∀{n:Nat},(∀i,i<n→g i=h i)→sg g n=sg h n
 | 0,_=>rfl
 | n+1,e=>by
  show sg g n+g n=sg h n+h n
  rw[sg_same (n:=n) (fun i hi=>e i (by omega)),e n (by omega)]
theorem sg_add (g h:Nat→Nat):∀n,sg (fun i=>g i+h i) n=sg g n+sg h n
 | 0=>rfl
 | n+1=>by
  show sg (fun i=>g i+h i) n+(g n+h n)=sg g n+g n+(sg h n+h n)
  rw[sg_add g h n]
  omega
theorem sg_one (s v:Nat):∀n,sg (fun i=>if i=s then v else 0) n=if s<n then v else 0
 | 0=>by rw[if_neg (by omega)];rfl
 | n+1=>by
  show sg (fun i=>if i=s then v else 0) n+(if n=s then v else 0)=_
  rw[sg_one s v n]
  by_cases h:n=s
  · rw[if_pos h,if_neg (by omega),if_pos (by omega)];omega
  rw[if_neg h]
  by_cases q:s<n
  · rw[if_pos q,if_pos (by omega)];omega
  rw[if_neg q,if_neg (by omega)]
theorem sg_zero (n:Nat):sg (fun _=>0) n=0:=by
 induction n with
 | zero=>rfl
 | succ n ih=>show sg _ n+0=0;rw[ih]
theorem taken_sg (f:Nat→Nat):∀n,Cd.taken ((List.range n).map (fun i=>((f i:Nat):Int)))=sg (fun i=>Cd.part ((f i:Nat):Int)) n
 | 0=>rfl
 | n+1=>by
  rw[List.range_succ,List.map_append,Cd.taken_append,taken_sg f n]
  show _+(Cd.part _+0)=sg _ n+_
  rfl
theorem part_nat (k:Nat) (h:0<k):Cd.part (k:Int)=2^(15-k):=by
 unfold Cd.part
 rw[if_pos (by omega)]
 rfl
theorem syms_some:∀t:Tr,∃s,s∈syms t
 | .leaf s=>⟨s,by simp[syms]⟩
 | .node l _=>by obtain⟨s,h⟩:=syms_some l;exact⟨s,by simp[syms,h]⟩
theorem dep_left {l r:Tr} {s:Nat} (hc:(syms (.node l r)).count s≤1) (h:s∈syms l):s ∉ syms r∧dep (.node l r) s=1+dep l s:=by
 simp only[syms,List.count_append] at hc
 have h1:=List.one_le_count_iff.2 h
 have hn:s ∉ syms r:=fun q=>by have:=List.one_le_count_iff.2 q;omega
 refine⟨hn,?_⟩
 simp only[dep,List.count_append]
 rw[dep_none hn,List.count_eq_zero.2 hn]
 omega
theorem dep_right {l r:Tr} {s:Nat} (hc:(syms (.node l r)).count s≤1) (h:s∈syms r):s ∉ syms l∧dep (.node l r) s=1+dep r s:=by
 simp only[syms,List.count_append] at hc
 have h1:=List.one_le_count_iff.2 h
 have hn:s ∉ syms l:=fun q=>by have:=List.one_le_count_iff.2 q;omega
 refine⟨hn,?_⟩
 simp only[dep,List.count_append]
 rw[dep_none hn,List.count_eq_zero.2 hn]
 omega
theorem kraft (n:Nat):∀(t:Tr) (d:Nat),0<d→(∀s,(syms t).count s≤1)→(∀s∈syms t,s<n∧d+dep t s≤15)→sg (fun i=>Cd.part ((if i∈syms t then d+dep t i else 0:Nat):Int)) n=2^(15-d)
 | .leaf x,d,hd,_,hb=>by
  have h1:=(hb x (by simp[syms])).1
  rw[sg_same (h:=fun i=>if i=x then 2^(15-d) else 0) (fun i _=>by
   by_cases e:i=x
   · rw[if_pos (by simp[syms,e]),if_pos e]
     exact part_nat _ (by show 0<d+0;omega)
   · rw[if_neg (by simp[syms,e]),if_neg e];rfl),sg_one,if_pos h1]
 | .node l r,d,hd,hc,hb=>by
  have hl:=kraft n l (d+1) (by omega) (fun s=>by have:=hc s;simp only[syms,List.count_append] at this;omega) (fun s hs=>by
   have:=hb s (by simp[syms,hs])
   rw[(dep_left (hc s) hs).2] at this
   omega)
  have hr:=kraft n r (d+1) (by omega) (fun s=>by have:=hc s;simp only[syms,List.count_append] at this;omega) (fun s hs=>by
   have:=hb s (by simp[syms,hs])
   rw[(dep_right (hc s) hs).2] at this
   omega)
  obtain⟨x,hx⟩:=syms_some l
  have hd2:d+1≤15:=by
   have:=hb x (by simp[syms,hx])
   rw[(dep_left (hc x) hx).2] at this
   omega
  rw[sg_same (h:=fun i=>Cd.part ((if i∈syms l then d+1+dep l i else 0:Nat):Int)+Cd.part ((if i∈syms r then d+1+dep r i else 0:Nat):Int)) (fun i _=>by
   by_cases h1:i∈syms l
   · obtain⟨h2,h3⟩:=dep_left (hc i) h1
     rw[if_pos (by simp[syms,h1]),if_pos h1,if_neg h2,h3,←Nat.add_assoc]
     rfl
   by_cases h2:i∈syms r
   · obtain⟨_,h3⟩:=dep_right (hc i) h2
     rw[if_pos (by simp[syms,h2]),if_neg h1,if_pos h2,h3,←Nat.add_assoc]
     show _=0+_
     rw[Nat.zero_add]
   rw[if_neg (by simp[syms,h1,h2]),if_neg h1,if_neg h2];rfl),sg_add,hl,hr]
  have e:15-d=15-(d+1)+1:=by omega
  rw[e,Nat.pow_succ]
  omega
theorem kraft_node {n:Nat} {l r:Tr} (hc:∀s,(syms (.node l r)).count s≤1) (hb:∀s∈syms (.node l r),s<n∧dep (.node l r) s≤15):sg (fun i=>Cd.part ((if i∈syms (.node l r) then dep (.node l r) i else 0:Nat):Int)) n=32768:=by
 have hl:=kraft n l 1 (by omega) (fun s=>by have:=hc s;simp only[syms,List.count_append] at this;omega) (fun s hs=>by
  have:=hb s (by simp[syms,hs])
  rw[(dep_left (hc s) hs).2] at this
  omega)
 have hr:=kraft n r 1 (by omega) (fun s=>by have:=hc s;simp only[syms,List.count_append] at this;omega) (fun s hs=>by
  have:=hb s (by simp[syms,hs])
  rw[(dep_right (hc s) hs).2] at this
  omega)
 rw[sg_same (h:=fun i=>Cd.part ((if i∈syms l then 1+dep l i else 0:Nat):Int)+Cd.part ((if i∈syms r then 1+dep r i else 0:Nat):Int)) (fun i _=>by
  by_cases h1:i∈syms l
  · obtain⟨h2,h3⟩:=dep_left (hc i) h1
    rw[if_pos (by simp[syms,h1]),if_pos h1,if_neg h2,h3]
    rfl
  by_cases h2:i∈syms r
  · obtain⟨_,h3⟩:=dep_right (hc i) h2
    rw[if_pos (by simp[syms,h2]),if_neg h1,if_pos h2,h3]
    show _=0+_
    rw[Nat.zero_add]
  rw[if_neg (by simp[syms,h1,h2]),if_neg h1,if_neg h2];rfl),sg_add,hl,hr]
theorem sum_mem {α:Type} {f:α→Nat} {x:α}:∀{l:List α},x∈l→f x≤Cf.sum f l
 | y::l,h=>by
  show f x≤f y+Cf.sum f l
  rcases List.mem_cons.1 h with rfl|h
  · omega
  have:=sum_mem (f:=f) h;omega
theorem init_cnt_no {zs:List Int} {s:Nat} (h:¬0<zs.getD s 0):∀k,Cf.sum (cnt s) (initT zs k)=0
 | 0=>rfl
 | k+1=>by
  have ih:=init_cnt_no h k
  unfold initT
  split
  · rename_i hp
    rw[Cf.sum_append,ih]
    have e:k≠s:=fun e=>h (e ▸ hp)
    simp[Cf.sum,cnt,syms,e]
  exact ih
theorem init_cnt_big (zs:List Int) (s k:Nat) (h:k≤s):Cf.sum (cnt s) (initT zs k)=0:=(init_cnt zs s k).2 h
theorem tree_syms {zs:List Int} {o:Nat} {t:Tr} {j:Nat} (h:iterT (initT zs zs.length) j=[(o,t)]):(∀s,(syms t).count s≤1)∧(∀s,s∈syms t↔s<zs.length∧0<zs.getD s 0)∧(syms t).length=come zs:=by
 have hcnt:∀x,(syms t).count x=Cf.sum (cnt x) (initT zs zs.length):=fun x=>by
  have h1:=iter_cnt x (initT zs zs.length) j
  rw[h] at h1
  have e:Cf.sum (cnt x) [(o,t)]=(syms t).count x:=by simp[Cf.sum,cnt]
  omega
 refine⟨fun s=>by rw[hcnt];exact (init_cnt zs s zs.length).1,fun s=>⟨fun hs=>?_,fun ⟨hs,hp⟩=>?_⟩,?_⟩
 · have h1:=List.one_le_count_iff.2 hs
   rw[hcnt] at h1
   refine⟨Nat.lt_of_not_le fun q=>?_,?_⟩
   · rw[init_cnt_big zs s _ q] at h1;omega
   by_cases hp:0<zs.getD s 0
   · exact hp
   rw[init_cnt_no hp] at h1;omega
 · have h1:=sum_mem (f:=cnt s) (init_has hp zs.length hs)
   rw[←hcnt] at h1
   have e:cnt s ((zs.getD s 0).toNat,Tr.leaf s)=1:=by simp[cnt,syms]
   rw[e] at h1
   exact List.one_le_count_iff.1 h1
 have h1:=iter_lvs (initT zs zs.length) j
 rw[h] at h1
 have e:Cf.sum lvs [(o,t)]=(syms t).length:=by simp[Cf.sum,lvs]
 rw[←e,h1]
 unfold come
 have:∀l:List Nt,(∀p∈l,∃s,p.2=.leaf s)→Cf.sum lvs l=l.length:=by
  intro l
  induction l with
  | nil=>intro _;rfl
  | cons p l ih=>
   intro hl
   show lvs p+Cf.sum lvs l=l.length+1
   obtain⟨s,hs⟩:=hl p (by simp)
   rw[ih (fun q hq=>hl q (by simp[hq]))]
   unfold lvs
   rw[hs]
   simp[syms]
   omega
 exact this _ (init_leaves zs zs.length)
structure Whole (zs:List Int) (f:Nat→Nat):Prop where
 some:∀i,i<zs.length→(f i=0↔¬0<zs.getD i 0)
 one:come zs≤1→sg (fun i=>Cd.part ((f i:Nat):Int)) zs.length≤32768
 full:2≤come zs→sg (fun i=>Cd.part ((f i:Nat):Int)) zs.length=32768
theorem come_one {zs:List Int} (h:initT zs zs.length=[]) (i:Nat) (hi:i<zs.length):¬0<zs.getD i 0:=fun hp=>by
 have:=init_has hp zs.length hi
 rw[h] at this
 simp at this
theorem IsLens.whole {zs:List Int} {f:Nat→Nat} (h:IsLens zs f) (hm:∀i,i<zs.length→f i≤15):Whole zs f:=by
 rcases h with⟨hn,rfl⟩|⟨o,t,j,hit,rfl⟩
 · refine⟨fun i hi=>⟨fun _=>come_one hn i hi,fun _=>rfl⟩,fun _=>?_,fun q=>?_⟩
   · have e0:sg (fun i=>Cd.part (((fun _=>0:Nat→Nat) i:Nat):Int)) zs.length=0:=(sg_same (h:=fun _=>0) (fun i _=>rfl)).trans (sg_zero _)
     rw[e0];omega
   unfold come at q;rw[hn] at q;simp at q
 obtain⟨hc,hs,hl⟩:=tree_syms hit
 match t,hc,hs,hl,hm with
 | .leaf x,hc,hs,hl,hm=>
  refine⟨fun i hi=>?_,fun _=>?_,fun q=>?_⟩
  · show (if i=x then 1 else 0)=0↔_
    have h1:=hs i
    simp only[syms,List.mem_singleton] at h1
    by_cases e:i=x
    · rw[if_pos e]
      exact⟨fun q=>by omega,fun q=>absurd (h1.1 e).2 q⟩
    rw[if_neg e]
    exact⟨fun _ q=>e (h1.2 ⟨hi,q⟩),fun _=>rfl⟩
  · rw[sg_same (h:=fun i=>if i=x then 16384 else 0) (fun i _=>by
     show Cd.part ((if i=x then 1 else 0:Nat):Int)=_
     by_cases e:i=x
     · rw[if_pos e,if_pos e];rfl
     rw[if_neg e,if_neg e];rfl),sg_one]
    split<;>omega
  · simp only[syms,List.length_singleton] at hl;omega
 | .node l r,hc,hs,hl,hm=>
  have ef:∀i,topT (.node l r) i=if i∈syms (.node l r) then dep (.node l r) i else 0:=fun i=>by
   show Go.Proofs.YtejebodgfoihkaaGreat.tell (.node l r) 0 (fun _=>0) i=_
   rw[tell_is (hc i),Nat.zero_add]
  have hk:=kraft_node (n:=zs.length) hc (fun s hx=>⟨((hs s).1 hx).1,by
   have h1:=hm s ((hs s).1 hx).1
   rw[ef,if_pos hx] at h1
   exact h1⟩)
  have hk2:sg (fun i=>Cd.part ((topT (.node l r) i:Nat):Int)) zs.length=32768:=by
   rw[←hk]
   exact sg_same (fun i _=>by rw[ef])
  refine⟨fun i hi=>?_,fun _=>by rw[hk2];omega,fun _=>hk2⟩
  rw[ef]
  by_cases hx:i∈syms (.node l r)
  · rw[if_pos hx]
    refine⟨fun q=>?_,fun q=>absurd ((hs i).1 hx).2 q⟩
    have:=List.one_le_count_iff.2 hx
    simp only[dep] at q
    simp only[syms] at this
    omega
  rw[if_neg hx]
  exact⟨fun _ q=>hx ((hs i).2 ⟨hi,q⟩),fun _=>rfl⟩
theorem half_pos {z:Int} (h:0≤z):0<half z↔0<z:=by unfold half;omega
theorem Fits.whole {m:Nat} (h15:m≤15) {zs:List Int} {f:Nat→Nat} (h:Fits m zs f):(∀i,i<zs.length→0≤zs.getD i 0∧zs.getD i 0≤9000)→Whole zs f∧∀i,i<zs.length→f i≤m:=by
 induction h with
 | stop h1 h2=>exact fun _=>⟨h1.whole (fun i hi=>Nat.le_trans (h2 i hi) h15),h2⟩
 | @more zs F G h1 h2 h3 ih=>
  intro hz
  obtain⟨w,wm⟩:=ih (fun i hi=>by
   rw[hv_len] at hi
   rw[hv_get hi]
   have:=hz i hi
   unfold half
   omega)
  have ec:come (hv zs)=come zs:=by
   unfold come
   rw[hv_len]
   exact come_hv_k hz _ (Nat.le_refl _)
  refine⟨⟨fun i hi=>?_,fun q=>?_,fun q=>?_⟩,fun i hi=>wm i (by rw[hv_len];exact hi)⟩
  · have h5:=w.some i (by rw[hv_len];exact hi)
    rw[hv_get hi,half_pos (hz i hi).1] at h5
    exact h5
  · have h5:=w.one (by rw[ec];exact q)
    rw[hv_len] at h5
    exact h5
  have h5:=w.full (by rw[ec];exact q)
  rw[hv_len] at h5
  exact h5
end Ct
open Go.RowKit

def fitB (l:List Int) (m:Int):Bool:=decide (l.length≤300)&&(decide (1≤m)&&(decide (m≤15)&&(oftenB l&&decide (Ct.come l≤2^m.toNat))))
theorem shl_fit (b:Nat) (hb:b≤15):IntKind.i64.wrap (2^b)=((2^b:Nat):Int):=by
 have h:2^b≤2^15:=Nat.pow_le_pow_right (by omega) hb
 have:=wrap_i64_nat (2^b) (by omega)
 rw[←this]
 congr 1
theorem often_all {l:List Int} (h:oftenB l=true):∀i,i<l.length→0≤l.getD i 0∧l.getD i 0≤9000:=fun i hi=>by
 unfold oftenB oneB at h
 simp only[List.all_eq_true,Bool.and_eq_true,decide_eq_true_eq] at h
 rw[List.getD_eq_getElem?_getD,List.getElem?_eq_getElem hi]
 exact h _ (List.getElem_mem hi)
set_option maxHeartbeats 4000000 in
set_option maxRecDepth 20000 in
theorem fitOk_any (a:Option Addr) (n c:Nat) (l:List Int) (m:Int) (w:World) (h:Ints w a l) (hn:l.length=n) (hb:n≤1048576):
 Calls Tryz.prog 59 #[.slice a n c,.int .i64 m] w fun e w'=>e=.returned (.bool (fitB l m))∧w'=w:=by
 have HI:Hid (Ints w a l):=h
 have HN:Hid (l.length=n):=hn
 have HOF:Hid (Calls Tryz.prog 93 #[.slice a n c] w fun e w'=>e=.returned (.bool (oftenB l))∧w'=w):=oftenOk_any a c n l w h hn hb
 have HB:Hid (fitB l m=(decide (n≤300)&&(decide (1≤m)&&(decide (m≤15)&&(oftenB l&&decide (Ct.come l≤2^m.toNat)))))):=by show _=_;unfold fitB;rw[hn]
 have hcm:Ct.come l=(Ct.Tr.leaf 0,(initT l n).length).2:=by unfold Ct.come;rw[hn]
 clear h hn
 by_cases c1:n≤300
 · have d1:decide ((n:Int)>300)=false:=by simp;omega
   by_cases c2:1≤m
   · have d2:decide (m<1)=false:=by simp;omega
     by_cases c3:m≤15
     · have d3:decide (m>15)=false:=by simp;omega
       cases ho:oftenB l with
       | false=>
        have HF:Hid (fitB l m=false):=by show _=_;rw[HB.out,ho];simp
        rw[ho] at HOF
        clear HB ho hcm
        go_enter Tryz.func59,Tryz.ntmps59
        go_wp2_with fail
        refine HOF.out.mono ?_
        rintro e w1 ⟨rfl,hw1⟩
        replace hw1:=hw1.symm
        subst hw1
        go_wp2_with fail
        go_ret
        exact⟨by rw[HF.out];rfl,rfl⟩
       | true=>
        have HZ:Hid (∀i,i<l.length→0≤l.getD i 0∧l.getD i 0≤9000):=often_all ho
        rw[ho] at HOF
        have HF:Hid (fitB l m=decide ((initT l n).length≤2^m.toNat)):=by
         show _=_
         rw[HB.out,ho,decide_eq_true c1,decide_eq_true c2,decide_eq_true c3,hcm]
         simp
        obtain⟨M,hM⟩:∃M:Nat,m=(M:Int):=⟨m.toNat,by omega⟩
        subst hM
        rw[Int.toNat_natCast] at HF
        have hsh:=shl_fit M (by omega)
        have h2:2^M≤2^15:=Nat.pow_le_pow_right (by omega) (by omega)
        generalize 2^M=T at*
        clear HB ho hcm
        go_enter Tryz.func59,Tryz.ntmps59
        go_wp2_with fail
        refine HOF.out.mono ?_
        rintro e w1 ⟨rfl,hw1⟩
        replace hw1:=hw1.symm
        subst hw1
        go_wp2_with fail
        go_loopw [5,26] (fun v i wr=>∃k C:Nat,k≤n∧C≤k∧i=.int .i64 (k:Int)∧v=.int .i64 (C:Int)∧wr=w∧Hid ((initT l k).length=C)) (fun _ i _=>n-(intOf i).toNat)
        case atStart=>exact⟨0,0,Nat.zero_le _,Nat.le_refl _,rfl,rfl,rfl,rfl⟩
        case round=>
         obtain⟨k,C,hk,hC,rfl,rfl,hwr,HC⟩:=hrel
         subst hwr
         by_cases hlt:k<n
         · have hki:(k:Int)<(n:Int):=by omega
           have hkl:k<l.length:=by rw[HN.out];exact hlt
           obtain⟨ab,ao,rfl,hac⟩:∃ab ao,a=some ⟨ab,ao,none⟩∧wr.cell? ⟨ab,ao+k,none⟩=some (.int .i64 (l.getD k 0)):=by
            rcases HI.out with e|⟨b,off,e1,e2,e3⟩
            · rw[e] at hkl;simp at hkl
            refine⟨b,off,e1,?_⟩
            rw[e3 k hkl,List.getD_eq_getElem?_getD,List.getElem?_eq_getElem hkl];rfl
           have hzk:=HZ.out k hkl
           have hin:initT l (k+1)=if 0<l.getD k 0 then initT l k++[((l.getD k 0).toNat,.leaf k)] else initT l k:=rfl
           generalize l.getD k 0=z at*
           by_cases hz0:z=0
           · have HC2:Hid ((initT l (k+1)).length=C):=by show _=_;rw[hin,if_neg (by omega)];exact HC.out
             have dz:(z != 0)=false:=by rw[hz0];rfl
             clear HC hin hz0 hzk
             go_wp2_with fail
             go_roundw
             case rel=>exact⟨k+1,C,by omega,by omega,by go_num,rfl,trivial,HC2⟩
             case measure=>simp[intOf];omega
           have HC2:Hid ((initT l (k+1)).length=C+1):=by show _=_;rw[hin,if_pos (by omega),List.length_append,HC.out];rfl
           have dz:(z != 0)=true:=by rw[bne_iff_ne];exact hz0
           clear HC hin hz0 hzk
           go_wp2_with fail
           go_roundw
           case rel=>exact⟨k+1,C+1,by omega,by omega,by go_num,by go_num,trivial,HC2⟩
           case measure=>simp[intOf];omega
         have hki:¬(k:Int)<(n:Int):=by omega
         obtain rfl:k=n:=by omega
         have HF2:Hid (fitB l (M:Int)=decide (C≤T)):=by show _=_;rw[HF.out,HC.out]
         clear HC HF
         go_wp2_with fail
         go_ret
         exact⟨by rw[HF2.out];rfl,rfl⟩
     have d3:decide (m>15)=true:=by simp;omega
     have HF:Hid (fitB l m=false):=by show _=_;rw[HB.out,decide_eq_false c3];simp
     clear HB HOF hcm
     go_enter Tryz.func59,Tryz.ntmps59
     go_wp2_with fail
     go_ret
     exact⟨by rw[HF.out];rfl,rfl⟩
   have d2:decide (m<1)=true:=by simp;omega
   have HF:Hid (fitB l m=false):=by show _=_;rw[HB.out,decide_eq_false c2];simp
   clear HB HOF hcm
   go_enter Tryz.func59,Tryz.ntmps59
   go_wp2_with fail
   go_ret
   exact⟨by rw[HF.out];rfl,rfl⟩
 have d1:decide ((n:Int)>300)=true:=by simp;omega
 have HF:Hid (fitB l m=false):=by show _=_;rw[HB.out,decide_eq_false c1];simp
 clear HB HOF hcm
 go_enter Tryz.func59,Tryz.ntmps59
 go_wp2_with fail
 go_ret
 exact⟨by rw[HF.out];rfl,rfl⟩
theorem own_ints2 {w:World} {b n:Nat} {f:Nat→Nat} (h:OwnL w b n f):Ints w (some ⟨b,0,none⟩) ((List.range n).map (fun i=>((f i:Nat):Int))):=by
 refine .inr ⟨b,0,rfl,h.1.1,fun i hi=>?_⟩
 rw[List.length_map,List.length_range] at hi
 rw[Nat.zero_add,List.getElem_map,List.getElem_range]
 exact (h.1.2 i hi).1
theorem above_iff {f:Nat→Nat} {n M:Nat}:(aboveB ((List.range n).map (fun i=>((f i:Nat):Int))) (M:Int)=true)↔∃i,i<n∧M<f i:=by
 unfold aboveB
 rw[List.any_eq_true]
 constructor
 · rintro ⟨z,hz,hd⟩
   obtain⟨i,hi,rfl⟩:=List.mem_map.1 hz
   exact⟨i,List.mem_range.1 hi,by have:=of_decide_eq_true hd;omega⟩
 rintro ⟨i,hi,hlt⟩
 exact⟨_,List.mem_map.2 ⟨i,List.mem_range.2 hi,rfl⟩,decide_eq_true (by omega)⟩
def FitEnd (l:List Int) (m:Int) (w:World) (e:Ending) (w':World):Prop:=
 ((fitB l m=false∧∃a c,e=.returned (.slice a 0 c))∨(fitB l m=true∧∃b f,e=.returned (.slice (some ⟨b,0,none⟩) l.length l.length)∧w.heap.size≤b∧OwnL w' b l.length f∧Ct.Fits m.toNat l f))∧Below w.heap.size w w'
set_option maxHeartbeats 4000000 in
set_option maxRecDepth 20000 in
theorem impl_codeFit (a:Option Addr) (n c:Nat) (l:List Int) (m:Int) (w:World) (h:Ints w a l) (hn:l.length=n) (hb:n≤1048576):
 Calls Tryz.prog 34 #[.slice a n c,.int .i64 m] w (FitEnd l m w):=by
 have HFO:Hid (Calls Tryz.prog 59 #[.slice a n c,.int .i64 m] w fun e w'=>e=.returned (.bool (fitB l m))∧w'=w):=fitOk_any a n c l m w h hn hb
 cases hf:fitB l m with
 | false=>
  have HE:Hid (FitEnd l m w (.returned (.slice none 0 0)) w):=⟨.inl ⟨hf,_,_,rfl⟩,Below.refl _ _⟩
  rw[hf] at HFO
  clear h hn hf
  go_enter Tryz.func34,Tryz.ntmps34
  go_wp2_with fail
  refine HFO.out.mono ?_
  rintro e w1 ⟨rfl,hw1⟩
  replace hw1:=hw1.symm
  subst hw1
  go_wp2_with fail
  go_ret
  exact HE.out
 | true=>
  have hg:l.length≤300∧1≤m∧m≤15∧oftenB l=true∧Ct.come l≤2^m.toNat:=by
   unfold fitB at hf
   simpa [and_assoc] using hf
  obtain⟨M,hM⟩:∃M:Nat,m=(M:Int):=⟨m.toNat,by omega⟩
  subst hM
  rw[Int.toNat_natCast] at hg
  have HG:Hid (Ct.Good M l):=⟨hg.1,often_all hg.2.2.2.1,hg.2.2.2.2⟩
  have hM1:1≤M:=by omega
  have hn3:n≤300:=by omega
  have HE:Hid (∀(b:Nat) (f:Nat→Nat) (W:World),w.heap.size≤b→OwnL W b n f→Ct.Fits M l f→Below w.heap.size w W→FitEnd l (M:Int) w (.returned (.slice (some ⟨b,0,none⟩) n n)) W):=fun b f W h1 h2 h3 h4=>⟨.inr ⟨hf,b,f,by rw[hn],h1,by rw[hn];exact h2,by rw[Int.toNat_natCast];exact h3⟩,h4⟩
  have HTL:Hid (Calls Tryz.prog 60 #[.slice a n c] w (TLEnd l n w)):=treeLengths_any a n c l w h hn hn3 (often_all hg.2.2.2.1)
  have HI:Hid (Ints w a l):=h
  have HN:Hid (l.length=n):=hn
  rw[hf] at HFO
  clear h hn hf hg
  go_enter Tryz.func34,Tryz.ntmps34
  go_wp2_with fail
  refine HFO.out.mono ?_
  rintro e w1 ⟨rfl,hw1⟩
  replace hw1:=hw1.symm
  subst hw1
  go_wp2_with fail
  refine HTL.out.mono ?_
  rintro e w2 ⟨⟨rfl,f,o2,hl2⟩,b2⟩
  have H2:Hid (OwnL w2 w.heap.size n f∧Ct.IsLens l f∧Below w.heap.size w w2):=⟨o2,hl2,b2⟩
  clear o2 hl2 b2 HTL HFO
  go_wp2_with fail
  go_loopw [0,5] (fun o v wr=>∃(x:List Int) (ax:Option Addr) (cx b:Nat) (f:Nat→Nat),o=.slice ax n cx∧v=.slice (some ⟨b,0,none⟩) n n∧Hid (x.length=n∧Ints wr ax x∧OwnL wr b n f∧Ct.IsLens x f∧Ct.Good M x∧(∀G,Ct.Fits M x G→Ct.Fits M l G)∧w.heap.size≤b∧Below w.heap.size w wr)) (fun o _ wr=>memSum wr o)
  case atStart=>exact⟨l,a,c,w.heap.size,f,rfl,rfl,HN.out,HI.out.kept H2.out.2.2,H2.out.1,H2.out.2.1,HG.out,fun G h=>h,Nat.le_refl _,H2.out.2.2⟩
  case round=>
   obtain⟨x,ax,cx,b,fx,rfl,rfl,HR⟩:=hrel
   clear H2
   have HAB:Hid (Calls Tryz.prog 61 #[.slice (some ⟨b,0,none⟩) n n,.int .i64 (M:Int)] wr fun e w'=>e=.returned (.bool (aboveB ((List.range n).map (fun i=>((fx i:Nat):Int))) (M:Int)))∧w'=wr):=oneAbove_any _ n n _ _ wr (own_ints2 HR.out.2.2.1) (by simp) (by omega)
   cases hab:aboveB ((List.range n).map (fun i=>((fx i:Nat):Int))) (M:Int) with
   | true=>
    rw[hab] at HAB
    have hex:=above_iff.1 hab
    have HLS:Hid (memSum wr (.slice ax n cx)=Ct.tot x∧Ct.tot (Ct.hv x)<Ct.tot x):=⟨memSum_is HR.out.2.1 HR.out.1,HR.out.2.2.2.2.1.less hM1 HR.out.2.2.2.1 (by rw[HR.out.1];exact hex)⟩
    have HHV:Hid (Calls Tryz.prog 62 #[.slice ax n cx] wr fun e w'=>e=.returned (.slice (some ⟨wr.heap.size,0,none⟩) n n)∧Ints w' (some ⟨wr.heap.size,0,none⟩) (Ct.hv x)∧Below wr.heap.size wr w'):=halves_any ax n cx x wr HR.out.2.1 HR.out.1 hn3 HR.out.2.2.2.2.1.2.1
    have HT2:Hid (∀w',Ints w' (some ⟨wr.heap.size,0,none⟩) (Ct.hv x)→Calls Tryz.prog 60 #[.slice (some ⟨wr.heap.size,0,none⟩) n n] w' (TLEnd (Ct.hv x) n w')):=fun w' hw'=>treeLengths_any _ n n (Ct.hv x) w' hw' (by rw[Ct.hv_len];exact HR.out.1) hn3 HR.out.2.2.2.2.1.hv.2.1
    have HEX:Hid (∃i,i<x.length∧M<fx i):=by rw[HR.out.1];exact hex
    clear hab hex
    go_wp2_with fail
    refine HAB.out.mono ?_
    rintro e w3 ⟨rfl,hw3⟩
    replace hw3:=hw3.symm
    subst hw3
    clear HAB
    go_wp2_with fail
    refine HHV.out.mono ?_
    rintro e w4 ⟨rfl,i4,b4⟩
    have HT4:Hid (Calls Tryz.prog 60 #[.slice (some ⟨wr.heap.size,0,none⟩) n n] w4 (TLEnd (Ct.hv x) n w4)):=HT2.out w4 i4
    have H4:Hid (Ints w4 (some ⟨wr.heap.size,0,none⟩) (Ct.hv x)∧Below wr.heap.size wr w4):=⟨i4,b4⟩
    clear i4 b4 HT2 HHV
    go_wp2_with fail
    refine HT4.out.mono ?_
    rintro e w5 ⟨⟨rfl,f5,o5,l5⟩,b5⟩
    have hsz:w.heap.size≤wr.heap.size:=HR.out.2.2.2.2.2.2.2.size
    have hsz4:=H4.out.2.size
    have hi5:=H4.out.1.kept b5
    have HR5:Hid ((Ct.hv x).length=n∧Ints w5 (some ⟨wr.heap.size,0,none⟩) (Ct.hv x)∧OwnL w5 w4.heap.size n f5∧Ct.IsLens (Ct.hv x) f5∧Ct.Good M (Ct.hv x)∧(∀G,Ct.Fits M (Ct.hv x) G→Ct.Fits M l G)∧w.heap.size≤w4.heap.size∧Below w.heap.size w w5):=
     ⟨by rw[Ct.hv_len];exact HR.out.1,hi5,o5,l5,HR.out.2.2.2.2.1.hv,fun G hG=>HR.out.2.2.2.2.2.1 G (.more HR.out.2.2.2.1 HEX.out hG),by omega,(HR.out.2.2.2.2.2.2.2.trans (H4.out.2.mono hsz)).trans (b5.mono (by omega))⟩
    have HM5:Hid (memSum w5 (.slice (some ⟨wr.heap.size,0,none⟩) n n)<memSum wr (.slice ax n cx)):=by
     show _<_
     rw[HLS.out.1,memSum_is hi5 (by rw[Ct.hv_len];exact HR.out.1)]
     exact HLS.out.2
    clear o5 l5 b5 hi5 hsz hsz4 HR H4 HT4 HLS HEX
    go_wp2_with fail
    go_roundw
    case rel=>exact⟨Ct.hv x,_,_,_,f5,rfl,rfl,HR5⟩
    case measure=>exact HM5.out
   | false=>
    rw[hab] at HAB
    have HF:Hid (FitEnd l (M:Int) w (.returned (.slice (some ⟨b,0,none⟩) n n)) wr):=HE.out b fx wr HR.out.2.2.2.2.2.2.1 HR.out.2.2.1 (HR.out.2.2.2.2.2.1 fx (.stop HR.out.2.2.2.1 (fun i hi=>by
     rcases Nat.lt_or_ge M (fx i) with q|q
     · have hin:i<n:=by rw[←HR.out.1];exact hi
       have:=(above_iff (n:=n) (f:=fx) (M:=M)).2 ⟨i,hin,q⟩
       rw[hab] at this
       cases this
     exact q))) HR.out.2.2.2.2.2.2.2
    clear hab HR
    go_wp2_with fail
    refine HAB.out.mono ?_
    rintro e w3 ⟨rfl,hw3⟩
    replace hw3:=hw3.symm
    subst hw3
    go_wp2_with fail
    go_ret
    exact HF.out
end Go.Proofs.YtejebodgfoihkaaGreat
namespace Go.Proofs.YtejebodgfoihkaaGreat
namespace Ct
open Cf (lst wo)

theorem sg_upd (g:Nat→Nat) (a v:Nat):∀n,a<n→sg (fun i=>if i=a then v else g i) n+g a=sg g n+v
 | 0,h=>by omega
 | n+1,h=>by
  show sg (fun i=>if i=a then v else g i) n+(if n=a then v else g n)+g a=sg g n+g n+v
  by_cases e:n=a
  · subst e
    rw[if_pos rfl,sg_same (h:=g) (fun i hi=>if_neg (by omega))]
    omega
  rw[if_neg e]
  have:=sg_upd g a v n (by omega)
  omega
theorem sg_le {g h:Nat→Nat}:∀{n:Nat},(∀i,i<n→g i≤h i)→sg g n≤sg h n
 | 0,_=>Nat.le_refl _
 | n+1,e=>Nat.add_le_add (sg_le (n:=n) (fun i hi=>e i (by omega))) (e n (by omega))
theorem sg_dvd {d:Nat} {g:Nat→Nat}:∀{n:Nat},(∀i,i<n→d ∣ g i)→d ∣ sg g n
 | 0,_=>Nat.dvd_zero d
 | n+1,e=>Nat.dvd_add (sg_dvd (n:=n) (fun i hi=>e i (by omega))) (e n (by omega))
theorem sg_map {α:Type} (f:α→Nat) (h:Nat→α):∀n,Cf.sum f ((List.range n).map h)=sg (fun i=>f (h i)) n
 | 0=>rfl
 | n+1=>by
  rw[List.range_succ,List.map_append,Cf.sum_append,sg_map f h n]
  rfl
theorem list_range {α:Type} (d:α) (xs:List α):(List.range xs.length).map (fun i=>xs.getD i d)=xs:=by
 apply List.ext_getElem
 · simp
 intro i h1 h2
 simp only[List.getElem_map,List.getElem_range]
 rw[List.getD_eq_getElem?_getD,List.getElem?_eq_getElem h2];rfl
theorem sg_list {α:Type} (f:α→Nat) (d:α) (xs:List α):sg (fun i=>f (xs.getD i d)) xs.length=Cf.sum f xs:=by
 rw[←sg_map f (fun i=>xs.getD i d),list_range]
theorem max_at (D:Nat→Nat):∀n,0<n→∃p,p<n∧∀i,i<n→D i≤D p
 | 0,h=>by omega
 | 1,_=>⟨0,by omega,fun i hi=>by rw[show i=0 by omega];exact Nat.le_refl _⟩
 | n+2,_=>by
  obtain⟨p,hp,hm⟩:=max_at D (n+1) (by omega)
  by_cases h:D p≤D (n+1)
  · refine⟨n+1,by omega,fun i hi=>?_⟩
    by_cases e:i=n+1
    · subst e;exact Nat.le_refl _
    exact Nat.le_trans (hm i (by omega)) h
  refine⟨p,by omega,fun i hi=>?_⟩
  by_cases e:i=n+1
  · subst e;omega
  exact hm i (by omega)
structure Kr (D:Nat→Nat) (n:Nat):Prop where
 le:∀i,i<n→D i≤15
 sum:sg (fun i=>2^(15-D i)) n≤2^15
def swp (D:Nat→Nat) (a p:Nat):Nat→Nat:=fun i=>if i=a then D p else if i=p then D a else D i
theorem sg_swp (g:Nat→Nat) {a p n x y:Nat} (ha:a<n) (hp:p<n) (hne:a≠p):sg (fun i=>if i=a then x else if i=p then y else g i) n+g a+g p=sg g n+x+y:=by
 have h1:=sg_upd (fun i=>if i=p then y else g i) a x n ha
 have h2:=sg_upd g p y n hp
 rw[if_neg hne] at h1
 omega
theorem swap {w D:Nat→Nat} {n a p:Nat} (ha:a<n) (hp:p<n) (hne:a≠p) (hw:w a≤w p) (hd:D a≤D p) (hK:Kr D n):
 Kr (swp D a p) n∧sg (fun i=>w i*swp D a p i) n≤sg (fun i=>w i*D i) n:=by
 refine⟨⟨fun i hi=>?_,?_⟩,?_⟩
 · unfold swp
   split
   · exact hK.le p hp
   split
   · exact hK.le a ha
   exact hK.le i hi
 · have e:sg (fun i=>2^(15-swp D a p i)) n=sg (fun i=>if i=a then 2^(15-D p) else if i=p then 2^(15-D a) else 2^(15-D i)) n:=sg_same (fun i _=>by
    unfold swp
    by_cases e1:i=a
    · rw[if_pos e1,if_pos e1]
    by_cases e2:i=p
    · rw[if_neg e1,if_pos e2,if_neg e1,if_pos e2]
    rw[if_neg e1,if_neg e2,if_neg e1,if_neg e2])
   have h1:=sg_swp (fun i=>2^(15-D i)) (x:=2^(15-D p)) (y:=2^(15-D a)) ha hp hne
   have h2:=hK.sum
   rw[e]
   omega
 have e:sg (fun i=>w i*swp D a p i) n=sg (fun i=>if i=a then w a*D p else if i=p then w p*D a else w i*D i) n:=sg_same (fun i _=>by
  unfold swp
  by_cases e1:i=a
  · rw[if_pos e1,if_pos e1,e1]
  by_cases e2:i=p
  · rw[if_neg e1,if_pos e2,if_neg e1,if_pos e2,e2]
  rw[if_neg e1,if_neg e2,if_neg e1,if_neg e2])
 have h1:=sg_swp (fun i=>w i*D i) (x:=w a*D p) (y:=w p*D a) ha hp hne
 rw[e]
 obtain⟨x,hx⟩:=Nat.exists_eq_add_of_le hw
 obtain⟨y,hy⟩:=Nat.exists_eq_add_of_le hd
 have h3:w p*D p=w a*D a+w a*y+x*D a+x*y:=by rw[hx,hy,Nat.mul_add,Nat.add_mul,Nat.add_mul];omega
 have h4:w a*D p=w a*D a+w a*y:=by rw[hy,Nat.mul_add]
 have h5:w p*D a=w a*D a+x*D a:=by rw[hx,Nat.add_mul]
 omega
theorem level {w:Nat→Nat} {n a b:Nat} (hab:a≠b) (ha:a<n) (hb:b<n) (hwa:∀k,k<n→w a≤w k) (hwb:∀k,k<n→k≠a→w b≤w k):
 ∀(N:Nat) (D:Nat→Nat),sg D n≤N→Kr D n→∃D' L,Kr D' n∧D' a=L+1∧D' b=L+1∧sg (fun i=>w i*D' i) n≤sg (fun i=>w i*D i) n
 | N,D,hN,hK=>by
  obtain⟨p,hp,hm⟩:=max_at D n (by omega)
  by_cases hq:∃q,q<n∧q≠p∧D q=D p
  · obtain⟨q,hq,hqp,hqd⟩:=hq
    -- the first one
    obtain⟨D1,K1,m1,a1,c1,q1,hq1,hq1a,hq1d⟩:∃D1,Kr D1 n∧(∀i,i<n→D1 i≤D p)∧D1 a=D p∧sg (fun i=>w i*D1 i) n≤sg (fun i=>w i*D i) n∧∃q1,q1<n∧q1≠a∧D1 q1=D p:=by
     by_cases e:a=p
     · subst e
       exact⟨D,hK,hm,rfl,Nat.le_refl _,q,hq,hqp,hqd⟩
     obtain⟨k1,k2⟩:=swap (w:=w) ha hp e (hwa p hp) (hm a ha) hK
     refine⟨_,k1,fun i hi=>?_,?_,k2,?_⟩
     · unfold swp
       split
       · exact Nat.le_refl _
       split
       · exact hm a ha
       exact hm i hi
     · unfold swp;rw[if_pos rfl]
     by_cases e2:q=a
     · refine⟨p,hp,fun h=>e h.symm,?_⟩
       unfold swp
       rw[if_neg (fun h=>e h.symm),if_pos rfl,←e2,hqd]
     refine⟨q,hq,e2,?_⟩
     unfold swp
     rw[if_neg e2,if_neg hqp,hqd]
    obtain⟨D2,K2,a2,b2,c2⟩:∃D2,Kr D2 n∧D2 a=D p∧D2 b=D p∧sg (fun i=>w i*D2 i) n≤sg (fun i=>w i*D1 i) n:=by
     by_cases e:b=q1
     · subst e
       exact⟨D1,K1,a1,hq1d,Nat.le_refl _⟩
     obtain⟨k1,k2⟩:=swap (w:=w) hb hq1 e (hwb q1 hq1 hq1a) (by rw[hq1d];exact m1 b hb) K1
     refine⟨_,k1,?_,?_,k2⟩
     · unfold swp;rw[if_neg hab,if_neg (fun h=>hq1a h.symm),a1]
     unfold swp;rw[if_pos rfl,hq1d]
    have hL:D p≠0:=fun h0=>by
     have h1:=sg_swp (fun _:Nat=>0) (x:=2^15) (y:=2^15) ha hb hab
     rw[sg_zero] at h1
     have h2:sg (fun i=>if i=a then 2^15 else if i=b then 2^15 else 0) n≤sg (fun i=>2^(15-D2 i)) n:=sg_le (fun i _=>by
      split
      · rename_i e;rw[e,a2,h0];exact Nat.le_refl _
      split
      · rename_i e;rw[e,b2,h0];exact Nat.le_refl _
      exact Nat.zero_le _)
     have h3:=K2.sum
     have h4:0<2^15:=by decide
     omega
    exact⟨D2,D p-1,K2,by omega,by omega,Nat.le_trans c2 c1⟩
  -- it stands alone: one higher
  have hlt:∀i,i<n→i≠p→D i+1≤D p:=fun i hi hne=>by
   have h1:=hm i hi
   rcases Nat.lt_or_ge (D i) (D p) with h|h
   · exact h
   exact absurd ⟨i,hi,hne,by omega⟩ hq
  have hL:1≤D p:=by
   by_cases e:a=p
   · have:=hlt b hb (by omega);omega
   have:=hlt a ha e;omega
  have h15:=hK.le p hp
  have hKu:Kr (fun i=>if i=p then D p-1 else D i) n:=by
   refine⟨fun i hi=>?_,?_⟩
   · split
     · omega
     exact hK.le i hi
   have e:sg (fun i=>2^(15-(if i=p then D p-1 else D i))) n=sg (fun i=>if i=p then 2^(15-(D p-1)) else 2^(15-D i)) n:=sg_same (fun i _=>by
    by_cases e1:i=p
    · rw[if_pos e1,if_pos e1]
    rw[if_neg e1,if_neg e1])
   have h1:=sg_upd (fun i=>2^(15-D i)) p (2^(15-(D p-1))) n hp
   have h2:=sg_upd (fun i=>2^(15-D i)) p 0 n hp
   have hd:2^(15-(D p-1)) ∣ sg (fun i=>if i=p then 0 else 2^(15-D i)) n:=sg_dvd (fun i hi=>by
    split
    · exact Nat.dvd_zero _
    rename_i e1
    exact Nat.pow_dvd_pow 2 (by have:=hlt i hi e1;omega))
   obtain⟨x,hx⟩:=hd
   obtain⟨y,hy⟩:2^(15-(D p-1)) ∣ 2^15:=Nat.pow_dvd_pow 2 (by omega)
   have hu:2^(15-(D p-1))=2*2^(15-D p):=by rw[show 15-(D p-1)=(15-D p)+1 by omega,Nat.pow_succ];omega
   have h3:=hK.sum
   have hpos:0<2^(15-D p):=Nat.two_pow_pos _
   rw[e]
   rw[hy] at h3 ⊢
   generalize 2^(15-(D p-1))=U at*
   generalize 2^(15-D p)=u at*
   have hxy:x+1≤y:=by
    rcases Nat.lt_or_ge x y with h|h
    · exact h
    have:=Nat.mul_le_mul_left U h
    omega
   have:=Nat.mul_le_mul_left U hxy
   rw[Nat.mul_add,Nat.mul_one] at this
   omega
  have hc:sg (fun i=>w i*(if i=p then D p-1 else D i)) n≤sg (fun i=>w i*D i) n:=sg_le (fun i _=>by
   split
   · rename_i e;rw[e];exact Nat.mul_le_mul_left _ (by omega)
   exact Nat.le_refl _)
  have hs:sg (fun i=>if i=p then D p-1 else D i) n+D p=sg D n+(D p-1):=sg_upd D p (D p-1) n hp
  match N,hN with
  | 0,hN=>omega
  | N+1,hN=>
   obtain⟨D',L,k1,k2,k3,k4⟩:=level hab ha hb hwa hwb N (fun i=>if i=p then D p-1 else D i) (by omega) hKu
   exact⟨D',L,k1,k2,k3,Nat.le_trans k4 hc⟩
 termination_by N=>N
end Ct
end Go.Proofs.YtejebodgfoihkaaGreat
namespace Go.Proofs.YtejebodgfoihkaaGreat
namespace Ct
open Cf (lst wo)

def ws (zs:List Int):Tr→Nat
 | .leaf s=>(zs.getD s 0).toNat
 | .node l r=>ws zs l+ws zs r
def wc (zs:List Int):Tr→Nat
 | .leaf _=>0
 | .node l r=>wc zs l+wc zs r+(ws zs l+ws zs r)
theorem cost_tree (zs:List Int) (n:Nat):∀(t:Tr) (d:Nat),(∀s,(syms t).count s≤1)→(∀s∈syms t,s<n)→sg (fun i=>(zs.getD i 0).toNat*(if i∈syms t then d+dep t i else 0)) n=wc zs t+ws zs t*d
 | .leaf x,d,_,hb=>by
  have h1:=hb x (by simp[syms])
  rw[sg_same (h:=fun i=>if i=x then (zs.getD x 0).toNat*d else 0) (fun i _=>by
   by_cases e:i=x
   · rw[if_pos (by simp[syms,e]),if_pos e,e];rfl
   rw[if_neg (by simp[syms,e]),if_neg e];rfl),sg_one,if_pos h1]
  simp[wc,ws]
 | .node l r,d,hc,hb=>by
  have hl:=cost_tree zs n l (d+1) (fun s=>by have:=hc s;simp only[syms,List.count_append] at this;omega) (fun s hs=>hb s (by simp[syms,hs]))
  have hr:=cost_tree zs n r (d+1) (fun s=>by have:=hc s;simp only[syms,List.count_append] at this;omega) (fun s hs=>hb s (by simp[syms,hs]))
  rw[sg_same (h:=fun i=>(zs.getD i 0).toNat*(if i∈syms l then d+1+dep l i else 0)+(zs.getD i 0).toNat*(if i∈syms r then d+1+dep r i else 0)) (fun i _=>by
   by_cases h1:i∈syms l
   · obtain⟨h2,h3⟩:=dep_left (hc i) h1
     rw[if_pos (by simp[syms,h1]),if_pos h1,if_neg h2,h3,←Nat.add_assoc];rfl
   by_cases h2:i∈syms r
   · obtain⟨_,h3⟩:=dep_right (hc i) h2
     rw[if_pos (by simp[syms,h2]),if_neg h1,if_pos h2,h3,←Nat.add_assoc,Nat.mul_zero];exact (Nat.zero_add _).symm
   rw[if_neg (by simp[syms,h1,h2]),if_neg h1,if_neg h2];rfl),sg_add,hl,hr]
  simp only[wc,ws]
  rw[Nat.mul_add,Nat.mul_add,Nat.mul_one,Nat.mul_one,Nat.add_mul]
  omega
def Wts (zs:List Int) (ts:List Nt):Prop:=∀p∈ts,p.1=ws zs p.2
theorem Wts.at {zs:List Int} {ts:List Nt} (h:Wts zs ts) {i:Nat} (hi:i<ts.length):wAt ts i=ws zs (tAt ts i):=by
 unfold wAt tAt
 rw[getD_at hi]
 exact h _ (List.getElem_mem hi)
theorem Wts.step {zs:List Int} {ts:List Nt} (h:Wts zs ts) {a b:Nat} (t:Two ts a b):Wts zs (Ct.step ts):=fun p hp=>by
 rw[t.st] at hp
 rcases List.mem_append.1 hp with hp|hp
 · exact h p ((wo_sub a b ts 0).subset hp)
 rw[List.mem_singleton.1 hp]
 show wAt ts a+wAt ts b=ws zs (tAt ts a)+ws zs (tAt ts b)
 rw[h.at t.la,h.at t.lb]
theorem init_wts (zs:List Int):∀k,Wts zs (initT zs k)
 | 0=>fun p hp=>by simp[initT] at hp
 | k+1=>fun p hp=>by
  unfold initT at hp
  split at hp
  · rcases List.mem_append.1 hp with hp|hp
    · exact init_wts zs k p hp
    rw[List.mem_singleton.1 hp];rfl
  exact init_wts zs k p hp
theorem wts_iter {zs:List Int} {ts:List Nt} (h:Wts zs ts):∀j,Wts zs (iterT ts j)
 | 0=>h
 | j+1=>by
  have ih:=wts_iter h j
  show Wts zs (step (iterT ts j))
  by_cases hl:1<(iterT ts j).length
  · obtain⟨a,b,t⟩:=two_of hl
    exact ih.step t
  rcases step_cases (iterT ts j) with⟨e,_⟩|⟨a,wa,b,wb,_,_,hab,ha,hb⟩
  · rw[e];exact ih
  omega
def Least (zs:List Int) (C:Nat) (ts:List Nt):Prop:=∀D:Nat→Nat,Kr D ts.length→C≤Cf.sum (fun p:Nt=>wc zs p.2) ts+sg (fun i=>wAt ts i*D i) ts.length
theorem Least.back {zs:List Int} {C:Nat} {ts:List Nt} (hw:Wts zs ts) {a b:Nat} (t:Two ts a b) (h:Least zs C (step ts)):Least zs C ts:=by
 intro D hK
 obtain⟨D',L,k1,k2,k3,k4⟩:=level (w:=wAt ts) t.ne t.la t.lb (fun k hk=>by
  by_cases e1:k=a
  · rw[e1];exact Nat.le_refl _
  · by_cases e2:k=b
    · rw[e2];exact t.ab
    exact (t.mn k hk e1 e2).1) (fun k hk e1=>by
  by_cases e2:k=b
  · rw[e2];exact Nat.le_refl _
  exact (t.mn k hk e1 e2).2.1) (sg D ts.length) D (Nat.le_refl _) hK
 -- the nodes with their lengths
 obtain⟨Ps,hPs⟩:∃Ps:List (Nat×Nat),Ps=(List.range ts.length).map (fun i=>(wAt ts i,D' i)):=⟨_,rfl⟩
 have hlen:Ps.length=ts.length:=by rw[hPs];simp
 have hPa:∀(i:Nat) (hi:i<Ps.length),Ps[i]=(wAt ts i,D' i):=fun i hi=>by subst hPs;simp
 obtain⟨Qs,hQs⟩:∃Qs:List (Nat×Nat),Qs=wo a b Ps 0++[(wAt ts a+wAt ts b,L)]:=⟨_,rfl⟩
 have hq1:Qs.length=(step ts).length:=by
  have h1:=Cf.wo_len0 t.ne Ps (by rw[hlen];exact t.la) (by rw[hlen];exact t.lb)
  have h2:=(step_last t).1
  rw[hQs,List.length_append]
  simp only[List.length_singleton]
  omega
 have hq2:Qs.map (fun p=>p.1)=(step ts).map (fun p=>p.1):=by
  rw[hQs,t.st,List.map_append,List.map_append,Cf.wo_map,Cf.wo_map]
  have e:Ps.map (fun p=>p.1)=ts.map (fun p=>p.1):=by
   rw[hPs,List.map_map]
   apply List.ext_getElem
   · simp
   intro i h1 h2
   simp only[List.getElem_map,List.getElem_range,Function.comp]
   unfold wAt
   rw[getD_at (by simpa using h2)]
  rw[e]
  rfl
 have hq3:∀i,i<(step ts).length→wAt (step ts) i=(Qs.getD i (0,0)).1:=fun i hi=>by
  have h1:=congrArg (fun l:List Nat=>l[i]?) hq2
  simp only[List.getElem?_map] at h1
  rw[List.getElem?_eq_getElem (by omega),List.getElem?_eq_getElem hi] at h1
  simp only[Option.map_some,Option.some.injEq] at h1
  unfold wAt
  rw[getD_at hi,←h1,List.getD_eq_getElem?_getD,List.getElem?_eq_getElem (by omega)]
  rfl
 have s1:=Cf.wo_sum0 (fun p:Nat×Nat=>2^(15-p.2)) t.ne Ps (by rw[hlen];exact t.la) (by rw[hlen];exact t.lb)
 have s2:=Cf.wo_sum0 (fun p:Nat×Nat=>p.1*p.2) t.ne Ps (by rw[hlen];exact t.la) (by rw[hlen];exact t.lb)
 rw[hPa,hPa] at s1 s2
 simp only[k2,k3] at s1 s2
 have e1:Cf.sum (fun p:Nat×Nat=>2^(15-p.2)) Ps=sg (fun i=>2^(15-D' i)) ts.length:=by rw[hPs];exact sg_map _ _ _
 have e2:Cf.sum (fun p:Nat×Nat=>p.1*p.2) Ps=sg (fun i=>wAt ts i*D' i) ts.length:=by rw[hPs];exact sg_map _ _ _
 have hL:L+1≤15:=by have:=k1.le a t.la;omega
 have hp2:2^(15-L)=2*2^(15-(L+1)):=by rw[show 15-L=(15-(L+1))+1 by omega,Nat.pow_succ];omega
 have q1:Cf.sum (fun p:Nat×Nat=>2^(15-p.2)) Qs=Cf.sum (fun p:Nat×Nat=>2^(15-p.2)) (wo a b Ps 0)+2^(15-L):=by
  rw[hQs,Cf.sum_append];rfl
 have q2:Cf.sum (fun p:Nat×Nat=>p.1*p.2) Qs=Cf.sum (fun p:Nat×Nat=>p.1*p.2) (wo a b Ps 0)+(wAt ts a+wAt ts b)*L:=by
  rw[hQs,Cf.sum_append];rfl
 have hK2:Kr (fun i=>(Qs.getD i (0,0)).2) (step ts).length:=by
  refine⟨fun i hi=>?_,?_⟩
  · have hi2:i<Qs.length:=by omega
    have hm:=List.getElem_mem hi2
    rw[List.getD_eq_getElem?_getD,List.getElem?_eq_getElem hi2]
    show Qs[i].2≤15
    generalize Qs[i]=q at hm
    rw[hQs] at hm
    rcases List.mem_append.1 hm with hm|hm
    · have hm2:=(wo_sub a b Ps 0).subset hm
      rw[hPs] at hm2
      obtain⟨j,hj,rfl⟩:=List.mem_map.1 hm2
      exact k1.le j (List.mem_range.1 hj)
    rw[List.mem_singleton.1 hm];show L≤15;omega
  have h1:=sg_list (fun p:Nat×Nat=>2^(15-p.2)) (0,0) Qs
  rw[hq1] at h1
  have h2:=k1.sum
  show sg (fun i=>2^(15-(Qs.getD i (0,0)).2)) (step ts).length≤_
  rw[h1]
  omega
 have h9:=h _ hK2
 have h10:sg (fun i=>wAt (step ts) i*(Qs.getD i (0,0)).2) (step ts).length=Cf.sum (fun p:Nat×Nat=>p.1*p.2) Qs:=by
  rw[←sg_list (fun p:Nat×Nat=>p.1*p.2) (0,0) Qs,hq1]
  exact sg_same (fun i hi=>by rw[hq3 i hi])
 rw[h10] at h9
 have h11:Cf.sum (fun p:Nt=>wc zs p.2) (step ts)=Cf.sum (fun p:Nt=>wc zs p.2) ts+(wAt ts a+wAt ts b):=by
  have h1:=Cf.wo_sum0 (fun p:Nt=>wc zs p.2) t.ne ts t.la t.lb
  rw[t.st,Cf.sum_append]
  have h2:Cf.sum (fun p:Nt=>wc zs p.2) [(wAt ts a+wAt ts b,Tr.node (tAt ts a) (tAt ts b))]=wc zs (tAt ts a)+wc zs (tAt ts b)+(ws zs (tAt ts a)+ws zs (tAt ts b)):=rfl
  rw[h2,hw.at t.la,hw.at t.lb]
  have h3:wc zs (ts[a]'t.la).2=wc zs (tAt ts a):=by unfold tAt;rw[getD_at t.la]
  have h4:wc zs (ts[b]'t.lb).2=wc zs (tAt ts b):=by unfold tAt;rw[getD_at t.lb]
  rw[h3,h4] at h1
  omega
 rw[h11,q2,Nat.add_mul] at h9
 rw[Nat.mul_add,Nat.mul_add,Nat.mul_one,Nat.mul_one] at s2
 omega
theorem least_iter {zs:List Int} {C:Nat} {ts:List Nt} (hw:Wts zs ts):∀j,Least zs C (iterT ts j)→Least zs C ts
 | 0,h=>h
 | j+1,h=>by
  refine least_iter hw j ?_
  have h':Least zs C (step (iterT ts j)):=h
  by_cases hl:1<(iterT ts j).length
  · obtain⟨a,b,t⟩:=two_of hl
    exact h'.back (wts_iter hw j) t
  rcases step_cases (iterT ts j) with⟨e,_⟩|⟨a,wa,b,wb,_,_,hab,ha,hb⟩
  · rw[e] at h';exact h'
  omega
def sy:Tr→Nat
 | .leaf s=>s
 | .node _ _=>0
theorem init_kraft {zs:List Int} {G:Nat→Nat}:∀k,(∀i,i<k→0<zs.getD i 0→0<G i)→Cf.sum (fun p:Nt=>2^(15-G (sy p.2))) (initT zs k)≤sg (fun i=>Cd.part ((G i:Nat):Int)) k
 | 0,_=>Nat.le_refl _
 | k+1,h=>by
  have ih:=init_kraft k (fun i hi=>h i (by omega))
  unfold initT
  show _≤sg (fun i=>Cd.part ((G i:Nat):Int)) k+Cd.part ((G k:Nat):Int)
  split
  · rename_i hp
    rw[Cf.sum_append]
    have e:Cf.sum (fun p:Nt=>2^(15-G (sy p.2))) [((zs.getD k 0).toNat,Tr.leaf k)]=2^(15-G k):=by simp[Cf.sum,sy]
    rw[e,part_nat _ (h k (by omega) hp)]
    omega
  omega
theorem init_cost {zs:List Int} {G:Nat→Nat}:∀k,Cf.sum (fun p:Nt=>p.1*G (sy p.2)) (initT zs k)=sg (fun i=>(zs.getD i 0).toNat*G i) k
 | 0=>rfl
 | k+1=>by
  have ih:=init_cost (zs:=zs) (G:=G) k
  unfold initT
  show _=sg (fun i=>(zs.getD i 0).toNat*G i) k+(zs.getD k 0).toNat*G k
  split
  · rw[Cf.sum_append,ih]
    have e:Cf.sum (fun p:Nt=>p.1*G (sy p.2)) [((zs.getD k 0).toNat,Tr.leaf k)]=(zs.getD k 0).toNat*G k:=by simp[Cf.sum,sy]
    rw[e]
  rw[ih,show (zs.getD k 0).toNat=0 by omega]
  omega
theorem init_wc (zs:List Int):∀k,Cf.sum (fun p:Nt=>wc zs p.2) (initT zs k)=0
 | 0=>rfl
 | k+1=>by
  unfold initT
  split
  · rw[Cf.sum_append,init_wc zs k];rfl
  exact init_wc zs k
theorem sy_lt (zs:List Int) (k:Nat) {p:Nt} (hp:p∈initT zs k):sy p.2<k:=by
 induction k with
 | zero=>simp[initT] at hp
 | succ k ih=>
  unfold initT at hp
  split at hp
  · rcases List.mem_append.1 hp with hp|hp
    · exact Nat.lt_succ_of_lt (ih hp)
    rw[List.mem_singleton.1 hp];exact Nat.lt_succ_self k
  exact Nat.lt_succ_of_lt (ih hp)
theorem best {zs:List Int} {F G:Nat→Nat} (hF:IsLens zs F) (h15:∀i,i<zs.length→G i≤15) (hpos:∀i,i<zs.length→0<zs.getD i 0→0<G i) (hK:sg (fun i=>Cd.part ((G i:Nat):Int)) zs.length≤32768):
 sg (fun i=>(zs.getD i 0).toNat*F i) zs.length≤sg (fun i=>(zs.getD i 0).toNat*G i) zs.length:=by
 rcases hF with⟨hn,rfl⟩|⟨o,t,j,hit,rfl⟩
 · refine sg_le (fun i _=>?_)
   rw[Nat.mul_zero];exact Nat.zero_le _
 obtain⟨hc,hs,hl⟩:=tree_syms hit
 match t,hit,hc,hs with
 | .leaf x,hit,hc,hs=>
  refine sg_le (fun i hi=>Nat.mul_le_mul_left _ ?_)
  show (if i=x then 1 else 0)≤G i
  split
  · rename_i e
    exact hpos i hi ((hs i).1 (by simp[syms,e])).2
  · exact Nat.zero_le _
 | .node l r,hit,hc,hs=>
  have ef:∀i,topT (.node l r) i=if i∈syms (.node l r) then 0+dep (.node l r) i else 0:=fun i=>by
   show Go.Proofs.YtejebodgfoihkaaGreat.tell (.node l r) 0 (fun _=>0) i=_
   rw[tell_is (hc i)]
  have hC:=cost_tree zs zs.length (.node l r) 0 hc (fun s hx=>((hs s).1 hx).1)
  have hC2:sg (fun i=>(zs.getD i 0).toNat*topT (.node l r) i) zs.length=wc zs (.node l r):=by
   rw[Nat.mul_zero,Nat.add_zero] at hC
   rw[←hC]
   exact sg_same (fun i _=>by rw[ef])
  have hL:Least zs (wc zs (.node l r)) (initT zs zs.length):=least_iter (init_wts zs zs.length) j (by
   rw[hit]
   intro D _
   have e:Cf.sum (fun p:Nt=>wc zs p.2) [(o,Tr.node l r)]=wc zs (.node l r):=by simp[Cf.sum]
   rw[e]
   exact Nat.le_add_right _ _)
  have k1:=sg_list (fun p:Nt=>2^(15-G (sy p.2))) (0,.leaf 0) (initT zs zs.length)
  have k2:=sg_list (fun p:Nt=>p.1*G (sy p.2)) (0,.leaf 0) (initT zs zs.length)
  have h9:=hL (fun i=>G (sy (tAt (initT zs zs.length) i))) ⟨fun i hi=>h15 _ (sy_lt zs zs.length (by rw[getD_at hi];exact List.getElem_mem hi)),by
   have h1:=init_kraft (zs:=zs) (G:=G) zs.length hpos
   show sg (fun i=>2^(15-G (sy ((initT zs zs.length).getD i (0,.leaf 0)).2))) _≤_
   rw[k1]
   exact Nat.le_trans h1 hK⟩
  rw[init_wc,Nat.zero_add] at h9
  rw[hC2]
  refine Nat.le_trans h9 ?_
  show sg (fun i=>((initT zs zs.length).getD i (0,.leaf 0)).1*G (sy ((initT zs zs.length).getD i (0,.leaf 0)).2)) _≤_
  rw[k2,init_cost]
  exact Nat.le_refl _
end Ct
end Go.Proofs.YtejebodgfoihkaaGreat
namespace Go.Proofs.YtejebodgfoihkaaGreat
namespace Ct

def fb:Nat→Nat
 | 0=>1
 | 1=>2
 | n+2=>fb n+fb (n+1)
theorem fb_step (h:Nat) (h1:1≤h):fb (1+h)=fb (h-1)+fb h:=by
 obtain⟨k,rfl⟩:∃k,h=k+1:=⟨h-1,by omega⟩
 rw[show 1+(k+1)=k+2 by omega]
 rfl
theorem fb_mono:∀n,fb n≤fb (n+1)
 | 0=>by decide
 | n+1=>by show fb (n+1)≤fb n+fb (n+1);omega
theorem fb_le {m n:Nat} (h:m≤n):fb m≤fb n:=by
 induction h with
 | refl=>exact Nat.le_refl _
 | step _ ih=>exact Nat.le_trans ih (fb_mono _)
structure Fib (ts:List Nt):Prop where
 one:∀i,i<ts.length→fb (hgt (tAt ts i))≤wAt ts i
 two:∀i k,i<ts.length→k<ts.length→made (tAt ts i)→fb (hgt (tAt ts i)-1)≤wAt ts k
theorem made_of {t:Tr} (h:1≤hgt t):made t:=by
 cases t with
 | leaf s=>simp[hgt] at h
 | node l r=>trivial
theorem Fib.step {ts:List Nt} (h:Fib ts) {a b:Nat} (t:Two ts a b):Fib (Ct.step ts):=by
 obtain⟨_,lw,lt⟩:=step_last t
 have wa:=h.one a t.la
 have wb:=h.one b t.lb
 have hab:=t.ab
 have hh:hgt (Tr.node (tAt ts a) (tAt ts b))=1+Nat.max (hgt (tAt ts a)) (hgt (tAt ts b)):=rfl
 have e2:∀{p q:Nat},fb (Nat.max p q)≤Nat.max (fb p) (fb q):=fun {p q}=>by
  rcases Nat.le_total p q with e|e
  · rw[show Nat.max p q=q from Nat.max_eq_right e];exact Nat.le_max_right _ _
  rw[show Nat.max p q=p from Nat.max_eq_left e];exact Nat.le_max_left _ _
 have hm:fb (Nat.max (hgt (tAt ts a)) (hgt (tAt ts b)))≤wAt ts b:=by
  refine Nat.le_trans e2 (Nat.max_le.2 ⟨Nat.le_trans wa hab,wb⟩)
 refine⟨fun i hi=>?_,fun i k hi hk hmd=>?_⟩
 · rcases step_from t hi with ei|⟨i',hi',ia,ib,wi,ti⟩
   · rw[ei,lw,lt,hh]
     by_cases h0:Nat.max (hgt (tAt ts a)) (hgt (tAt ts b))=0
     · rw[h0]
       have:1≤wAt ts a:=Nat.le_trans (fb_le (Nat.zero_le _)) wa
       show 2≤_
       omega
     rcases Nat.le_total (hgt (tAt ts a)) (hgt (tAt ts b)) with e|e
     · have em:Nat.max (hgt (tAt ts a)) (hgt (tAt ts b))=hgt (tAt ts b):=Nat.max_eq_right e
       rw[em] at h0 ⊢
       rw[fb_step _ (by omega)]
       have:=h.two b a t.lb t.la (made_of (by omega))
       omega
     have em:Nat.max (hgt (tAt ts a)) (hgt (tAt ts b))=hgt (tAt ts a):=Nat.max_eq_left e
     rw[em] at h0 ⊢
     rw[fb_step _ (by omega)]
     have:=h.two a b t.la t.lb (made_of (by omega))
     omega
   rw[wi,ti];exact h.one i' hi'
 rcases step_from t hi with ei|⟨i',hi',ia,ib,wi,ti⟩
 · rw[ei,lt,hh,show 1+Nat.max (hgt (tAt ts a)) (hgt (tAt ts b))-1=Nat.max (hgt (tAt ts a)) (hgt (tAt ts b)) by omega]
   rcases step_from t hk with ek|⟨k',hk',ka,kb,wk,_⟩
   · rw[ek,lw];omega
   rw[wk]
   have:=t.mn k' hk' ka kb
   omega
 rw[ti] at hmd ⊢
 rcases step_from t hk with ek|⟨k',hk',ka,kb,wk,_⟩
 · rw[ek,lw]
   have:=h.two i' a hi' t.la hmd
   omega
 rw[wk];exact h.two i' k' hi' hk' hmd
theorem fib_iter {ts:List Nt} (h:Fib ts):∀j,Fib (iterT ts j)
 | 0=>h
 | j+1=>by
  have ih:=fib_iter h j
  show Fib (step (iterT ts j))
  by_cases hl:1<(iterT ts j).length
  · obtain⟨a,b,t⟩:=two_of hl
    exact ih.step t
  rcases step_cases (iterT ts j) with⟨e,_⟩|⟨a,wa,b,wb,_,_,hab,ha,hb⟩
  · rw[e];exact ih
  omega
theorem init_fib_all (zs:List Int):∀k,∀p∈initT zs k,1≤p.1∧∃s,p.2=.leaf s
 | 0,p,hp=>by simp[initT] at hp
 | k+1,p,hp=>by
  unfold initT at hp
  split at hp
  · rcases List.mem_append.1 hp with hp|hp
    · exact init_fib_all zs k p hp
    rw[List.mem_singleton.1 hp];exact⟨by show 1≤(zs.getD k 0).toNat;omega,k,rfl⟩
  exact init_fib_all zs k p hp
theorem init_fib (zs:List Int) (k:Nat):Fib (initT zs k):=by
 have hx:∀i,i<(initT zs k).length→1≤wAt (initT zs k) i∧∃s,tAt (initT zs k) i=.leaf s:=fun i hi=>by
  unfold wAt tAt
  rw[getD_at hi]
  exact init_fib_all zs k _ (List.getElem_mem hi)
 refine⟨fun i hi=>?_,fun i k hi _ hm=>?_⟩
 · obtain⟨h1,s,h2⟩:=hx i hi
   rw[h2];exact h1
 obtain⟨_,s,h2⟩:=hx i hi
 rw[h2] at hm
 exact absurd hm (fun h=>h)
def tot9 (zs:List Int):Nat:=sg (fun i=>(zs.getD i 0).toNat) zs.length
theorem init_tot (zs:List Int):∀k,Cf.sum (fun p:Nt=>p.1) (initT zs k)=sg (fun i=>(zs.getD i 0).toNat) k
 | 0=>rfl
 | k+1=>by
  have ih:=init_tot zs k
  unfold initT
  show _=sg (fun i=>(zs.getD i 0).toNat) k+(zs.getD k 0).toNat
  split
  · rw[Cf.sum_append,ih];simp[Cf.sum]
  rw[ih];omega
theorem step_tot (ts:List Nt):Cf.sum (fun p:Nt=>p.1) (step ts)=Cf.sum (fun p:Nt=>p.1) ts:=by
 rcases step_cases ts with⟨h,_⟩|⟨a,wa,b,wb,h1,h2,hab,ha,hb⟩
 · rw[h]
 have:=step_sum (fun p:Nt=>p.1) h1 h2 hab ha hb
 dsimp only at this
 omega
theorem iter_tot (ts:List Nt):∀j,Cf.sum (fun p:Nt=>p.1) (iterT ts j)=Cf.sum (fun p:Nt=>p.1) ts
 | 0=>rfl
 | j+1=>by
  show Cf.sum _ (step (iterT ts j))=_
  rw[step_tot,iter_tot ts j]
theorem IsLens.low {zs:List Int} {F:Nat→Nat} (h:IsLens zs F) (ht:tot9 zs<2584):∀i,F i≤15:=fun i=>by
 rcases h with⟨_,rfl⟩|⟨o,t,j,hit,rfl⟩
 · exact Nat.zero_le _
 have h1:=(fib_iter (init_fib zs zs.length) j).one 0 (by rw[hit];exact Nat.zero_lt_one)
 have h2:=iter_tot (initT zs zs.length) j
 rw[hit] at h1 h2
 rw[init_tot] at h2
 have e1:wAt [(o,t)] 0=o:=rfl
 have e2:tAt [(o,t)] 0=t:=rfl
 have e3:Cf.sum (fun p:Nt=>p.1) [(o,t)]=o:=by simp[Cf.sum]
 rw[e1,e2] at h1
 rw[e3] at h2
 have h3:hgt t≤15:=by
  rcases Nat.lt_or_ge 15 (hgt t) with q|q
  · have h4:fb 16≤fb (hgt t):=fb_le q
    have h5:fb 16=2584:=by decide
    unfold tot9 at ht
    omega
  exact q
 obtain⟨hc,_,_⟩:=tree_syms hit
 cases t with
 | leaf s=>
  show (if i=s then 1 else 0)≤15
  split<;>omega
 | node l r=>
  show Go.Proofs.YtejebodgfoihkaaGreat.tell (.node l r) 0 (fun _=>0) i≤15
  rw[tell_is (hc i)]
  split
  · have:=dep_hgt (hc i);omega
  omega
theorem half_nat {z:Int} (h:0≤z):z.toNat≤2*(half z).toNat∧2*(half z).toNat≤z.toNat+1:=by
 unfold half
 omega
theorem sg_mul (c:Nat) (g:Nat→Nat):∀n,sg (fun i=>c*g i) n=c*sg g n
 | 0=>rfl
 | n+1=>by show sg (fun i=>c*g i) n+c*g n=c*(sg g n+g n);rw[sg_mul c g n,Nat.mul_add]
theorem sg_const (c:Nat):∀n,sg (fun _=>c) n=n*c
 | 0=>by simp[sg]
 | n+1=>by show sg (fun _=>c) n+c=(n+1)*c;rw[sg_const c n,Nat.add_mul,Nat.one_mul]
theorem tot_half {zs:List Int} (h:∀i,i<zs.length→0≤zs.getD i 0):2*tot9 (hv zs)≤tot9 zs+zs.length:=by
 unfold tot9
 rw[hv_len,←sg_mul]
 have h1:=sg_add (fun i=>(zs.getD i 0).toNat) (fun _=>1) zs.length
 rw[sg_const,Nat.mul_one] at h1
 rw[←h1]
 exact sg_le (fun i hi=>by rw[hv_get hi];exact (half_nat (h i hi)).2)
def bits (zs:List Int) (F:Nat→Nat):Nat:=sg (fun i=>(zs.getD i 0).toNat*F i) zs.length
theorem bits_half {zs:List Int} {F:Nat→Nat} (h:∀i,i<zs.length→0≤zs.getD i 0):bits zs F≤2*bits (hv zs) F:=by
 unfold bits
 rw[hv_len,←sg_mul]
 exact sg_le (fun i hi=>by
  rw[hv_get hi,←Nat.mul_assoc]
  exact Nat.mul_le_mul_right _ (half_nat (h i hi)).1)
theorem bits_flat {zs:List Int} {F:Nat→Nat} (hF:IsLens zs F) {c:Nat} (hc:0<c) (h15:c≤15) (hn:zs.length*2^(15-c)≤32768):bits zs F≤c*tot9 zs:=by
 have h:=best (G:=fun _=>c) hF (fun _ _=>h15) (fun _ _ _=>hc) (by
  rw[sg_same (h:=fun _=>2^(15-c)) (fun i _=>part_nat c hc),sg_const]
  exact hn)
 unfold bits tot9
 rw[←sg_mul]
 refine Nat.le_trans h (Nat.le_of_eq (sg_same (fun i _=>Nat.mul_comm _ _)))
theorem hv_pos {zs:List Int} (h:∀i,i<zs.length→0≤zs.getD i 0):∀i,i<(hv zs).length→0≤(hv zs).getD i 0:=fun i hi=>by
 rw[hv_len] at hi
 rw[hv_get hi]
 have:=h i hi
 unfold half
 omega
theorem Fits.bits {zs:List Int} {F:Nat→Nat} (h:Fits 15 zs F) (hp:∀i,i<zs.length→0≤zs.getD i 0) (hn:zs.length≤300) (ht:tot9 zs≤5001):Ct.bits zs F≤9*tot9 zs+27*zs.length:=by
 have h9:∀{ys:List Int},ys.length≤300→ys.length*2^(15-9)≤32768:=fun {ys} hy=>by
  show ys.length*64≤_
  omega
 cases h with
 | stop h1 _=>
  have:=bits_flat h1 (c:=9) (by omega) (by omega) (h9 hn)
  omega
 | more h1 h2 h3=>
  have t1:=tot_half hp
  have b1:=bits_half (F:=F) hp
  cases h3 with
  | stop g1 _=>
   have:=bits_flat g1 (c:=9) (by omega) (by omega) (h9 (by rw[hv_len];exact hn))
   omega
  | more g1 g2 g3=>
   have t2:=tot_half (hv_pos hp)
   have b2:=bits_half (F:=F) (hv_pos hp)
   rw[hv_len] at t2
   cases g3 with
   | stop k1 _=>
    have:=bits_flat k1 (c:=9) (by omega) (by omega) (h9 (by rw[hv_len,hv_len];exact hn))
    omega
   | more k1 k2 _=>
    obtain⟨i,hi,hlt⟩:=k2
    have:=k1.low (by omega) i
    omega
theorem Fits.few {zs:List Int} {F:Nat→Nat} (h:Fits 15 zs F) (ht:tot9 zs<2584):IsLens zs F:=by
 cases h with
 | stop h1 _=>exact h1
 | more h1 h2 _=>
  obtain⟨i,hi,hlt⟩:=h2
  have:=h1.low ht i
  omega
end Ct
end Go.Proofs.YtejebodgfoihkaaGreat
