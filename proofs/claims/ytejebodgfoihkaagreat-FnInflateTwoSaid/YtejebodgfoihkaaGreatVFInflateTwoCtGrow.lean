/- The tree of a code is grown. -/
import Derived.Test.YtejebodgfoihkaaGreatKFInflateTwox4
import Derived.Test.YtejebodgfoihkaaGreatKFInflateTwox0
namespace Go.Proofs.YtejebodgfoihkaaGreat
open Go.RowKit
open Ct (Tr Nt)

structure GrS (L Hb lo:Nat) (w W:World) (K:Nat→Hp.Key) (ks l:List Nat) (ts:List Nt) (P:Nat):Prop where
 hep:Hep W Hb lo l
 heap:Hp.Heap K l l.length
 perm:l.Perm ks
 gs:Gs W K ks ts P
 low:Below L w W
theorem heap_congr {K K':Nat→Hp.Key} {l:List Nat} (h:Hp.Heap K l l.length) (e:∀x∈l,K' x=K x):Hp.Heap K' l l.length:=fun i h0 hi=>by
 rw[e _ (getD_mem hi),e _ (getD_mem (by omega))]
 exact h i h0 hi
def PushS (L Hb lo:Nat) (w:World) (K:Nat→Hp.Key) (ks:List Nat) (ts:List Nt) (P:Nat) (e:Ending) (w':World):Prop:=(∃v,e=.returned v)∧∃l',GrS L Hb lo w w' K ks l' ts P
theorem gsPush {L Hb lo:Nat} {w W:World} {K:Nat→Hp.Key} {ks l:List Nat} {ts:List Nt} {P o p:Nat} {s:Int} {x y:Value} {t:Tr} (hG:GrS L Hb lo w W K ks l ts P) (hL:L≤lo) (hLH:L≤Hb) (hlo:lo≤W.heap.size) (hLW:L≤W.heap.size) (hp:P≤p) (hpb:p≤10000) (ht:TreeAt (W.alloc (nodeC s x y o p)) W.heap.size t) (hw:Cf.sum (fun p:Nt=>p.1) ts+o≤3000000) (hn:ks.length≤800):
 Calls Tryz.prog 115 #[.iface 159 (.pointer (some ⟨Hb,0,none⟩)),.iface 137 (.pointer (some ⟨W.heap.size,0,none⟩))] (W.alloc (nodeC s x y o p)) (PushS L Hb lo w (addK K W.heap.size o p) (ks++[W.heap.size]) (ts++[(o,t)]) (p+1)):=by
 obtain⟨g1,g2,g3,g4,g5⟩:=hG
 have hb:Below W.heap.size W (W.alloc (nodeC s x y o p)):=(Below.refl _ _).alloc (Nat.le_refl _) _
 have hgs:=g4.more hp ht hw
 have hpm:(l++[W.heap.size]).Perm (ks++[W.heap.size]):=g3.append_right _
 have hKb:=hgs.bound (by omega)
 have hll:=g3.length_eq
 refine (heapPush (addK K W.heap.size o p) L Hb lo W.heap.size l (W.alloc (nodeC s x y o p)) hL hLH (Nat.le_trans hlo hb.size) (by omega) (g1.below hb) (fun k hk=>hgs.keys k (hpm.mem_iff.1 hk)) (fun k hk=>hKb k (hpm.mem_iff.1 hk)) (heap_congr g2 (fun k hk=>by
  unfold addK
  rw[if_neg (by have:=g4.lt (g3.mem_iff.1 hk);omega)]))).mono ?_
 rintro e w' ⟨hv,l',p1,p2,p3,p4⟩
 refine⟨hv,l',p3,by rw[p1.length_eq];exact p2,p1.trans hpm,hgs.kept (NodesK.of_hp p4 (g1.below hb).box),(g5.alloc hLW _).trans p4.low⟩
theorem Hep.val {W:World} {Hb lo:Nat} {l:List Nat} (h:Hep W Hb lo l):∃ao c,Boxed W Hb 161 (.slice ao l.length c):=by
 obtain⟨v,h1,h2⟩:=h
 rcases h2.2 with⟨rfl,h0⟩|⟨g,cap,cur,rfl,_⟩
 · exact⟨none,0,by rw[h0];exact h1⟩
 exact⟨_,_,h1⟩
theorem GrS.drewN {L Hb lo:Nat} {w W:World} {K:Nat→Hp.Key} {ks l:List Nat} {ts:List Nt} {P:Nat} (h:GrS L Hb lo w W K ks l ts P) (q:Nat):GrS L Hb lo w (W.drewN q) K ks l ts P:=
 ⟨h.hep.drewN q,h.heap,h.perm,h.gs.kept (fun _ _ e=>e),below_drewN h.low q⟩
theorem pops {K:Nat→Hp.Key} {W:World} {ks l l1 l2:List Nat} {ts:List Nt} {P m m2 a wa b wb:Nat} (h:Gs W K ks ts P) (hp:l.Perm ks) (h1:Cf.lst (-1) (ts.map Ct.wt) 0 none=some (a,wa)) (h2:Cf.lst (a:Int) (ts.map Ct.wt) 0 none=some (b,wb)) (p1:(m::l1).Perm l) (q1:∀x∈l,¬Hp.klt (K x) (K m)) (p2:(m2::l2).Perm l1) (q2:∀x∈l1,¬Hp.klt (K x) (K m2)) (hab:a≠b) (ha:a<ks.length) (hb:b<ks.length):
 m=ks.getD a 0∧m2=ks.getD b 0∧l2.Perm (Cf.wo a b ks 0):=by
 have hns:(ts.map Ct.wt).length=ks.length:=by rw[List.length_map,h.len]
 have at_of:∀x,x∈ks→∃j,j<ks.length∧x=ks.getD j 0:=fun x hx=>by
  obtain⟨i,hi,rfl⟩:=List.mem_iff_getElem.1 hx
  exact⟨i,hi,by rw[List.getD_eq_getElem?_getD,List.getElem?_eq_getElem hi];rfl⟩
 have hnd:ks.Nodup:=h.inc.imp (fun hlt e=>by rw[e] at hlt;omega)
 have e1:m=ks.getD a 0:=by
  obtain⟨j,hj,e⟩:=at_of m (hp.mem_iff.1 (p1.mem_iff.1 (by simp)))
  exact Ct.pop_is h.ns h.inc h1 hns ⟨j,hj,by omega,e⟩ (fun j hj _=>q1 _ (hp.mem_iff.2 (getD_mem hj)))
 have hml:(m::l1).Nodup:=(p1.trans hp).nodup_iff.2 hnd
 have hga:∀j,j<ks.length→(ks.getD j 0=ks.getD a 0↔j=a):=fun j hj=>by
  rw[List.getD_eq_getElem?_getD,List.getD_eq_getElem?_getD,List.getElem?_eq_getElem hj,List.getElem?_eq_getElem ha]
  refine⟨fun e=>?_,fun e=>by subst e;rfl⟩
  have e':ks[j]=ks[a]:=e
  rcases Nat.lt_trichotomy j a with hlt|heq|hgt
  · exact absurd e' (List.pairwise_iff_getElem.1 hnd j a hj ha hlt)
  · exact heq
  exact absurd e'.symm (List.pairwise_iff_getElem.1 hnd a j ha hj hgt)
 have e2:m2=ks.getD b 0:=by
  have hm2:m2∈l1:=p2.mem_iff.1 (by simp)
  obtain⟨j,hj,e⟩:=at_of m2 (hp.mem_iff.1 (p1.mem_iff.1 (by simp[hm2])))
  refine Ct.pop_is h.ns h.inc h2 hns ⟨j,hj,fun ej=>?_,e⟩ (fun j hj hja=>q2 _ ?_)
  · have:j=a:=by omega
    rw[this,←e1] at e
    rw[e] at hm2
    exact (List.nodup_cons.1 hml).1 hm2
  have h5:=p1.mem_iff.2 (hp.mem_iff.2 (getD_mem hj))
  rcases List.mem_cons.1 h5 with h6|h6
  · rw[e1] at h6
    exact absurd (by have:=(hga j hj).1 h6;omega) hja
  exact h6
 refine⟨e1,e2,?_⟩
 have h7:(m::m2::l2).Perm ks:=((List.Perm.cons m p2).trans p1).trans hp
 have h8:=Ct.wo_perm hab ha hb
 have g1:ks[a]=m:=by rw[e1,List.getD_eq_getElem?_getD,List.getElem?_eq_getElem ha];rfl
 have g2:ks[b]=m2:=by rw[e2,List.getD_eq_getElem?_getD,List.getElem?_eq_getElem hb];rfl
 rw[g1,g2] at h8
 exact List.Perm.cons_inv (List.Perm.cons_inv (h7.trans h8))
def initT (zs:List Int):Nat→List Nt
 | 0=>[]
 | k+1=>if 0<zs.getD k 0 then initT zs k++[((zs.getD k 0).toNat,.leaf k)] else initT zs k
theorem initT_len (zs:List Int):∀k,(initT zs k).length≤k
 | 0=>Nat.le_refl _
 | k+1=>by
  have:=initT_len zs k
  unfold initT
  split
  · rw[List.length_append,List.length_singleton];omega
  omega
def iterT (ts:List Nt):Nat→List Nt
 | 0=>ts
 | j+1=>Ct.step (iterT ts j)
def GrowEnd (zs:List Int) (w:World) (e:Ending) (w':World):Prop:=
 ((initT zs zs.length=[]∧e=.returned (.pointer none))∨(∃k o t j,iterT (initT zs zs.length) j=[(o,t)]∧e=.returned (.pointer (some ⟨k,0,none⟩))∧TreeAt w' k t))∧Below w.heap.size w w'
set_option maxHeartbeats 8000000 in
set_option maxRecDepth 20000 in
theorem growTree_any (a:Option Addr) (n cap:Nat) (zs:List Int) (w:World) (h:Ints w a zs) (hn:zs.length=n) (hb:n≤300) (hz:∀i,i<zs.length→0≤zs.getD i 0∧zs.getD i 0≤9000):
 Calls Tryz.prog 94 #[.slice a n cap] w (GrowEnd zs w):=by
 have HI:Hid (Ints w a zs):=h
 have HN:Hid (zs.length=n):=hn
 have HZ:Hid (∀i,i<zs.length→0≤zs.getD i 0∧zs.getD i 0≤9000):=hz
 have HG0:Hid (GrS w.heap.size (w.heap.size+1) w.heap.size w ((w.alloc (.cells #[] 137)).alloc (.cells #[.slice (some ⟨w.heap.size,0,none⟩) 0 0] 161)) (fun _=>(0,0)) [] [] [] 0):=by
  refine⟨⟨.slice (some ⟨w.heap.size,0,none⟩) 0 0,?_,?_⟩,fun i _ hi=>by simp at hi,List.Perm.refl _,⟨fun k hk=>by simp at hk,List.Pairwise.nil,fun k hk=>by simp at hk,rfl,fun i hi=>by simp at hi,by simp[Cf.sum]⟩,((Below.refl _ _).alloc (Nat.le_refl _) _).alloc (by simp) _⟩
  · have:=Boxed.new (w.alloc (.cells #[] 137)) 161 (.slice (some ⟨w.heap.size,0,none⟩) 0 0)
    rwa [World.size_alloc] at this
  exact World.ownsRow.alloc (World.ownsRow_lit w #[] 0 (Nat.le_refl _) (by decide) rfl) _
 clear h hn hz
 go_enter Tryz.func94,Tryz.ntmps94
 go_wp2_with fail
 go_loopw [14] (fun i wr=>∃(k:Nat) (K:Nat→Hp.Key) (ks l:List Nat),k≤n∧i=.int .i64 (k:Int)∧w.heap.size+2≤wr.heap.size∧Hid (GrS w.heap.size (w.heap.size+1) w.heap.size w wr K ks l (initT zs k) k∧ks.length≤k∧Cf.sum (fun p:Nt=>p.1) (initT zs k)≤9000*k)) (fun i _=>n-(intOf i).toNat)
 case atStart=>exact⟨0,_,[],[],Nat.zero_le _,rfl,by simp,HG0.out,Nat.le_refl _,by simp[initT,Cf.sum]⟩
 case round=>
  obtain⟨k,K,ks,l,hk,rfl,hsz,HR⟩:=hrel
  clear HG0
  by_cases hlt:k<n
  · have hki:(k:Int)<(n:Int):=by omega
    have hkl:k<zs.length:=by rw[HN.out];exact hlt
    obtain⟨ab,ao,rfl,hac⟩:∃ab ao,a=some ⟨ab,ao,none⟩∧wr.cell? ⟨ab,ao+k,none⟩=some (.int .i64 (zs.getD k 0)):=by
     rcases HI.out with e|⟨b,off,e1,e2,e3⟩
     · rw[e] at hkl;simp at hkl
     refine⟨b,off,e1,(HR.out.1.low.cell (p:=⟨b,off+k,none⟩) e2).trans ?_⟩
     rw[e3 k hkl,List.getD_eq_getElem?_getD,List.getElem?_eq_getElem hkl];rfl
    have hzk:=HZ.out k hkl
    obtain⟨z,hz⟩:∃z:Nat,zs.getD k 0=(z:Int):=⟨(zs.getD k 0).toNat,by omega⟩
    rw[hz] at hac
    by_cases hpos:z=0
    · have dz:(((z:Nat):Int) != 0)=false:=by rw[hpos];rfl
      have HIN:Hid (initT zs (k+1)=initT zs k):=by
       show _=_
       conv=>lhs;unfold initT
       rw[hz,if_neg (by omega)]
      have HR2:Hid (GrS w.heap.size (w.heap.size+1) w.heap.size w wr K ks l (initT zs (k+1)) (k+1)∧ks.length≤k+1∧Cf.sum (fun p:Nt=>p.1) (initT zs (k+1))≤9000*(k+1)):=by
       obtain⟨⟨g1,g2,g3,g4,g5⟩,h2,h3⟩:=HR.out
       rw[HIN.out]
       exact⟨⟨g1,g2,g3,⟨g4.keys,g4.inc,fun x hx=>by have:=g4.plc x hx;omega,g4.len,g4.tree,g4.wgt⟩,g5⟩,by omega,by omega⟩
      clear HR HIN hz hzk hpos
      go_wp2_with fail
      go_roundw
      case rel=>exact⟨k+1,K,ks,l,by omega,by go_num,hsz,HR2⟩
      case measure=>simp[intOf];omega
    have dz:(((z:Nat):Int) != 0)=true:=by rw[bne_iff_ne];omega
    have HIN:Hid (initT zs (k+1)=initT zs k++[(z,.leaf k)]):=by
     show _=_
     conv=>lhs;unfold initT
     rw[hz,if_pos (by omega),Int.toNat_natCast]
    have HPU:Hid (Calls Tryz.prog 115 #[.iface 159 (.pointer (some ⟨w.heap.size+1,0,none⟩)),.iface 137 (.pointer (some ⟨wr.heap.size,0,none⟩))] (wr.alloc (.cells #[.int .i64 (k:Int),.pointer none,.pointer none,.int .i64 (z:Int),.int .i64 (k:Int)] 141)) (PushS w.heap.size (w.heap.size+1) w.heap.size w (addK K wr.heap.size z k) (ks++[wr.heap.size]) (initT zs k++[(z,.leaf k)]) (k+1))):=
     gsPush (s:=(k:Int)) (x:=.pointer none) (y:=.pointer none) HR.out.1 (Nat.le_refl _) (by omega) (by omega) (by omega) (Nat.le_refl _) (by omega) ⟨z,k,heap_alloc_new _ _⟩ (by have:=HR.out.2.2;omega) (by have:=HR.out.2.1;omega)
    have HC:Hid (ks.length≤k∧Cf.sum (fun p:Nt=>p.1) (initT zs k)≤9000*k∧z≤9000):=⟨HR.out.2.1,HR.out.2.2,by omega⟩
    clear HR hz hzk hpos
    go_wp2_with fail
    refine HPU.out.mono ?_
    rintro e w2 ⟨⟨v,rfl⟩,l2,hG2⟩
    have hs2:w.heap.size+2≤w2.heap.size:=by
     have h7:=hG2.gs.lt (k:=wr.heap.size) (by simp)
     omega
    have HR2:Hid (GrS w.heap.size (w.heap.size+1) w.heap.size w w2 (addK K wr.heap.size z k) (ks++[wr.heap.size]) l2 (initT zs (k+1)) (k+1)∧(ks++[wr.heap.size]).length≤k+1∧Cf.sum (fun p:Nt=>p.1) (initT zs (k+1))≤9000*(k+1)):=by
     rw[HIN.out]
     refine⟨hG2,by rw[List.length_append];have:=HC.out.1;show ks.length+1≤_;omega,?_⟩
     rw[Cf.sum_append]
     have:=HC.out
     show Cf.sum _ (initT zs k)+(z+0)≤_
     omega
    clear hG2 HPU HC HIN
    go_wp2_with fail
    go_roundw
    case rel=>exact⟨k+1,_,_,l2,by omega,by go_num,hs2,HR2⟩
    case measure=>simp[intOf];omega
  have hki:¬(k:Int)<(n:Int):=by omega
  obtain rfl:k=n:=by omega
  clear HI HZ
  obtain⟨ao0,c0,hbx0⟩:=HR.out.1.hep.val
  have hbc0:=hbx0.cell
  have hLk:=HR.out.1.perm.length_eq
  have hkl:=HR.out.1.gs.len
  obtain⟨N,hN⟩:∃N,N=l.length:=⟨_,rfl⟩
  rw[←hN] at hbc0
  have HNN:Hid (N=l.length∧ks.length=N∧(initT zs k).length=N):=⟨hN,by omega,by omega⟩
  have hNk:N≤k:=by have:=HR.out.2.1;omega
  have HLE:Hid (∀(ao:Option Addr) (M c:Nat) (W:World),Calls Tryz.prog 116 #[.slice ao M c] W fun e w''=>e=.returned (.int .i64 (M:Int))∧w''=W):=fun ao M c W=>hpLen ao M c W
  clear hbx0 hLk hkl hN
  by_cases hN0:N=0
  · subst hN0
    have HE:Hid (GrowEnd zs w (.returned (.pointer none)) wr):=⟨.inl ⟨by rw[HN.out];exact List.eq_nil_of_length_eq_zero HNN.out.2.2,rfl⟩,HR.out.1.low⟩
    clear HR HNN
    go_wp2_with fail
    refine (HLE.out _ _ _ _).mono ?_
    rintro e w2 ⟨rfl,hw2⟩
    replace hw2:=hw2.symm
    subst hw2
    go_wp2_with fail
    go_ret
    exact HE.out
  have dN:((N:Int)==0)=false:=by rw[beq_eq_false_iff_ne];omega
  go_wp2_with fail
  refine (HLE.out _ _ _ _).mono ?_
  rintro e w2 ⟨rfl,hw2⟩
  replace hw2:=hw2.symm
  subst hw2
  go_wp2_with fail
  go_loopw [6] (fun x wr2=>∃(p M:Nat) (K:Nat→Hp.Key) (ks l:List Nat) (ts:List Nt),x=.int .i64 (p:Int)∧k≤p∧1≤M∧p+M=k+N∧w.heap.size+2≤wr2.heap.size∧Hid (GrS w.heap.size (w.heap.size+1) w.heap.size w wr2 K ks l ts p∧ks.length=M∧∃j,ts=iterT (initT zs k) j)) (fun x _=>k+N-(intOf x).toNat)
  case atStart=>exact⟨k,N,K,ks,l,initT zs k,rfl,Nat.le_refl _,by omega,rfl,hsz,HR.out.1,HNN.out.2.1,0,rfl⟩
  case round=>
   clear HR HNN
   obtain⟨p,M,K2,ks2,l2,ts2,rfl,hkp,hM1,hpM,hsz2,HS⟩:=hrel
   obtain⟨ao2,c2,hbx2⟩:=HS.out.1.hep.val
   have hbc2:=hbx2.cell
   have hl2:l2.length=M:=by rw[HS.out.1.perm.length_eq];exact HS.out.2.1
   rw[hl2] at hbc2
   by_cases hM2:1<M
   · have dM:decide ((M:Int)>1)=true:=by simp;omega
     have hts:ts2.length=M:=by rw[←HS.out.1.gs.len];exact HS.out.2.1
     obtain⟨a,wa,b,wb,h1,h2,hab,ha,hb⟩:=Cf.two (ns:=ts2.map Ct.wt) (by rw[List.length_map,hts];exact hM2)
     rw[List.length_map] at ha hb
     obtain⟨M1,hM1e⟩:∃M1,M=M1+2:=⟨M-2,by omega⟩
     have HAB:Hid (Cf.lst (-1) (ts2.map Ct.wt) 0 none=some (a,wa)∧Cf.lst (a:Int) (ts2.map Ct.wt) 0 none=some (b,wb)∧a≠b∧a<ks2.length∧b<ks2.length):=⟨h1,h2,hab,by rw[HS.out.1.gs.len];exact ha,by rw[HS.out.1.gs.len];exact hb⟩
     have HBD:Hid (∀x∈ks2,(K2 x).1≤100000000∧(K2 x).2≤100000000):=HS.out.1.gs.bound (by omega)
     have HP1:Hid (Calls Tryz.prog 117 #[.iface 159 (.pointer (some ⟨w.heap.size+1,0,none⟩))] wr (HPopEnd K2 w.heap.size (w.heap.size+1) w.heap.size (M1+1) l2 wr)):=
      heapPop K2 w.heap.size (w.heap.size+1) w.heap.size (M1+1) l2 wr (Nat.le_refl _) (by omega) (by omega) (by omega) HS.out.1.hep (fun k hk=>HS.out.1.gs.keys k (HS.out.1.perm.mem_iff.1 hk)) (fun k hk=>HBD.out k (HS.out.1.perm.mem_iff.1 hk)) (by have:=HS.out.1.heap;rw[hl2,hM1e] at this;exact this)
     have hta:∀(k:Nat) (w:World),(Instr.typeAssert (.iface 137 (.pointer (some ⟨k,0,none⟩))) 20 137 false).run Tryz.prog w=.ok (.pointer (some ⟨k,0,none⟩)) w:=fun k w=>by simp[Instr.typeAssert,run_underlying Tryz.underlying137,Result.andThen]
     clear h1 h2 hab ha hb hbx2 hts
     go_wp2_with fail
     refine (HLE.out _ _ _ _).mono ?_
     rintro e w2 ⟨rfl,hw2⟩
     replace hw2:=hw2.symm
     subst hw2
     go_wp2_with fail
     refine HP1.out.mono ?_
     rintro e w3 ⟨m,l3,rfl,p3,n3,hp3,q3,h3,g3⟩
     have hgs3:=HS.out.1.gs.kept (NodesK.of_hp g3 HS.out.1.hep.box)
     have hsub3:∀x∈l3,x∈ks2:=fun x hx=>HS.out.1.perm.mem_iff.1 (p3.mem_iff.1 (by simp[hx]))
     have HP2:Hid (Calls Tryz.prog 117 #[.iface 159 (.pointer (some ⟨w.heap.size+1,0,none⟩))] w3 (HPopEnd K2 w.heap.size (w.heap.size+1) w.heap.size M1 l3 w3)):=
      heapPop K2 w.heap.size (w.heap.size+1) w.heap.size M1 l3 w3 (Nat.le_refl _) (by omega) n3 (by omega) h3 (fun k hk=>hgs3.keys k (hsub3 k hk)) (fun k hk=>HBD.out k (hsub3 k hk)) hp3
     have H3:Hid ((m::l3).Perm l2∧(∀x∈l2,¬Hp.klt (K2 x) (K2 m))∧Hep w3 (w.heap.size+1) w.heap.size l3∧HpG w.heap.size (w.heap.size+1) wr w3):=⟨p3,q3,h3,g3⟩
     have hta1:=hta m w3
     unfold ptN
     clear p3 n3 hp3 q3 h3 g3 hgs3 hsub3 HP1 hbc2
     go_wp2_with fail
     refine HP2.out.mono ?_
     rintro e w4 ⟨m2,l4,rfl,p4,n4,hp4,q4,h4,g4⟩
     obtain⟨e1,e2,hpw⟩:=pops HS.out.1.gs HS.out.1.perm HAB.out.1 HAB.out.2.1 H3.out.1 H3.out.2.1 p4 q4 HAB.out.2.2.1 HAB.out.2.2.2.1 HAB.out.2.2.2.2
     have hgs4:=(HS.out.1.gs.kept (NodesK.of_hp H3.out.2.2.2 HS.out.1.hep.box)).kept (NodesK.of_hp g4 H3.out.2.2.1.box)
     have hgw:=hgs4.two HAB.out.2.2.1 HAB.out.2.2.2.1 HAB.out.2.2.2.2
     have hl4:l4.length=M1:=n4
     have hG4:GrS w.heap.size (w.heap.size+1) w.heap.size w w4 K2 (Cf.wo a b ks2 0) l4 (Cf.wo a b ts2 0) p:=⟨h4,by rw[hl4];exact hp4,hpw,hgw,(HS.out.1.low.trans H3.out.2.2.2.low).trans g4.low⟩
     have hma:m∈ks2:=by rw[e1];exact getD_mem HAB.out.2.2.2.1
     have hmb:m2∈ks2:=by rw[e2];exact getD_mem HAB.out.2.2.2.2
     obtain⟨s1,x1,y1,hn1⟩:=hgs4.keys m hma
     obtain⟨s2,x2,y2,hn2⟩:=hgs4.keys m2 hmb
     have o1:w4.cell? ⟨m,3,none⟩=some (.int .i64 ((K2 m).1:Int)):=by simp[World.cell?,hn1]
     have o2:w4.cell? ⟨m2,3,none⟩=some (.int .i64 ((K2 m2).1:Int)):=by simp[World.cell?,hn2]
     have hs4:w.heap.size+2≤w4.heap.size:=Nat.le_trans hsz2 (Nat.le_trans H3.out.2.2.2.low.size g4.low.size)
     have hta2:=hta m2 w4
     have hsum:=Cf.wo_sum0 (fun p:Nt=>p.1) HAB.out.2.2.1 ts2 (by rw[←HS.out.1.gs.len];exact HAB.out.2.2.2.1) (by rw[←HS.out.1.gs.len];exact HAB.out.2.2.2.2)
     have hwg:=HS.out.1.gs.wgt
     have ka:=(hgs4.tree a HAB.out.2.2.2.1)
     have kb:=(hgs4.tree b HAB.out.2.2.2.2)
     rw[←e1] at ka
     rw[←e2] at kb
     have hgt1:ts2.getD a tD=ts2[a]'(by rw[←HS.out.1.gs.len];exact HAB.out.2.2.2.1):=by rw[List.getD_eq_getElem?_getD,List.getElem?_eq_getElem (by rw[←HS.out.1.gs.len];exact HAB.out.2.2.2.1)];rfl
     have hgt2:ts2.getD b tD=ts2[b]'(by rw[←HS.out.1.gs.len];exact HAB.out.2.2.2.2):=by rw[List.getD_eq_getElem?_getD,List.getElem?_eq_getElem (by rw[←HS.out.1.gs.len];exact HAB.out.2.2.2.2)];rfl
     rw[←hgt1,←hgt2,←ka.2,←kb.2] at hsum
     have HST:Hid (Ct.step ts2=Cf.wo a b ts2 0++[((K2 m).1+(K2 m2).1,.node (ts2.getD a tD).2 (ts2.getD b tD).2)]):=by
      show _=_
      rw[Ct.step_two HAB.out.1 HAB.out.2.1,ka.2,kb.2]
     have hwl:(Cf.wo a b ks2 0).length=M1:=by rw[←hpw.length_eq];exact hl4
     obtain⟨O1,hO1⟩:∃O1,O1=(K2 m).1:=⟨_,rfl⟩
     obtain⟨O2,hO2⟩:∃O2,O2=(K2 m2).1:=⟨_,rfl⟩
     rw[←hO1] at o1 HST hsum
     rw[←hO2] at o2 HST hsum
     obtain⟨O,hO⟩:∃O,O=O1+O2:=⟨_,rfl⟩
     have eO:(O1:Int)+(O2:Int)=(O:Int):=by omega
     have wO:=wrap_i64_nat O (by omega)
     rw[←hO] at HST
     have HPU:Hid (∀q,Calls Tryz.prog 115 #[.iface 159 (.pointer (some ⟨w.heap.size+1,0,none⟩)),.iface 137 (.pointer (some ⟨w4.heap.size,0,none⟩))] ((w4.drewN q).alloc (.cells #[.int .i64 (-1),.pointer (some ⟨m,0,none⟩),.pointer (some ⟨m2,0,none⟩),.int .i64 (O:Int),.int .i64 (p:Int)] 141)) (PushS w.heap.size (w.heap.size+1) w.heap.size w (addK K2 w4.heap.size O p) (Cf.wo a b ks2 0++[w4.heap.size]) (Ct.step ts2) (p+1))):=fun q=>by
      rw[HST.out]
      have hkk:NodesK w4 ((w4.drewN q).alloc (nodeC (-1) (ptN m) (ptN m2) O p)):=NodesK.of_below ((below_drewN (Below.refl _ _) q).alloc (Nat.le_refl _) _)
      exact gsPush (s:=-1) (x:=ptN m) (y:=ptN m2) (W:=w4.drewN q) (hG4.drewN q) (Nat.le_refl _) (by omega) (by show w.heap.size≤w4.heap.size;omega) (by show w.heap.size≤w4.heap.size;omega) (Nat.le_refl _) (by omega) ⟨m,m2,O,p,heap_alloc_new _ _,ka.1.kept hkk,kb.1.kept hkk⟩ (by omega) (by omega)
     have HIT:Hid (∃j,Ct.step ts2=iterT (initT zs k) j):=by
      obtain⟨j,hj⟩:=HS.out.2.2
      exact⟨j+1,by rw[hj];rfl⟩
     have HWL:Hid ((Cf.wo a b ks2 0++[w4.heap.size]).length=M1+1):=by show _=_;rw[List.length_append,hwl];rfl
     unfold ptN
     clear p4 n4 hp4 q4 h4 g4 e1 e2 hpw hgs4 hgw hl4 hG4 hma hmb hn1 hn2 hsum hwg ka kb hgt1 hgt2 HST hwl hO1 hO2 hO HP2 H3 HAB HS HBD hta hta1
     go_wp2_with fail
     go_quiet (fail)
     go_wp2_with fail
     refine (HPU.out nq).mono ?_
     rintro e w5 ⟨⟨v5,rfl⟩,l5,hG5⟩
     have hs5:w.heap.size+2≤w5.heap.size:=by
      have h7:=hG5.gs.lt (k:=w4.heap.size) (by simp)
      omega
     have HS5:Hid (GrS w.heap.size (w.heap.size+1) w.heap.size w w5 (addK K2 w4.heap.size O p) (Cf.wo a b ks2 0++[w4.heap.size]) l5 (Ct.step ts2) (p+1)∧(Cf.wo a b ks2 0++[w4.heap.size]).length=M1+1∧∃j,Ct.step ts2=iterT (initT zs k) j):=⟨hG5,HWL.out,HIT.out⟩
     clear hG5 HPU HWL HIT
     go_wp2_with fail
     go_roundw
     case rel=>exact⟨p+1,M1+1,_,_,l5,_,by go_num,by omega,by omega,by omega,hs5,HS5⟩
     case measure=>simp[intOf];omega
   have dM:decide ((M:Int)>1)=false:=by simp;omega
   obtain rfl:M=1:=by omega
   obtain⟨x,hx⟩:=List.length_eq_one_iff.1 hl2
   have hks:ks2=[x]:=by have:=HS.out.1.perm;rw[hx] at this;exact (List.singleton_perm.1 this).symm
   have hts:ts2.length=1:=by rw[←HS.out.1.gs.len];exact HS.out.2.1
   obtain⟨tt,ht⟩:=List.length_eq_one_iff.1 hts
   obtain⟨g,cap2,hg,hB,hRN,_,_⟩:=HS.out.1.hep.row (by omega)
   have hbc3:=hB.cell
   rw[hl2] at hbc3 hRN
   have hc0x:=(hRN.cell (i:=0) (by omega)).1
   rw[hx] at hc0x
   have hc0y:wr.cell? ⟨g,0,none⟩=some (.pointer (some ⟨x,0,none⟩)):=hc0x
   have HE:Hid (GrowEnd zs w (.returned (.pointer (some ⟨x,0,none⟩))) wr):=by
    obtain⟨j,hj⟩:=HS.out.2.2
    have h5:=HS.out.1.gs.tree 0 (by rw[hks];simp)
    rw[hks,ht] at h5
    refine⟨.inr ⟨x,tt.1,tt.2,j,?_,rfl,h5.1⟩,HS.out.1.low⟩
    rw[HN.out,←hj,ht]
   have eao:Value.slice ao2 1 c2=Value.slice (some ⟨g,0,none⟩) 1 cap2:=by
    have h5:=hbc2
    rw[hbc3] at h5
    simpa using h5.symm
   injection eao with ea1 _ ea3
   subst ea1
   subst ea3
   clear hx hks hts ht hg hB hRN hc0x HS hl2 hbc3 hbx2
   go_wp2_with fail
   refine (HLE.out _ _ _ _).mono ?_
   rintro e w2 ⟨rfl,hw2⟩
   replace hw2:=hw2.symm
   subst hw2
   go_wp2_with fail
   go_ret
   exact HE.out
end Go.Proofs.YtejebodgfoihkaaGreat
