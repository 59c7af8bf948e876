/- A heap of nodes in memory: put in, taken out. -/
import Derived.Deep.AppendLies
import Derived.Deep.RegionLaw
import Derived.OwnWalk
import Derived.Test.YtejebodgfoihkaaGreatKFInflateTwox0
namespace Go.Proofs.YtejebodgfoihkaaGreat
open Go.RowKit

theorem info_nodep:(Tryz.prog.info? 137).map (fun i=>(i.zero,i.size,i.bytes))=some (some (.pointer none),1,8):=by kernel_rfl
def Hep (W:World) (Hb lo:Nat) (l:List Nat):Prop:=∃v,Boxed W Hb 161 v∧W.ownsRow lo 137 1 v l.length (l.map ptN)
def HStays:Obj→Prop
 | .cells _ t _=>t≠137
 | _=>True
structure HpG (L Hb:Nat) (W W':World):Prop where
 low:Below L W W'
 same:∀(k:Nat) (o:Obj),W.heap[k]?=some o→k≠Hb→HStays o→W'.heap[k]?=some o
theorem HpG.refl (L Hb:Nat) (W:World):HpG L Hb W W:=⟨Below.refl _ _,fun _ _ h _ _=>h⟩
theorem HpG.trans {L Hb:Nat} {A B C:World} (h:HpG L Hb A B) (k:HpG L Hb B C):HpG L Hb A C:=⟨h.low.trans k.low,fun i o h1 h2 h3=>k.same i o (h.same i o h1 h2 h3) h2 h3⟩
theorem HpG.drewN (L Hb:Nat) (W:World) (q:Nat):HpG L Hb W (W.drewN q):=⟨below_drewN (Below.refl _ _) q,fun _ _ h _ _=>h⟩
theorem HpG.keys {L Hb:Nat} {W W':World} {K:Nat→Hp.Key} {l:List Nat} (h:HpG L Hb W W') (hK:KeysAt W K l) (hb:∃v,Boxed W Hb 161 v):KeysAt W' K l:=fun k hk=>by
 obtain⟨s,x,y,e⟩:=hK k hk
 obtain⟨v,hv⟩:=hb
 refine⟨s,x,y,h.same k _ e (fun ek=>?_) (by show (141:TypeId)≠137;decide)⟩
 rw[ek,show W.heap[Hb]?=_ from hv] at e
 cases e
theorem Hep.box {W:World} {Hb lo:Nat} {l:List Nat} (h:Hep W Hb lo l):∃v,Boxed W Hb 161 v:=by
 obtain⟨v,h1,_⟩:=h;exact⟨v,h1⟩
theorem Hep.drewN {W:World} {Hb lo:Nat} {l:List Nat} (h:Hep W Hb lo l) (q:Nat):Hep (W.drewN q) Hb lo l:=by
 obtain⟨v,h1,h2⟩:=h
 exact⟨v,h1,World.ownsRow.kept h2 (row:=none) ⟨rfl,rfl,rfl,Nat.le_refl _,fun _ _ _=>rfl⟩ (by cases v.ownBlock<;>simp)⟩
theorem Hep.below {W W':World} {Hb lo:Nat} {l:List Nat} (h:Hep W Hb lo l) (hb:Below W.heap.size W W'):Hep W' Hb lo l:=by
 obtain⟨v,h1,h2⟩:=h
 refine⟨v,(hb.block Hb h1.lt).trans h1,World.ownsRow.kept h2 (row:=none) ⟨hb.os,hb.tape,hb.output,hb.size,fun k hk _=>hb.block k hk⟩ (by cases v.ownBlock<;>simp)⟩
theorem getD_ptN {l:List Nat} {i:Nat} (h:i<l.length):(l.map ptN)[i]?=some (ptN (l.getD i 0)):=by
 rw[List.getElem?_map,List.getD_eq_getElem?_getD,List.getElem?_eq_getElem h];rfl
theorem Hep.row {W:World} {Hb lo:Nat} {l:List Nat} (h:Hep W Hb lo l) (h0:0<l.length):∃g cap,lo≤g∧Boxed W Hb 161 (.slice (some ⟨g,0,none⟩) l.length cap)∧RowN W g l.length l∧W.ownsRow lo 137 1 (.slice (some ⟨g,0,none⟩) l.length cap) l.length (l.map ptN)∧l.length≤cap:=by
 obtain⟨v,h1,h2⟩:=h
 rcases h2.2 with⟨rfl,h0'⟩|⟨g,cap,cur,rfl,hg,hh,hn,hc,_⟩
 · omega
 refine⟨g,cap,hg,h1,⟨cur,hh,rfl,fun i hi=>?_⟩,h2,by omega⟩
 have:=World.ownsRow.cellAt h2 i (by omega)
 rw[getD_ptN hi] at this
 simpa [World.cell?,hh] using this
theorem Hep.swap {W:World} {Hb lo g cap:Nat} {l:List Nat} {i j:Nat} (hB:Boxed W Hb 161 (.slice (some ⟨g,0,none⟩) l.length cap)) (hR:W.ownsRow lo 137 1 (.slice (some ⟨g,0,none⟩) l.length cap) l.length (l.map ptN)) (q:Nat):
 Hep (((W.setCell ⟨g,i,none⟩ (ptN (l.getD j 0))).setCell ⟨g,j,none⟩ (ptN (l.getD i 0))).drewN q) Hb lo (Hp.sw l i j):=by
 have hne:=hB.not_row (by decide) hR
 have hne':Hb≠g:=fun e=>hne (by rw[e];rfl)
 have h1:=(World.ownsRow.stored hR i (ptN (l.getD j 0))).1
 have h2:=(World.ownsRow.stored h1 j (ptN (l.getD i 0))).1
 refine Hep.drewN ⟨.slice (some ⟨g,0,none⟩) l.length cap,?_,?_⟩ q
 · exact ((Below.heap_setCell _ ⟨g,j,none⟩ _ Hb hne').trans (Below.heap_setCell _ ⟨g,i,none⟩ _ Hb hne')).trans hB
 have e:((l.map ptN).set i (ptN (l.getD j 0))).set j (ptN (l.getD i 0))=(Hp.sw l i j).map ptN:=by unfold Hp.sw;rw[List.map_set,List.map_set]
 rw[e] at h2
 rw[Hp.sw_len]
 exact h2
theorem HpG.swap {L Hb lo g cap n:Nat} {W:World} {xs:List Value} {i j:Nat} {u v:Value} (hR:W.ownsRow lo 137 1 (.slice (some ⟨g,0,none⟩) n cap) n xs) (hL:L≤lo) (hg:lo≤g) (q:Nat):
 HpG L Hb W (((W.setCell ⟨g,i,none⟩ u).setCell ⟨g,j,none⟩ v).drewN q):=by
 refine⟨below_drewN (((Below.refl _ _).setCell (p:=⟨g,i,none⟩) (by show L≤g;omega) _).setCell (p:=⟨g,j,none⟩) (by show L≤g;omega) _) q,fun k o h1 _ h3=>?_⟩
 have hk:k≠g:=fun e=>by
  rcases hR.2 with⟨e1,_⟩|⟨g',cap',cur,e1,_,hh,_⟩
  · cases e1
  cases e1
  rw[e,hh] at h1
  cases h1
  exact h3 rfl
 exact ((Below.heap_setCell _ ⟨g,j,none⟩ _ k hk).trans (Below.heap_setCell _ ⟨g,i,none⟩ _ k hk)).trans h1

def UpEnd (K:Nat→Hp.Key) (L Hb lo n:Nat) (l:List Nat) (w:World) (e:Ending) (w':World):Prop:=(∃v,e=.returned v)∧∃l',l'.Perm l∧Hp.Heap K l' n∧Hep w' Hb lo l'∧HpG L Hb w w'
set_option maxHeartbeats 4000000 in
set_option maxRecDepth 20000 in
theorem hpUp (K:Nat→Hp.Key) (L Hb lo n j:Nat) (l:List Nat) (w:World) (hL:L≤lo) (hln:l.length=n) (hj:j<n) (hn:n≤1000) (hH:Hep w Hb lo l) (hK:KeysAt w K l) (hKb:∀k∈l,(K k).1≤100000000∧(K k).2≤100000000) (hU:Hp.Up K l n j):
 Calls Tryz.prog 125 #[.iface 159 (.pointer (some ⟨Hb,0,none⟩)),.int .i64 (j:Int)] w (UpEnd K L Hb lo n l w):=by
 have HS:Hid (Hep w Hb lo l∧Hp.Up K l n j):=⟨hH,hU⟩
 have HK:Hid (∀w' l',l'.Perm l→HpG L Hb w w'→KeysAt w' K l'∧∀k∈l',(K k).1≤100000000∧(K k).2≤100000000):=fun w' l' hp hg=>⟨fun k hk=>hg.keys hK hH.box k (hp.mem_iff.1 hk),fun k hk=>hKb k (hp.mem_iff.1 hk)⟩
 clear hH hK hKb hU
 go_enter Tryz.func125,Tryz.ntmps125
 go_wp2_with fail
 go_loopw [1] (fun i wr=>∃(k:Nat) (l':List Nat),k<n∧i=.int .i64 (k:Int)∧Hid (l'.Perm l∧Hp.Up K l' n k∧Hep wr Hb lo l'∧HpG L Hb w wr)) (fun i _=>(intOf i).toNat)
 case atStart=>exact⟨j,l,hj,rfl,List.Perm.refl _,HS.out.2,HS.out.1,HpG.refl _ _ _⟩
 case round=>
  obtain⟨k,l',hk,rfl,HR⟩:=hrel
  have hl':l'.length=n:=by rw[HR.out.1.length_eq,hln]
  by_cases h0:k=0
  · subst h0
    have HE:Hid (∀v,UpEnd K L Hb lo n l w (.returned v) wr):=fun v=>⟨⟨v,rfl⟩,l',HR.out.1,Hp.up_done HR.out.2.1 (.inl rfl),HR.out.2.2.1,HR.out.2.2.2⟩
    clear HR HS HK
    go_wp2_with fail
    go_end0
    exact HE.out _
  obtain⟨km,hkm⟩:∃km,km=k-1:=⟨_,rfl⟩
  have ek:(k:Int)-1=(km:Int):=by omega
  obtain⟨p,hp⟩:∃p,p=(k-1) / 2:=⟨_,rfl⟩
  have hpk:p<k:=by omega
  have eq1:(km:Int).tdiv 2=(p:Int):=by rw[hp,←hkm];rfl
  have eq2:(km:Int) / 2=(p:Int):=by omega
  have dpk:((p:Int)==(k:Int))=false:=by rw[beq_eq_false_iff_ne];omega
  obtain⟨hperm,hup,hhep,hhg⟩:=HR.out
  obtain⟨g,cap,hg,hB,hRN,hOR,hcap⟩:=hhep.row (by omega)
  obtain⟨hKA,hKB⟩:=HK.out wr l' hperm hhg
  have hbc:=hB.cell
  rw[hl'] at hB hRN hOR hbc
  have HLS:Hid (Calls Tryz.prog 148 #[.slice (some ⟨g,0,none⟩) n cap,.int .i64 (k:Int),.int .i64 (p:Int)] wr fun e w'=>e=.returned (.bool (decide (Hp.klt (K (l'.getD k 0)) (K (l'.getD p 0)))))∧∃q,w'=wr.drewN q):=hpLess g n cap l' K k p wr hk (by omega) hRN hKA hKB
  have m1:=m_less Hb (some ⟨g,0,none⟩) n cap wr hbc
  rw[←hkm] at hp
  have hkm1:k-1=km:=hkm.symm
  by_cases hlt:Hp.klt (K (l'.getD k 0)) (K (l'.getD p 0))
  · rw[decide_eq_true hlt] at HLS
    have HSW:Hid (∀q,Calls Tryz.prog 151 #[.slice (some ⟨g,0,none⟩) n cap,.int .i64 (p:Int),.int .i64 (k:Int)] (wr.drewN q) (SwapEnd g l' p k (wr.drewN q))):=fun q=>hpSwap g n cap l' p k (wr.drewN q) (by omega) hk hRN
    have m2 : ∀ q, (method 296 159 (.pointer (some ⟨Hb, 0, none⟩)) "Swap").run Tryz.prog (wr.drewN q) = .ok (151, .slice (some ⟨g, 0, none⟩) n cap) (wr.drewN q) := fun q => m_swap Hb (some ⟨g, 0, none⟩) n cap (wr.drewN q) hbc
    have HN:Hid (∀q q2,(Hp.sw l' p k).Perm l∧Hp.Up K (Hp.sw l' p k) n p∧Hep ((((wr.drewN q).setCell ⟨g,p,none⟩ (ptN (l'.getD k 0))).setCell ⟨g,k,none⟩ (ptN (l'.getD p 0))).drewN q2) Hb lo (Hp.sw l' p k)∧HpG L Hb w ((((wr.drewN q).setCell ⟨g,p,none⟩ (ptN (l'.getD k 0))).setCell ⟨g,k,none⟩ (ptN (l'.getD p 0))).drewN q2)):=fun q q2=>by
     refine⟨(Hp.sw_perm (by omega) (by omega)).trans hperm,?_,?_,hhg.trans ((HpG.drewN _ _ _ q).trans (HpG.swap (show World.ownsRow (wr.drewN q) _ _ _ _ _ _ from hOR) hL hg q2))⟩
     · have:=Hp.up_step hup (by omega) hk (by omega) (by rw[hkm1,←hp];exact hlt)
       rw[hkm1,←hp] at this
       exact this
     exact Hep.swap (W:=wr.drewN q) (by rw[hl'];exact hB) (by rw[hl'];exact hOR) q2
    clear hperm hup hhep hhg hB hRN hOR hKA hKB hlt HR HS HK hp hkm hkm1
    go_wp2_with fail
    refine HLS.out.mono ?_
    rintro e w2 ⟨rfl,q,rfl⟩
    have m3:=m2 q
    clear HLS m1 m2
    go_wp2_with fail
    refine (HSW.out q).mono ?_
    rintro e w3 ⟨⟨v,rfl⟩,q2,hw3⟩
    have HN2:Hid ((Hp.sw l' p k).Perm l∧Hp.Up K (Hp.sw l' p k) n p∧Hep w3 Hb lo (Hp.sw l' p k)∧HpG L Hb w w3):=by rw[hw3];exact HN.out q q2
    clear m3 HSW hw3 HN
    go_wp2_with fail
    go_roundw
    case rel=>exact⟨p,_,by omega,rfl,HN2⟩
    case measure=>simp[intOf];omega
  rw[decide_eq_false hlt] at HLS
  have HE:Hid (∀q v,UpEnd K L Hb lo n l w (.returned v) (wr.drewN q)):=fun q v=>⟨⟨v,rfl⟩,l',hperm,Hp.up_done hup (.inr (by rw[hkm1,←hp];exact hlt)),hhep.drewN q,hhg.trans (HpG.drewN _ _ _ q)⟩
  clear hperm hup hhep hhg hB hRN hOR hKA hKB hlt HR HS HK hp hkm hkm1
  go_wp2_with fail
  refine HLS.out.mono ?_
  rintro e w2 ⟨rfl,q,rfl⟩
  clear HLS m1
  go_wp2_with fail
  go_end0
  exact HE.out q _
end Go.Proofs.YtejebodgfoihkaaGreat
