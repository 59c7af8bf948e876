/- A heap of nodes in memory: heap.Push, heap.Pop. -/
import Derived.Test.YtejebodgfoihkaaGreatVFInflateTwoHpDown
namespace Go.Proofs.YtejebodgfoihkaaGreat
open Go.RowKit

theorem hep_more {W w1:World} {Hb lo g' cap' k:Nat} {l:List Nat} {v:Value} {o:Obj} (hv:Boxed W Hb 161 v) (ho:W.ownsRow lo 137 1 v l.length (l.map ptN)) (hlo:lo≤W.heap.size) (hown':w1.ownsRow lo 137 1 (.slice (some ⟨g',0,none⟩) (l.length+1) cap') (l.length+1) (l.map ptN++[ptN k])) (hgrow:(W.alloc o).grownBy w1 v.ownBlock) {L:Nat} (hL:L≤lo) (hLH:L≤Hb):
 Boxed w1 Hb 161 v∧Hep (w1.setCell ⟨Hb,0,none⟩ (.slice (some ⟨g',0,none⟩) (l.length+1) cap')) Hb lo (l++[k])∧HpG L Hb W (w1.setCell ⟨Hb,0,none⟩ (.slice (some ⟨g',0,none⟩) (l.length+1) cap')):=by
 have hne:=hv.not_row (by decide) ho
 have hb1:Boxed w1 Hb 161 v:=(hv.alloc o).kept hgrow hne
 have hne2:=hb1.not_row (by decide) hown'
 refine⟨hb1,⟨_,hb1.set _,?_⟩,?_,?_⟩
 · have h5:=World.ownsRow.kept hown' (grownBy_setCell' w1 Hb (.slice (some ⟨g',0,none⟩) (l.length+1) cap')) (.inr hne2.symm)
   rw[List.map_append,List.length_append]
   exact h5
 · refine (((Below.refl L W).alloc (by omega) o).grown hgrow (by simp;omega) (fun j hj=>?_)).setCell (p:=⟨Hb,0,none⟩) hLH _
   have:=(World.ownsRow.lt ho j hj).1
   omega
 intro i ob h1 h2 h3
 rw[Below.heap_setCell w1 ⟨Hb,0,none⟩ _ i h2]
 refine (hgrow.block i (by simp;have:=(Array.getElem?_eq_some_iff.1 h1).1;omega) (fun e=>?_)).trans ((Below.heap_alloc _ _ _ (Array.getElem?_eq_some_iff.1 h1).1).trans h1)
 rcases ho.2 with⟨rfl,_⟩|⟨g,cap,cur,rfl,_,hh,_⟩
 · simp[Value.ownBlock] at e
 obtain rfl:g=i:=by simpa [Value.ownBlock] using e.symm
 rw[hh] at h1;cases h1;exact h3 rfl
def PushEnd (L Hb lo:Nat) (l:List Nat) (w:World) (e:Ending) (w':World):Prop:=(∃v,e=.returned v)∧Hep w' Hb lo l∧HpG L Hb w w'
set_option maxHeartbeats 4000000 in
set_option maxRecDepth 20000 in
theorem hpPushM (L Hb lo k:Nat) (l:List Nat) (w:World) (hL:L≤lo) (hLH:L≤Hb) (hlo:lo≤w.heap.size) (hn:l.length≤1000) (hH:Hep w Hb lo l):
 Calls Tryz.prog 150 #[.pointer (some ⟨Hb,0,none⟩),.iface 137 (ptN k)] w (PushEnd L Hb lo (l++[k]) w):=by
 obtain⟨v,hv,ho⟩:=hH
 obtain⟨i0,hi,hz0,hz1,hz2⟩:=info_parts info_nodep
 have hbc:=hv.cell
 have hbf:=hv.frozen
 have HO:(w.alloc (.cells #[.pointer (some ⟨k,0,none⟩)] 137)).ownsRow lo 137 1 v l.length (l.map ptN):=World.ownsRow.alloc ho _
 have HNW:∀j u,[Value.pointer (some ⟨k,0,none⟩)][j]?=some u→(w.alloc (.cells #[.pointer (some ⟨k,0,none⟩)] 137)).cell? ((⟨w.heap.size,0,none⟩:Addr).add j)=some u:=World.news_of_block (heap_alloc_new _ _)
 have hone:∀u∈[Value.pointer (some ⟨k,0,none⟩)],u.oneCell'=true:=by intro u hu;simp at hu;subst hu;rfl
 have h63:l.length+1≤maxLen:=by unfold maxLen;omega
 have HMO:Hid (∀(g' cap':Nat) (w1:World),w1.ownsRow lo 137 1 (.slice (some ⟨g',0,none⟩) (l.length+1) cap') (l.length+1) (l.map ptN++[ptN k])→(w.alloc (.cells #[.pointer (some ⟨k,0,none⟩)] 137)).drew.grownBy w1 v.ownBlock→Boxed w1 Hb 161 v∧Hep (w1.setCell ⟨Hb,0,none⟩ (.slice (some ⟨g',0,none⟩) (l.length+1) cap')) Hb lo (l++[k])∧HpG L Hb w (w1.setCell ⟨Hb,0,none⟩ (.slice (some ⟨g',0,none⟩) (l.length+1) cap'))):=fun g' cap' w1 h1 h2=>hep_more hv ho hlo h1 (o:=.cells #[.pointer (some ⟨k,0,none⟩)] 137) ⟨h2.1,h2.2,h2.3,h2.4,h2.5⟩ hL hLH
 have hta:∀w:World,(Instr.typeAssert (.iface 137 (.pointer (some ⟨k,0,none⟩))) 20 137 false).run Tryz.prog w=.ok (.pointer (some ⟨k,0,none⟩)) w:=fun w=>by simp[Instr.typeAssert,run_underlying Tryz.underlying137,Result.andThen]
 have hbc2:(w.alloc (.cells #[.pointer (some ⟨k,0,none⟩)] 137)).cell? ⟨Hb,0,none⟩=some v:=(hv.alloc _).cell
 unfold ptN
 clear hv ho
 go_enter Tryz.func150,Tryz.ntmps150
 go_wp2_with fail
 go_region_law (refine step_append_lies _ rfl (.tmp 7) (.tmp 10) 161 rfl lo 137 i0 (.pointer none) 1 8 Tryz.underlying161 hi hz0 hz1 hz2 rfl (by decide) v l.length (l.map ptN) (by simp[Act.eval]) (show World.ownsRow _ _ _ _ _ _ _ from HO) ⟨w.heap.size,0,none⟩ 1 1 [.pointer (some ⟨k,0,none⟩)] (by simp[Act.eval]) rfl HNW hone (by decide) h63 (by omega) (by simp;omega) _ rfl ?_;intro g' cap' w1 hown' hgrow hat hlt;obtain⟨hb1,hh1,hg1⟩:=HMO.out g' cap' w1 hown' hgrow;have hc1:=hb1.cell;have hf1:=hb1.frozen;have HFIN:Hid (Hep (w1.setCell ⟨Hb,0,none⟩ (.slice (some ⟨g',0,none⟩) (l.length+1) cap')) Hb lo (l++[k])∧HpG L Hb w (w1.setCell ⟨Hb,0,none⟩ (.slice (some ⟨g',0,none⟩) (l.length+1) cap'))):=⟨hh1,hg1⟩;clear hh1 hg1 hown' hgrow hat hlt hb1)
 all_goals (
  go_end0
  exact⟨⟨_,rfl⟩,HFIN.out.1,HFIN.out.2⟩)

theorem own_less {W:World} {lo g cap n:Nat} {xs:List Value} (h:W.ownsRow lo 137 1 (.slice (some ⟨g,0,none⟩) (n+1) cap) (n+1) xs):W.ownsRow lo 137 1 (.slice (some ⟨g,0,none⟩) n cap) n (xs.take n):=by
 obtain⟨h1,h2⟩:=h
 refine⟨by rw[List.length_take];omega,?_⟩
 rcases h2 with⟨e,_⟩|⟨g',cap',cur,e,hg,hh,a1,a2,a3,a4⟩
 · cases e
 cases e
 refine .inr ⟨g,cap,cur,rfl,hg,hh,by omega,a2,a3,?_⟩
 rw[←a4,List.take_take]
 congr 1
 omega
def PopMEnd (L Hb lo n:Nat) (l:List Nat) (w:World) (e:Ending) (w':World):Prop:=e=.returned (.iface 137 (ptN (l.getD n 0)))∧Hep w' Hb lo (l.take n)∧HpG L Hb w w'
set_option maxHeartbeats 2000000 in
set_option maxRecDepth 20000 in
theorem hpPopM (L Hb lo n:Nat) (l:List Nat) (w:World) (hLH:L≤Hb) (hl:l.length=n+1) (hn:n≤1000) (hH:Hep w Hb lo l):
 Calls Tryz.prog 149 #[.pointer (some ⟨Hb,0,none⟩)] w (PopMEnd L Hb lo n l w):=by
 obtain⟨g,cap,hg,hB,hRN,hOR,hcap⟩:=hH.row (by omega)
 have hbc:=hB.cell
 have hbf:=hB.frozen
 have hcn:=(hRN.cell (i:=n) (by omega)).1
 unfold ptN at hcn
 have HF:Hid (PopMEnd L Hb lo n l w (.returned (.iface 137 (.pointer (some ⟨l.getD n 0,0,none⟩)))) (w.setCell ⟨Hb,0,none⟩ (.slice (some ⟨g,0,none⟩) n cap))):=by
  have hne:=hB.not_row (by decide) hOR
  rw[hl] at hOR
  refine⟨rfl,⟨_,hB.set _,?_⟩,(Below.refl _ _).setCell (p:=⟨Hb,0,none⟩) hLH _,fun k o h1 h2 _=>(Below.heap_setCell w ⟨Hb,0,none⟩ _ k h2).trans h1⟩
  have h5:=own_less hOR
  rw[←List.map_take] at h5
  rw[List.length_take,hl,Nat.min_eq_left (by omega)]
  exact World.ownsRow.kept h5 (grownBy_setCell' w Hb _) (.inr (fun e=>hne e.symm))
 rw[hl] at hbc
 have e1:((n+1:Nat):Int)-1=(n:Int):=by omega
 generalize l.getD n 0=x at*
 obtain⟨N,hN⟩:∃N,N=n+1:=⟨_,rfl⟩
 rw[←hN] at hbc e1
 have hnN:(n:Int)<(N:Int):=by omega
 have hnN2:(n:Int)≤(cap:Int):=by omega
 have hnc:n≤cap:=by omega
 clear hH hB hRN hOR hl hN
 go_enter Tryz.func149,Tryz.ntmps149
 go_wp2_with fail
 go_ret
 exact HF.out

def HPushEnd (K:Nat→Hp.Key) (L Hb lo:Nat) (l:List Nat) (w:World) (e:Ending) (w':World):Prop:=(∃v,e=.returned v)∧∃l',l'.Perm l∧Hp.Heap K l' l.length∧Hep w' Hb lo l'∧HpG L Hb w w'
set_option maxHeartbeats 2000000 in
set_option maxRecDepth 20000 in
theorem heapPush (K:Nat→Hp.Key) (L Hb lo k:Nat) (l:List Nat) (w:World) (hL:L≤lo) (hLH:L≤Hb) (hlo:lo≤w.heap.size) (hn:l.length≤900) (hH:Hep w Hb lo l) (hK:KeysAt w K (l++[k])) (hKb:∀x∈l++[k],(K x).1≤100000000∧(K x).2≤100000000) (hP:Hp.Heap K l l.length):
 Calls Tryz.prog 115 #[.iface 159 (.pointer (some ⟨Hb,0,none⟩)),.iface 137 (ptN k)] w (HPushEnd K L Hb lo (l++[k]) w):=by
 have HPU:Hid (Calls Tryz.prog 150 #[.pointer (some ⟨Hb,0,none⟩),.iface 137 (ptN k)] w (PushEnd L Hb lo (l++[k]) w)):=hpPushM L Hb lo k l w hL hLH hlo (by omega) hH
 have hbx:=hH.box
 have HUP:Hid (∀w1,Hep w1 Hb lo (l++[k])→HpG L Hb w w1→Calls Tryz.prog 125 #[.iface 159 (.pointer (some ⟨Hb,0,none⟩)),.int .i64 (l.length:Int)] w1 (UpEnd K L Hb lo (l.length+1) (l++[k]) w1)):=fun w1 h1 h2=>
  hpUp K L Hb lo (l.length+1) l.length (l++[k]) w1 hL (by rw[List.length_append];rfl) (by omega) (by omega) h1 (h2.keys hK hbx) hKb (Hp.up_start (fun i h0 hi=>by
   have h7:=hP i h0 hi
   have e:∀j,j<l.length→(l++[k]).getD j 0=l.getD j 0:=fun j hj=>by rw[List.getD_eq_getElem?_getD,List.getD_eq_getElem?_getD,List.getElem?_append_left hj]
   rw[e i hi,e _ (by omega)]
   exact h7))
 have m1:=m_push ⟨Hb,0,none⟩ w
 have hlen:(l++[k]).length=l.length+1:=by rw[List.length_append];rfl
 generalize l++[k]=l2 at*
 clear hK hKb hP hH hbx
 unfold ptN at*
 go_enter Tryz.func115,Tryz.ntmps115
 go_wp2_with fail
 refine HPU.out.mono ?_
 rintro e w1 ⟨⟨v,rfl⟩,h1,g1⟩
 obtain⟨g,cap,hg,hB,_,_,_⟩:=h1.row (by omega)
 have m2:=m_len Hb _ _ _ w1 hB.cell
 rw[hlen] at m2
 have HU1:Hid (Calls Tryz.prog 125 #[.iface 159 (.pointer (some ⟨Hb,0,none⟩)),.int .i64 (l.length:Int)] w1 (UpEnd K L Hb lo (l.length+1) l2 w1)):=HUP.out w1 h1 g1
 have HG1:Hid (HpG L Hb w w1):=g1
 have e1:((l.length+1:Nat):Int)-1=(l.length:Int):=by omega
 have HLN:Hid (l2.length=l.length+1):=hlen
 obtain⟨N1,hN1⟩:∃N1,N1=l.length+1:=⟨_,rfl⟩
 have HLE:Hid (∀w',Calls Tryz.prog 116 #[.slice (some ⟨g,0,none⟩) N1 cap] w' fun e w''=>e=.returned (.int .i64 (N1:Int))∧w''=w'):=fun w'=>hpLen _ _ _ w'
 rw[←hN1] at m2 e1
 clear h1 g1 HPU HUP m1 hB hlen hN1
 go_wp2_with fail
 refine (HLE.out w1).mono ?_
 rintro e w2 ⟨rfl,hw2⟩
 replace hw2:=hw2.symm
 subst hw2
 go_wp2_with fail
 refine HU1.out.mono ?_
 rintro e w3 ⟨⟨v3,rfl⟩,l3,p3,hp3,h3,g3⟩
 have HF:Hid (∀v,HPushEnd K L Hb lo l2 w (.returned v) w3):=fun v=>⟨⟨v,rfl⟩,l3,p3,by rw[HLN.out];exact hp3,h3,HG1.out.trans g3⟩
 clear p3 hp3 h3 g3 HU1
 go_wp2_with fail
 go_end0
 exact HF.out _
end Go.Proofs.YtejebodgfoihkaaGreat
