/- A heap of nodes in memory: heap.Pop. -/
import Derived.Test.YtejebodgfoihkaaGreatVFInflateTwoHpPush
namespace Go.Proofs.YtejebodgfoihkaaGreat
open Go.RowKit

def HPopEnd (K:Nat→Hp.Key) (L Hb lo n:Nat) (l:List Nat) (w:World) (e:Ending) (w':World):Prop:=∃m l',e=.returned (.iface 137 (ptN m))∧(m::l').Perm l∧l'.length=n∧Hp.Heap K l' n∧(∀x∈l,¬Hp.klt (K x) (K m))∧Hep w' Hb lo l'∧HpG L Hb w w'
set_option maxHeartbeats 4000000 in
set_option maxRecDepth 20000 in
theorem heapPop (K:Nat→Hp.Key) (L Hb lo n:Nat) (l:List Nat) (w:World) (hL:L≤lo) (hLH:L≤Hb) (hl:l.length=n+1) (hn:n≤900) (hH:Hep w Hb lo l) (hK:KeysAt w K l) (hKb:∀x∈l,(K x).1≤100000000∧(K x).2≤100000000) (hP:Hp.Heap K l (n+1)):
 Calls Tryz.prog 117 #[.iface 159 (.pointer (some ⟨Hb,0,none⟩))] w (HPopEnd K L Hb lo n l w):=by
 obtain⟨g,cap,hg,hB,hRN,hOR,hcap⟩:=hH.row (by omega)
 rw[hl] at hB hRN hOR
 have hT:HpT K L Hb lo g cap (n+1) l l w w:=⟨List.Perm.refl _,hl,hH,hB,hRN,hOR,hg,hK,HpG.refl _ _ _⟩
 have hbc:=hB.cell
 have m1:=m_len Hb _ _ _ w hbc
 have m2:=m_swap Hb _ _ _ w hbc
 have HSW:Hid (Calls Tryz.prog 151 #[.slice (some ⟨g,0,none⟩) (n+1) cap,.int .i64 ((0:Nat):Int),.int .i64 (n:Int)] w (SwapEnd g l 0 n w)):=hpSwap g (n+1) cap l 0 n w (by omega) (by omega) hRN
 have HSW2:Hid (∀w',SwapEnd g l 0 n w (.returned (.tuple #[])) w'→HpT K L Hb lo g cap (n+1) (Hp.sw l 0 n) l w w'):=fun w' h=>by
  obtain⟨_,q,hq⟩:=h
  rw[hq]
  exact hT.swap hL (by omega) (by omega) q
 have HDN:Hid (∀w',HpT K L Hb lo g cap (n+1) (Hp.sw l 0 n) l w w'→Calls Tryz.prog 126 #[.iface 159 (.pointer (some ⟨Hb,0,none⟩)),.int .i64 0,.int .i64 (n:Int)] w' (DownEnd K L Hb lo g cap n (Hp.sw l 0 n) w')):=fun w' h=>
  hpDown K L Hb lo g cap n (Hp.sw l 0 n) w' hL (by omega) ⟨List.Perm.refl _,h.len,h.hep,h.box,h.row,h.own,h.at_,h.keys,HpG.refl _ _ _⟩ (fun x hx=>hKb x (h.perm.mem_iff.1 hx)) (Hp.down_swap hP (by omega))
 have HPO:Hid (∀(w':World) (l':List Nat),Hep w' Hb lo l'→l'.length=n+1→Calls Tryz.prog 149 #[.pointer (some ⟨Hb,0,none⟩)] w' (PopMEnd L Hb lo n l' w')):=fun w' l' h h2=>hpPopM L Hb lo n l' w' hLH h2 (by omega) h
 have HFI:Hid (∀(l':List Nat) (w1 w' w'':World),HpT K L Hb lo g cap (n+1) (Hp.sw l 0 n) l w w1→Hp.Heap K l' n→l'.getD n 0=(Hp.sw l 0 n).getD n 0→HpT K L Hb lo g cap (n+1) l' (Hp.sw l 0 n) w1 w'→Hep w'' Hb lo (l'.take n)→HpG L Hb w' w''→HPopEnd K L Hb lo n l w (.returned (.iface 137 (ptN (l'.getD n 0)))) w''):=fun l' w1 w' w'' t1 h1 h2 t2 h3 g3=>by
  have hp:l'.Perm l:=t2.perm.trans t1.perm
  have hlen:l'.length=n+1:=t2.len
  have hsplit:l'=l'.take n++[l'.getD n 0]:=by
   conv=>lhs;rw[←List.take_append_drop n l']
   congr 1
   rw[List.drop_eq_getElem_cons (by omega),List.drop_of_length_le (by omega),List.getD_eq_getElem?_getD,List.getElem?_eq_getElem (by omega)]
   rfl
  have hm:l'.getD n 0=l.getD 0 0:=by
   rw[h2,Hp.sw_get (by omega) (by omega),if_pos rfl]
  refine⟨l'.getD n 0,l'.take n,rfl,?_,by rw[List.length_take];omega,?_,?_,h3,t1.grow.trans (t2.grow.trans g3)⟩
  · refine List.Perm.trans ?_ hp
    conv=>rhs;rw[hsplit]
    exact (List.perm_append_singleton _ _).symm
  · intro i h0 hi
    have e:∀j,j<n→(l'.take n).getD j 0=l'.getD j 0:=fun j hj=>by rw[List.getD_eq_getElem?_getD,List.getD_eq_getElem?_getD,List.getElem?_take_of_lt hj]
    rw[e i hi,e _ (by omega)]
    exact h1 i h0 hi
  intro x hx
  obtain⟨i,hi,rfl⟩:=List.mem_iff_getElem.1 hx
  have h5:=Hp.heap_first hP i (by omega)
  rw[List.getD_eq_getElem?_getD,List.getElem?_eq_getElem hi] at h5
  rw[hm]
  exact h5
 have e1:((n+1:Nat):Int)-1=(n:Int):=by omega
 obtain⟨N1,hN1⟩:∃N1,N1=n+1:=⟨_,rfl⟩
 have HLE:Hid (Calls Tryz.prog 116 #[.slice (some ⟨g,0,none⟩) N1 cap] w fun e w''=>e=.returned (.int .i64 (N1:Int))∧w''=w):=hpLen _ _ _ w
 have HN1:Hid (N1=n+1):=hN1
 rw[←hN1] at m1 m2 e1 HSW
 clear hH hK hKb hP hB hRN hOR hT hbc hN1 hl
 go_enter Tryz.func117,Tryz.ntmps117
 go_wp2_with fail
 refine HLE.out.mono ?_
 rintro e w2 ⟨rfl,hw2⟩
 replace hw2:=hw2.symm
 subst hw2
 go_wp2_with fail
 refine HSW.out.mono ?_
 rintro e w3 ⟨⟨v,rfl⟩,hq3⟩
 have T3:Hid (HpT K L Hb lo g cap (n+1) (Hp.sw l 0 n) l w w3):=HSW2.out w3 ⟨⟨_,rfl⟩,hq3⟩
 have HD3:Hid (Calls Tryz.prog 126 #[.iface 159 (.pointer (some ⟨Hb,0,none⟩)),.int .i64 0,.int .i64 (n:Int)] w3 (DownEnd K L Hb lo g cap n (Hp.sw l 0 n) w3)):=HDN.out w3 T3.out
 clear hq3 HSW HSW2 HDN m1 m2 HLE
 go_wp2_with fail
 refine HD3.out.mono ?_
 rintro e w4 ⟨⟨v4,rfl⟩,l4,h4,e4,t4⟩
 have HP4:Hid (Calls Tryz.prog 149 #[.pointer (some ⟨Hb,0,none⟩)] w4 (PopMEnd L Hb lo n l4 w4)):=HPO.out w4 l4 t4.hep t4.len
 have m5:=m_pop ⟨Hb,0,none⟩ w4
 have HF4:Hid (∀w'',Hep w'' Hb lo (l4.take n)→HpG L Hb w4 w''→HPopEnd K L Hb lo n l w (.returned (.iface 137 (ptN (l4.getD n 0)))) w''):=fun w'' h g=>HFI.out l4 w3 w4 w'' T3.out h4 e4 t4 h g
 clear h4 e4 t4 HFI T3 HPO HD3
 go_wp2_with fail
 refine HP4.out.mono ?_
 rintro e w5 ⟨rfl,h5,g5⟩
 have HF5:=HF4.out w5 h5 g5
 have HF6:Hid (HPopEnd K L Hb lo n l w (.returned (.iface 137 (ptN (l4.getD n 0)))) w5):=HF5
 clear h5 g5 HF4 HP4 m5 HF5
 go_wp2_with fail
 go_ret
 exact HF6.out
end Go.Proofs.YtejebodgfoihkaaGreat
