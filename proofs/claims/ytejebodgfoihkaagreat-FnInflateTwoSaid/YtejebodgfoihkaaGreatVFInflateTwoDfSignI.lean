/- The symbol of a size and of a distance, and its further bits: the program's. -/
import Derived.Laws.Tables
import Derived.Below
import Derived.Test.YtejebodgfoihkaaGreatVFInflateTwoDfRuleI
namespace Go.Proofs.YtejebodgfoihkaaGreat
open Go.RowKit

def signV (s:Nat) (p:Int×Int):Value:=.agg #[.int .i64 (s:Int),.int .i64 p.1,.int .i64 p.2]

set_option maxHeartbeats 2000000 in
set_option maxRecDepth 20000 in
theorem signSize_any (x:Nat) (h0:3≤x) (hx:x≤30000) (w:World):
 Calls Tryz.prog 89 #[.int .i64 (x:Int),.int .i64 29,.func (.func 90) #[] #[]] w fun e w'=>e=.returned (signV (Df.szSym x) (Df.szBit x))∧Below w.heap.size w w':=by
 have HF:Hid (∀k:Nat,k<29→∀w:World,Calls Tryz.prog 90 #[.int .i64 (k:Int)] w fun e w'=>e=.returned (.tuple #[.int .i64 (((Df.szN k).1:Nat):Int),.int .i64 (((Df.szN k).2:Nat):Int)])∧w'=w):=fun k hk w=>sizeRule_any k hk w
 have HC0:Hid (∀w:World,Calls Tryz.prog 90 #[.int .i64 28] w fun e w'=>e=.returned (.tuple #[.int .i64 (((Df.szN 28).1:Nat):Int),.int .i64 (((Df.szN 28).2:Nat):Int)])∧w'=w):=fun w=>sizeRule_any 28 (by omega) w
 obtain⟨hq1,hq2,hq3⟩:=Df.szN_all 28 (by omega)
 obtain⟨L0,hL0⟩:∃L,(Df.szN 28).1=L:=⟨_,rfl⟩
 obtain⟨M0,hM0⟩:∃M,(Df.szN 28).2=M:=⟨_,rfl⟩
 have HL0:Hid ((Df.szN 28).1=L0∧(Df.szN 28).2=M0):=⟨hL0,hM0⟩
 rw[hL0,hM0] at HC0
 rw[hL0] at hq1 hq2
 rw[hM0] at hq3
 clear hL0 hM0
 go_enter Tryz.func89,Tryz.ntmps89
 go_wp2_with fail
 refine (HC0.out _).mono ?_
 rintro e w1 ⟨rfl,hw1⟩
 subst hw1
 clear HC0
 go_wp2_with fail
 go_loopw [7,8,9] (fun i l m wr=>∃(k L M:Nat),k<29∧L≤30000∧M≤13∧i=.int .i64 (k:Int)∧l=.int .i64 (L:Int)∧m=.int .i64 (M:Int)∧Hid (Df.szSym x=Df.down (fun k=>(Df.szN k).1) x k∧(Df.szN k).1=L∧(Df.szN k).2=M)∧wr=w.alloc (.cells #[.int .i64 0,.int .i64 0,.int .i64 0] 102)) (fun i _ _ _=>(intOf i).toNat)
 case atStart=>exact⟨28,L0,M0,by omega,by omega,by omega,rfl,rfl,rfl,⟨rfl,HL0.out.1,HL0.out.2⟩,rfl⟩
 case round=>
  obtain⟨k,L,M,hk,hL,hM,rfl,rfl,rfl,HS,hw⟩:=hrel
  subst hw
  clear HL0 hq1 hq2 hq3
  by_cases hlt:x<L
  · have hli:decide ((L:Int)>(x:Int))=true:=by simp;omega
    have hk0:k≠0:=fun h=>by
     have h1:=HS.out.2.1
     rw[h] at h1
     have h2:(Df.szN 0).1=3:=by decide
     omega
    obtain⟨j,rfl⟩:∃j,k=j+1:=⟨k-1,by omega⟩
    have hki:((j+1:Nat):Int)-1=(j:Int):=by omega
    obtain⟨q1,q2,q3⟩:=Df.szN_all j (by omega)
    have HCj:Hid (∀w:World,Calls Tryz.prog 90 #[.int .i64 (j:Int)] w fun e w'=>e=.returned (.tuple #[.int .i64 (((Df.szN j).1:Nat):Int),.int .i64 (((Df.szN j).2:Nat):Int)])∧w'=w):=fun w=>HF.out j (by omega) w
    have HD2:Hid (Df.szSym x=Df.down (fun k=>(Df.szN k).1) x j):=by
     show _=_
     rw[HS.out.1,Df.down_no (f:=fun k=>(Df.szN k).1) (by show ¬(Df.szN (j+1)).1≤x;rw[HS.out.2.1];omega)]
    obtain⟨L2,hL2⟩:∃L,(Df.szN j).1=L:=⟨_,rfl⟩
    obtain⟨M2,hM2⟩:∃M,(Df.szN j).2=M:=⟨_,rfl⟩
    have HL2:Hid ((Df.szN j).1=L2∧(Df.szN j).2=M2):=⟨hL2,hM2⟩
    rw[hL2,hM2] at HCj
    rw[hL2] at q1 q2
    rw[hM2] at q3
    clear hL2 hM2 HS HF
    go_wp2_with fail
    refine (HCj.out _).mono ?_
    rintro e w1 ⟨rfl,hw1⟩
    subst hw1
    clear HCj
    go_wp2_with fail
    go_roundw
    case rel=>exact⟨j,L2,M2,by omega,by omega,by omega,rfl,rfl,rfl,⟨HD2.out,HL2.out.1,HL2.out.2⟩,by trivial⟩
    case measure=>simp[intOf]
  have hli:decide ((L:Int)>(x:Int))=false:=by simp;omega
  have hsub:(x:Int)-(L:Int)=((x-L:Nat):Int):=by omega
  have hsy:Df.szSym x=k:=by rw[HS.out.1];exact Df.down_yes (f:=fun k=>(Df.szN k).1) (by show (Df.szN k).1≤x;rw[HS.out.2.1];omega)
  have HE:Hid (signV (Df.szSym x) (Df.szBit x)=.agg #[.int .i64 (k:Int),.int .i64 ((x-L:Nat):Int),.int .i64 (M:Int)]):=by
   show _=_
   unfold signV Df.szBit
   rw[hsy,HS.out.2.1,HS.out.2.2]
  clear hsy HS HF
  obtain⟨V,hV⟩:∃V,x-L=V:=⟨_,rfl⟩
  rw[hV] at hsub HE
  have hVb:V≤30000:=by omega
  clear hV
  go_wp2_with fail
  refine bodyPost_ret (v:=.agg #[.int .i64 (k:Int),.int .i64 (V:Int),.int .i64 (M:Int)]) (by simp[results,Tryz.results89,go_sem]) rfl ⟨by rw[HE.out],?_⟩
  exact (Below.refl _ _).alloc (Nat.le_refl _) _

set_option maxHeartbeats 2000000 in
set_option maxRecDepth 20000 in
theorem signDist_any (x:Nat) (h0:1≤x) (hx:x≤30000) (w:World):
 Calls Tryz.prog 89 #[.int .i64 (x:Int),.int .i64 30,.func (.func 91) #[] #[]] w fun e w'=>e=.returned (signV (Df.dsSym x) (Df.dsBit x))∧Below w.heap.size w w':=by
 have HF:Hid (∀k:Nat,k<30→∀w:World,Calls Tryz.prog 91 #[.int .i64 (k:Int)] w fun e w'=>e=.returned (.tuple #[.int .i64 (((Df.dsN k).1:Nat):Int),.int .i64 (((Df.dsN k).2:Nat):Int)])∧w'=w):=fun k hk w=>distRule_any k hk w
 have HC0:Hid (∀w:World,Calls Tryz.prog 91 #[.int .i64 29] w fun e w'=>e=.returned (.tuple #[.int .i64 (((Df.dsN 29).1:Nat):Int),.int .i64 (((Df.dsN 29).2:Nat):Int)])∧w'=w):=fun w=>distRule_any 29 (by omega) w
 obtain⟨hq1,hq2,hq3⟩:=Df.dsN_all 29 (by omega)
 obtain⟨L0,hL0⟩:∃L,(Df.dsN 29).1=L:=⟨_,rfl⟩
 obtain⟨M0,hM0⟩:∃M,(Df.dsN 29).2=M:=⟨_,rfl⟩
 have HL0:Hid ((Df.dsN 29).1=L0∧(Df.dsN 29).2=M0):=⟨hL0,hM0⟩
 rw[hL0,hM0] at HC0
 rw[hL0] at hq1 hq2
 rw[hM0] at hq3
 clear hL0 hM0
 go_enter Tryz.func89,Tryz.ntmps89
 go_wp2_with fail
 refine (HC0.out _).mono ?_
 rintro e w1 ⟨rfl,hw1⟩
 subst hw1
 clear HC0
 go_wp2_with fail
 go_loopw [7,8,9] (fun i l m wr=>∃(k L M:Nat),k<30∧L≤30000∧M≤13∧i=.int .i64 (k:Int)∧l=.int .i64 (L:Int)∧m=.int .i64 (M:Int)∧Hid (Df.dsSym x=Df.down (fun k=>(Df.dsN k).1) x k∧(Df.dsN k).1=L∧(Df.dsN k).2=M)∧wr=w.alloc (.cells #[.int .i64 0,.int .i64 0,.int .i64 0] 102)) (fun i _ _ _=>(intOf i).toNat)
 case atStart=>exact⟨29,L0,M0,by omega,by omega,by omega,rfl,rfl,rfl,⟨rfl,HL0.out.1,HL0.out.2⟩,rfl⟩
 case round=>
  obtain⟨k,L,M,hk,hL,hM,rfl,rfl,rfl,HS,hw⟩:=hrel
  subst hw
  clear HL0 hq1 hq2 hq3
  by_cases hlt:x<L
  · have hli:decide ((L:Int)>(x:Int))=true:=by simp;omega
    have hk0:k≠0:=fun h=>by
     have h1:=HS.out.2.1
     rw[h] at h1
     have h2:(Df.dsN 0).1=1:=by decide
     omega
    obtain⟨j,rfl⟩:∃j,k=j+1:=⟨k-1,by omega⟩
    have hki:((j+1:Nat):Int)-1=(j:Int):=by omega
    obtain⟨q1,q2,q3⟩:=Df.dsN_all j (by omega)
    have HCj:Hid (∀w:World,Calls Tryz.prog 91 #[.int .i64 (j:Int)] w fun e w'=>e=.returned (.tuple #[.int .i64 (((Df.dsN j).1:Nat):Int),.int .i64 (((Df.dsN j).2:Nat):Int)])∧w'=w):=fun w=>HF.out j (by omega) w
    have HD2:Hid (Df.dsSym x=Df.down (fun k=>(Df.dsN k).1) x j):=by
     show _=_
     rw[HS.out.1,Df.down_no (f:=fun k=>(Df.dsN k).1) (by show ¬(Df.dsN (j+1)).1≤x;rw[HS.out.2.1];omega)]
    obtain⟨L2,hL2⟩:∃L,(Df.dsN j).1=L:=⟨_,rfl⟩
    obtain⟨M2,hM2⟩:∃M,(Df.dsN j).2=M:=⟨_,rfl⟩
    have HL2:Hid ((Df.dsN j).1=L2∧(Df.dsN j).2=M2):=⟨hL2,hM2⟩
    rw[hL2,hM2] at HCj
    rw[hL2] at q1 q2
    rw[hM2] at q3
    clear hL2 hM2 HS HF
    go_wp2_with fail
    refine (HCj.out _).mono ?_
    rintro e w1 ⟨rfl,hw1⟩
    subst hw1
    clear HCj
    go_wp2_with fail
    go_roundw
    case rel=>exact⟨j,L2,M2,by omega,by omega,by omega,rfl,rfl,rfl,⟨HD2.out,HL2.out.1,HL2.out.2⟩,by trivial⟩
    case measure=>simp[intOf]
  have hli:decide ((L:Int)>(x:Int))=false:=by simp;omega
  have hsub:(x:Int)-(L:Int)=((x-L:Nat):Int):=by omega
  have hsy:Df.dsSym x=k:=by rw[HS.out.1];exact Df.down_yes (f:=fun k=>(Df.dsN k).1) (by show (Df.dsN k).1≤x;rw[HS.out.2.1];omega)
  have HE:Hid (signV (Df.dsSym x) (Df.dsBit x)=.agg #[.int .i64 (k:Int),.int .i64 ((x-L:Nat):Int),.int .i64 (M:Int)]):=by
   show _=_
   unfold signV Df.dsBit
   rw[hsy,HS.out.2.1,HS.out.2.2]
  clear hsy HS HF
  obtain⟨V,hV⟩:∃V,x-L=V:=⟨_,rfl⟩
  rw[hV] at hsub HE
  have hVb:V≤30000:=by omega
  clear hV
  go_wp2_with fail
  refine bodyPost_ret (v:=.agg #[.int .i64 (k:Int),.int .i64 (V:Int),.int .i64 (M:Int)]) (by simp[results,Tryz.results89,go_sem]) rfl ⟨by rw[HE.out],?_⟩
  exact (Below.refl _ _).alloc (Nat.le_refl _) _

theorem bl_setRow (w:World) (g:Nat) (cs:Array Value):Below g w (w.setRow g cs):=
 ⟨rfl,rfl,rfl,by simp,fun k hk=>setRow_other w g k cs (by omega)⟩
theorem info_sign (a b c:Int):(Tryz.prog.info? 102).map (·.size)=some (#[Value.int .i64 a,.int .i64 b,.int .i64 c]).size:=by kernel_rfl
theorem one_sign (a b c:Int):(#[Value.int .i64 a,.int .i64 b,.int .i64 c]).all (·.oneCell')=true:=by simp[Value.oneCell']

set_option maxHeartbeats 1000000 in
theorem sizeSign_any (x:Nat) (h0:3≤x) (hx:x≤258) (w:World):
 Calls Tryz.prog 54 #[.int .i64 (x:Int)] w fun e w'=>e=.returned (signV (257+Df.szSym x) (Df.szBit x))∧Below w.heap.size w w':=by
 have HC:Hid (∀w:World,Calls Tryz.prog 89 #[.int .i64 (x:Int),.int .i64 29,.func (.func 90) #[] #[]] w fun e w'=>e=.returned (signV (Df.szSym x) (Df.szBit x))∧Below w.heap.size w w'):=fun w=>signSize_any x h0 (by omega) w
 have hs:=Df.szSym_lt x
 unfold signV at HC ⊢
 generalize Df.szBit x=p at*
 generalize Df.szSym x=s at*
 obtain⟨v,m⟩:=p
 dsimp only at HC ⊢
 obtain⟨S,hS⟩:∃S:Nat,S=257+s:=⟨_,rfl⟩
 rw[←hS]
 have hcs:(s:Int)+257=(S:Int):=by omega
 have hSb:S≤1000:=by omega
 clear hS
 go_enter Tryz.func54,Tryz.ntmps54
 go_wp2_with fail
 refine (HC.out _).mono ?_
 rintro e w1 ⟨rfl,b1⟩
 clear HC
 have hbx:w1.heap[w.heap.size]?=some (.cells #[.int .i64 0,.int .i64 0,.int .i64 0] 102 (0,0)):=(b1.block _ (by simp)).trans (heap_alloc_new w _)
 have hlt:w.heap.size<w1.heap.size:=Nat.lt_of_lt_of_le (by simp) b1.size
 have HB1:Hid (Below w.heap.size w w1):=((Below.refl _ _).alloc (Nat.le_refl _) _).trans (b1.mono (by simp))
 have HBX:Hid (w1.heap[w.heap.size]?=some (.cells #[.int .i64 0,.int .i64 0,.int .i64 0] 102 (0,0))):=hbx
 clear b1 hbx
 have hbx2:∀o:Obj,(w1.alloc o).heap[w.heap.size]?=some (.cells #[.int .i64 0,.int .i64 0,.int .i64 0] 102 (0,0)):=fun o=>(heap_alloc_old w1 o hlt).trans HBX.out
 have HX2:Hid (∀o:Obj,(w1.alloc o).heap[w.heap.size]?=some (.cells #[.int .i64 0,.int .i64 0,.int .i64 0] 102 (0,0))):=hbx2
 clear hbx2
 go_wp2_with (refine wpList_store_row rfl 102 (.tmp 2) _ rfl w.heap.size #[.int .i64 (S:Int),.int .i64 v,.int .i64 m] rfl rfl 102 #[.int .i64 0,.int .i64 0,.int .i64 0] (HX2.out _) (info_sign _ _ _) rfl (one_sign _ _ _) ?_)
 have hs2:=setRow_heap _ w.heap.size _ #[.int .i64 (S:Int),.int .i64 v,.int .i64 m] _ _ (HX2.out (.cells #[.int .i64 (S:Int),.int .i64 v,.int .i64 m] 102))
 refine bodyPost_ret_by (results_cell_row (p:=2) (ty:=102) (by kernel_rfl) _ _ w.heap.size 102 _ (0,0) _ rfl hs2 Tryz.underlying102 rfl (by kernel_rfl)) rfl ⟨rfl,?_⟩
 exact (HB1.out.alloc HB1.out.size _).trans (bl_setRow _ _ _)

set_option maxHeartbeats 1000000 in
theorem distSign_any (x:Nat) (h0:1≤x) (hx:x≤30000) (w:World):
 Calls Tryz.prog 55 #[.int .i64 (x:Int)] w fun e w'=>e=.returned (signV (Df.dsSym x) (Df.dsBit x))∧Below w.heap.size w w':=by
 have HC:Hid (∀w:World,Calls Tryz.prog 89 #[.int .i64 (x:Int),.int .i64 30,.func (.func 91) #[] #[]] w fun e w'=>e=.returned (signV (Df.dsSym x) (Df.dsBit x))∧Below w.heap.size w w'):=fun w=>signDist_any x h0 (by omega) w
 unfold signV at HC ⊢
 generalize Df.dsBit x=p at*
 generalize Df.dsSym x=s at*
 obtain⟨v,m⟩:=p
 dsimp only at HC ⊢
 go_enter Tryz.func55,Tryz.ntmps55
 go_wp2_with fail
 refine (HC.out _).mono ?_
 rintro e w1 ⟨rfl,b1⟩
 clear HC
 have hbx:w1.heap[w.heap.size]?=some (.cells #[.int .i64 0,.int .i64 0,.int .i64 0] 102 (0,0)):=(b1.block _ (by simp)).trans (heap_alloc_new w _)
 have HB1:Hid (Below w.heap.size w w1):=((Below.refl _ _).alloc (Nat.le_refl _) _).trans (b1.mono (by simp))
 have HBX:Hid (w1.heap[w.heap.size]?=some (.cells #[.int .i64 0,.int .i64 0,.int .i64 0] 102 (0,0))):=hbx
 clear b1 hbx
 go_wp2_with (refine wpList_store_row rfl 102 (.tmp 2) (.tmp 4) rfl w.heap.size #[.int .i64 (s:Int),.int .i64 v,.int .i64 m] rfl rfl 102 #[.int .i64 0,.int .i64 0,.int .i64 0] HBX.out (info_sign _ _ _) rfl (one_sign _ _ _) ?_)
 have hs2:=setRow_heap w1 w.heap.size _ #[.int .i64 (s:Int),.int .i64 v,.int .i64 m] _ _ HBX.out
 refine bodyPost_ret_by (results_cell_row (p:=2) (ty:=102) (by kernel_rfl) _ _ w.heap.size 102 _ (0,0) _ rfl hs2 Tryz.underlying102 rfl (by kernel_rfl)) rfl ⟨rfl,?_⟩
 exact HB1.out.trans (bl_setRow _ _ _)
end Go.Proofs.YtejebodgfoihkaaGreat
