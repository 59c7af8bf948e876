/- Texts laid together: DfSignS, TyIter, TySpec, BpMove, BpImplTop, TyColl, NfSym, NfRun, NfLens, NfLol, NfBody, NfPlain, NfFixed. -/
import Derived.Test.YtejebodgfoihkaaGreatKFInflateTwox0a
import Derived.Test.YtejebodgfoihkaaGreatVFInflateTwoDfRuleS
import Derived.Test.YtejebodgfoihkaaGreatVFInflateTwoTyTok2
import Derived.Test.YtejebodgfoihkaaGreatVFInflateTwoBpPut
import Derived.Test.YtejebodgfoihkaaGreatKFInflateTwox0
import Derived.Test.YtejebodgfoihkaaGreatVFInflateTwoTkSpec
import Derived.Test.YtejebodgfoihkaaGreatVFInflateTwoBpNextL
import Derived.Maps.AppendAt
import Derived.Test.YtejebodgfoihkaaGreatVFInflateTwoDfRuleI
import Derived.Deep.RegionHeld
import Derived.Deep.Cut
import Derived.Deep.CutRange
/- The symbol of a size and of a distance, and its further bits: the specification's. -/
namespace Go.Proofs.YtejebodgfoihkaaGreat
open Go.RowKit

def SzIs (x:Nat) (w:World) (e:Ending) (w':World):Prop:=e=.returned (.tuple #[.int .i64 ((257+Df.szSym x:Nat):Int),.agg #[.int .i64 (Df.szBit x).1,.int .i64 (Df.szBit x).2]])∧Below w.heap.size w w'
def DsIs (x:Nat) (w:World) (e:Ending) (w':World):Prop:=e=.returned (.tuple #[.int .i64 ((Df.dsSym x:Nat):Int),.agg #[.int .i64 (Df.dsBit x).1,.int .i64 (Df.dsBit x).2]])∧Below w.heap.size w w'
theorem szIs_mk {x k L M:Nat} (w:World) (o:Obj) (hd:Df.szSym x=k) (hL:(Df.szN k).1=L) (hM:(Df.szN k).2=M):SzIs x w (.returned (.tuple #[.int .i64 ((257+k:Nat):Int),.agg #[.int .i64 ((x-L:Nat):Int),.int .i64 (M:Int)]])) (w.alloc o):=by
 subst hd hL hM
 exact⟨rfl,(Below.refl _ _).alloc (Nat.le_refl _) _⟩
theorem dsIs_mk {x k L M:Nat} (w:World) (o:Obj) (hd:Df.dsSym x=k) (hL:(Df.dsN k).1=L) (hM:(Df.dsN k).2=M):DsIs x w (.returned (.tuple #[.int .i64 (k:Int),.agg #[.int .i64 ((x-L:Nat):Int),.int .i64 (M:Int)]])) (w.alloc o):=by
 subst hd hL hM
 exact⟨rfl,(Below.refl _ _).alloc (Nat.le_refl _) _⟩

set_option maxHeartbeats 2000000 in
theorem l5Size_any (x:Nat) (h3:3≤x) (hx:x≤258) (w:World):
 Calls Tryz.prog 74 #[.int .i64 (x:Int)] w (SzIs x w):=by
 go_enter Tryz.func74,Tryz.ntmps74
 go_wp2_with fail
 go_loopw [4] (fun i wr=>∃(k S:Nat),k<29∧S=257+k∧i=.int .i64 (S:Int)∧Hid (Df.szSym x=Df.down (fun k=>(Df.szN k).1) x k)∧wr=w.alloc (.cells #[.int .i64 0,.int .i64 0] 38)) (fun i _=>(intOf i).toNat)
 case atStart=>exact⟨28,285,by omega,rfl,rfl,rfl,rfl⟩
 case round=>
  obtain⟨k,S,hk,hS,rfl,HD,hw⟩:=hrel
  subst hw
  have HS:Hid (S=257+k):=hS
  have hS1:257≤S:=by omega
  have hS2:S≤285:=by omega
  have hSi:(257:Int)≤(S:Int):=by omega
  have HC:Hid (Calls Tryz.prog 100 #[.int .i64 (S:Int)] (w.alloc (.cells #[.int .i64 0,.int .i64 0] 38)) fun e w'=>e=.returned (.tuple #[.int .i64 (((Df.szN k).1:Nat):Int),.int .i64 (((Df.szN k).2:Nat):Int)])∧w'=w.alloc (.cells #[.int .i64 0,.int .i64 0] 38)):=by rw[hS];exact l4Size_any k hk _
  obtain⟨hb1,hb2,hb3⟩:=Df.szN_all k hk
  obtain⟨L,hL⟩:∃L,(Df.szN k).1=L:=⟨_,rfl⟩
  obtain⟨M,hM⟩:∃M,(Df.szN k).2=M:=⟨_,rfl⟩
  have HL:Hid ((Df.szN k).1=L∧(Df.szN k).2=M):=⟨hL,hM⟩
  rw[hL,hM] at HC
  rw[hL] at hb1 hb2
  rw[hM] at hb3
  clear hL hM hS
  go_wp2_with fail
  refine HC.out.mono ?_
  rintro e w2 ⟨rfl,hw2⟩
  subst hw2
  clear HC
  by_cases hge:L≤x
  · have hgi:decide ((x:Int)≥(L:Int))=true:=by simp;omega
    have hsub:(x:Int)-(L:Int)=((x-L:Nat):Int):=by omega
    have HF:Hid (SzIs x w (.returned (.tuple #[.int .i64 (S:Int),.agg #[.int .i64 ((x-L:Nat):Int),.int .i64 (M:Int)]])) (w.alloc (.cells #[.int .i64 ((x-L:Nat):Int),.int .i64 (M:Int)] 38))):=by
     rw[HS.out]
     exact szIs_mk w _ (by rw[HD.out];exact Df.down_yes (f:=fun k=>(Df.szN k).1) (by show (Df.szN k).1≤x;rw[HL.out.1];exact hge)) HL.out.1 HL.out.2
    clear HL HD HS
    obtain⟨V,hV⟩:∃V,x-L=V:=⟨_,rfl⟩
    rw[hV] at hsub HF
    have hVb:V≤258:=by omega
    clear hV
    go_wp2_with fail
    exact bodyPost_ret (v:=.tuple #[.int .i64 (S:Int),.agg #[.int .i64 (V:Int),.int .i64 (M:Int)]]) (by simp[results,Tryz.results74,go_sem]) rfl HF.out
  have hgi:decide ((x:Int)≥(L:Int))=false:=by simp;omega
  have hk0:k≠0:=fun h0=>by
   have:=HL.out.1
   rw[h0] at this
   have h9:(Df.szN 0).1=3:=by decide
   omega
  have HD2:Hid (Df.szSym x=Df.down (fun k=>(Df.szN k).1) x (k-1)):=by
   obtain⟨j,rfl⟩:∃j,k=j+1:=⟨k-1,by omega⟩
   show _=_
   rw[HD.out,Df.down_no (f:=fun k=>(Df.szN k).1) (by show ¬(Df.szN (j+1)).1≤x;rw[HL.out.1];exact hge)]
   rfl
  have hs9:S-1=257+(k-1):=by have:=HS.out;omega
  have HS9:Hid (S-1=257+(k-1)):=hs9
  clear HL HD HS hs9
  go_wp2_with fail
  go_roundw
  case rel=>exact⟨k-1,S-1,by omega,HS9.out,by go_num,HD2,by trivial⟩
  case measure=>simp[intOf];omega

set_option maxHeartbeats 2000000 in
theorem l5Dist_any (x:Nat) (h3:1≤x) (hx:x≤30000) (w:World):
 Calls Tryz.prog 75 #[.int .i64 (x:Int)] w (DsIs x w):=by
 go_enter Tryz.func75,Tryz.ntmps75
 go_wp2_with fail
 go_loopw [4] (fun i wr=>∃(k:Nat),k<30∧i=.int .i64 (k:Int)∧Hid (Df.dsSym x=Df.down (fun k=>(Df.dsN k).1) x k)∧(k=0→x<2)∧wr=w.alloc (.cells #[.int .i64 0,.int .i64 0] 38)) (fun i _=>(intOf i).toNat)
 case atStart=>exact⟨29,by omega,rfl,rfl,(fun h=>by omega),rfl⟩
 case round=>
  obtain⟨k,hk,rfl,HD,hx2,hw⟩:=hrel
  subst hw
  by_cases hk0:k=0
  · subst hk0
    obtain rfl:x=1:=by have:=hx2 rfl;omega
    have HF1:Hid (DsIs 1 w (.returned (.tuple #[.int .i64 0,.agg #[.int .i64 0,.int .i64 0]])) (w.alloc (.cells #[.int .i64 0,.int .i64 0] 38))):=dsIs_mk (k:=0) (L:=1) (M:=0) w _ (by decide) (by decide) (by decide)
    clear hx2 HD
    go_wp2_with fail
    exact bodyPost_ret (v:=.tuple #[.int .i64 0,.agg #[.int .i64 0,.int .i64 0]]) (by simp[results,Tryz.results75,go_sem]) rfl HF1.out
  clear hx2
  have HC:Hid (Calls Tryz.prog 101 #[.int .i64 (k:Int)] (w.alloc (.cells #[.int .i64 0,.int .i64 0] 38)) fun e w'=>e=.returned (.tuple #[.int .i64 (((Df.dsN k).1:Nat):Int),.int .i64 (((Df.dsN k).2:Nat):Int)])∧w'=w.alloc (.cells #[.int .i64 0,.int .i64 0] 38)):=l4Dist_any k hk _
  obtain⟨hb1,hb2,hb3⟩:=Df.dsN_all k hk
  obtain⟨L,hL⟩:∃L,(Df.dsN k).1=L:=⟨_,rfl⟩
  obtain⟨M,hM⟩:∃M,(Df.dsN k).2=M:=⟨_,rfl⟩
  have HL:Hid ((Df.dsN k).1=L∧(Df.dsN k).2=M):=⟨hL,hM⟩
  rw[hL,hM] at HC
  rw[hL] at hb1 hb2
  rw[hM] at hb3
  clear hL hM
  have hki:(0:Int)<(k:Int):=by omega
  go_wp2_with fail
  refine HC.out.mono ?_
  rintro e w2 ⟨rfl,hw2⟩
  subst hw2
  clear HC
  by_cases hge:L≤x
  · have hgi:decide ((x:Int)≥(L:Int))=true:=by simp;omega
    have hsub:(x:Int)-(L:Int)=((x-L:Nat):Int):=by omega
    have HF:Hid (DsIs x w (.returned (.tuple #[.int .i64 (k:Int),.agg #[.int .i64 ((x-L:Nat):Int),.int .i64 (M:Int)]])) (w.alloc (.cells #[.int .i64 ((x-L:Nat):Int),.int .i64 (M:Int)] 38))):=dsIs_mk w _ (by rw[HD.out];exact Df.down_yes (f:=fun k=>(Df.dsN k).1) (by show (Df.dsN k).1≤x;rw[HL.out.1];exact hge)) HL.out.1 HL.out.2
    clear HL HD
    obtain⟨V,hV⟩:∃V,x-L=V:=⟨_,rfl⟩
    rw[hV] at hsub HF
    have hVb:V≤30000:=by omega
    clear hV
    go_wp2_with fail
    exact bodyPost_ret (v:=.tuple #[.int .i64 (k:Int),.agg #[.int .i64 (V:Int),.int .i64 (M:Int)]]) (by simp[results,Tryz.results75,go_sem]) rfl HF.out
  have hgi:decide ((x:Int)≥(L:Int))=false:=by simp;omega
  have HD2:Hid (Df.dsSym x=Df.down (fun k=>(Df.dsN k).1) x (k-1)):=by
   obtain⟨j,rfl⟩:∃j,k=j+1:=⟨k-1,by omega⟩
   show _=_
   rw[HD.out,Df.down_no (f:=fun k=>(Df.dsN k).1) (by show ¬(Df.dsN (j+1)).1≤x;rw[HL.out.1];exact hge)]
   rfl
  have hx3:k-1=0→x<2:=fun h=>by
   have h1:=HL.out.1
   rw[show k=1 by omega] at h1
   have h9:(Df.dsN 1).1=2:=by decide
   omega
  have HX3:Hid (k-1=0→x<2):=hx3
  clear HL HD hx3
  go_wp2_with fail
  go_roundw
  case rel=>exact⟨k-1,by omega,by go_num,HD2,HX3.out,by trivial⟩
  case measure=>simp[intOf];omega
end Go.Proofs.YtejebodgfoihkaaGreat
namespace Go.Proofs.YtejebodgfoihkaaGreat
open Go.RowKit Go.Shelf Go.Maps

attribute [local go_sem] Oper.semAt_some

structure KpT (Bt m:Nat) (W W':World):Prop where
 size:W.heap.size≤W'.heap.size
 late:∀k,m≤k→k<W.heap.size→W'.heap[k]?=W.heap[k]?
 mine:∀(k:Nat) (o:Obj),W.heap[k]?=some o→¬Stays o→W'.heap[k]?=some o
 text:W'.heap[Bt]?=W.heap[Bt]?
theorem Seen.keptT {s:ByteArray} {B A Bt m:Nat} {W W':World} (h:Seen s B A W) (k:KpT Bt m W W'):Seen s B A W':=by
 obtain⟨es,clock,hb⟩:=h.map
 exact h.kept ((k.mine B _ hb (fun q=>q)).trans hb.symm) (fun j cs fr hj=>k.mine j _ hj (fun q=>q rfl))
theorem tok_parts (s:ByteArray) (A:Nat):∃(t0 t2:Int) (k:Nat),Ty.tok s A=(t0,(k:Int),t2)∧(Ty.adv s A=if 1<k then k else 1)∧k≤258:=by
 unfold Ty.tok Ty.adv
 by_cases h:3≤(Ty.bst s A A).1
 · rw[if_pos h,if_pos h]
   exact⟨_,_,_,rfl,by rw[if_pos (by omega)],Ty.bst_le s A A⟩
 rw[if_neg h,if_neg h]
 exact⟨_,_,0,rfl,rfl,by omega⟩

set_option maxRecDepth 100000 in
set_option maxHeartbeats 4000000 in
theorem tokensIn1_in (n:Nat) (hn:1≤n) (l Bt:Nat) (s:ByteArray) (hs:s.size≤5000) (J:List Tk→Nat→World→Prop) (W:World)
 (hJT:∀pre m X Y,J pre m X→Tn W.heap.size X Y→J pre m Y)
 (hY:∀pre x m W1,J pre m W1→m≤W1.heap.size→pre.length<5000→YieldAt Fence.wide (n-1) Tryz.prog l #[tkV x] W1 fun e W'=>e=.returned (.bool true)∧J (pre++[x]) W'.heap.size W'∧KpT Bt m W1 W')
 (hbt:Bt<W.heap.size) (hc:W.cell? ⟨Bt,0,none⟩=some (.string s)) (h0:J [] W.heap.size W):
 CallsIn Fence.wide n Tryz.prog 30 #[.func (.yield l) #[] #[],.pointer (some ⟨Bt,0,none⟩)] W fun e W'=>(∃v,e=.returned v)∧∃m,J (Ty.from_ s 0) m W':=by
 have hro:Fence.wide.round=none:=rfl
 have HY:Hid (∀(pre:List Tk) (x:Tk) (m:Nat) (W1:World),J pre m W1→m≤W1.heap.size→pre.length<5000→YieldAt Fence.wide (n-1) Tryz.prog l #[tkV x] W1 fun e W'=>e=.returned (.bool true)∧J (pre++[x]) W'.heap.size W'∧KpT Bt m W1 W'):=hY
 have HJ:Hid (∀(pre:List Tk) (m:Nat) (X Y:World),J pre m X→Tn W.heap.size X Y→J pre m Y):=hJT
 have HTK:Hid (∀(A:Nat) (w:World),A<s.size→Seen s W.heap.size A w→Calls Tryz.prog 31 #[.map (some W.heap.size),.string s,.int .i64 (A:Int)] w (TokEnd s A w)):=fun A w hA hS=>by
  by_cases h3:A+3≤s.size
  · exact token_yes s _ A w (by omega) h3 hS
  exact token_no s _ A w (by omega) hA h3
 have HAD:Hid (∀(A:Nat) (w:World),A<s.size→Seen s W.heap.size A w→Calls Tryz.prog 32 #[.map (some W.heap.size),.string s,.int .i64 (A:Int)] w (AddEnd s W.heap.size A w)):=fun A w hA hS=>add_any s _ A w (by omega) hA hS
 have HS0:Hid (Seen s W.heap.size 0 (W.alloc (.map #[] 0))):=seen_start s W
 have hb0:Below W.heap.size W (W.alloc (.map #[] 0)):=(Below.refl _ _).alloc (Nat.le_refl _) _
 have HJ0:Hid (J [] W.heap.size (W.alloc (.map #[] 0))):=hJT _ _ _ _ h0 (Tn.below hb0 (Nat.le_refl _) (Nat.le_refl _))
 have hc0:(W.alloc (.map #[] 0)).cell? ⟨Bt,0,none⟩=some (.string s):=(hb0.cell (p:=⟨Bt,0,none⟩) hbt).trans hc
 have hmm:=@run_makeMap Tryz.prog
 clear hY hJT h0
 refine callsIn_of_wp Tryz.func30 rfl trivial ?_ hro
 simp only[Tryz.ntmps30,List.size_toArray,List.length_cons,List.length_nil,Nat.reduceAdd,Nat.reduceSub,Array.replicate_succ,Array.replicate_zero,List.push_toArray,List.append_toArray,List.nil_append,List.cons_append]
 gi_wp2
 gi_loopw [4] (fun i wr=>∃(A m:Nat) (pre:List Tk),A≤s.size∧pre.length≤A∧i=.int .i64 (A:Int)∧Hid (Ty.from_ s 0=pre++Ty.from_ s A)∧Hid (J pre m wr)∧m≤wr.heap.size∧Hid (Seen s W.heap.size A wr)∧W.heap.size+1≤wr.heap.size∧wr.cell? ⟨Bt,0,none⟩=some (.string s))
  (fun i _=>s.size-(intOf i).toNat)
 case atStart=>exact⟨0,W.heap.size,[],Nat.zero_le _,Nat.zero_le _,rfl,rfl,HJ0,by simp,HS0,by simp,hc0⟩
 case round=>
  obtain⟨A,m,pre,hA,hpre,rfl,HX,HJk,hm,HSk,hBw,hck⟩:=hrel
  clear HS0 hb0 HJ0 hc0 hmm
  by_cases hlt:A<s.size
  · have hlti:(A:Int)<(s.size:Int):=by omega
    obtain⟨t0,t2,k,htok,hadv,hk⟩:=tok_parts s A
    have HX2:Hid (Ty.from_ s 0=(pre++[Ty.tok s A])++Ty.from_ s (A+Ty.adv s A)):=by
     show _=_
     rw[HX.out,Ty.from_step hlt,List.append_assoc];rfl
    have hin:=Ty.adv_in hlt
    have hav:=Ty.adv_pos s A
    have HTKc:Hid (Calls Tryz.prog 31 #[.map (some W.heap.size),.string s,.int .i64 (A:Int)] wr fun e w'=>e=.returned (.agg #[.int .i64 t0,.int .i64 (k:Int),.int .i64 t2])∧Below wr.heap.size wr w'):=by
     have h:=HTK.out A wr hlt HSk.out
     unfold TokEnd at h
     rw[htok] at h
     exact h
    rw[htok] at HX2
    generalize Ty.adv s A=av at*
    clear htok HX
    gi_wp2
    refine⟨trivial,?_⟩
    gi_wp2
    refine (callsIn_wide.2 HTKc.out).mono ?_
    rintro e w1 ⟨rfl,b1⟩
    obtain⟨w2,hw2⟩:∃w2,w2=w1.alloc (.cells #[.int .i64 t0,.int .i64 (k:Int),.int .i64 t2] 53):=⟨_,rfl⟩
    have b2:Below wr.heap.size wr w2:=by rw[hw2];exact b1.alloc b1.size _
    have HJ2:J pre m w2:=HJ.out _ _ _ _ HJk.out (Tn.below b2 (by omega) (Nat.le_refl _))
    have hs2:w2.heap.size=w1.heap.size+1:=by rw[hw2];simp
    have hS2:Seen s W.heap.size A w2:=HSk.out.below b2 (Nat.le_refl _)
    have htv:w2.heap[w1.heap.size]?=some (.cells #[.int .i64 t0,.int .i64 (k:Int),.int .i64 t2] 53 (0,0)):=by rw[hw2];exact heap_alloc_new _ _
    have hc2:w2.cell? ⟨Bt,0,none⟩=some (.string s):=(b2.cell (p:=⟨Bt,0,none⟩) (by show Bt<_;omega)).trans hck
    have hs1:=b1.size
    obtain⟨fn,tmps,assign,body,hy,hR⟩:=HY.out pre (t0,(k:Int),t2) m w2 HJ2 (by omega) (by omega)
    dsimp only[tkV] at hy
    rw[hw2] at hy
    gi_wp2
    rw[←hw2]
    refine hR.mono ?_
    rintro e W3 ⟨rfl,hJ3,hk3⟩
    have hS3:=hS2.keptT hk3
    have htv3:=(hk3.late w1.heap.size (by omega) (by omega)).trans htv
    have hc3:W3.cell? ⟨Bt,0,none⟩=some (.string s):=(World.cell?_of_block (w:=w2) (a:=⟨Bt,0,none⟩) hk3.text).trans hc2
    have cz:W3.cell? ⟨w1.heap.size,1,none⟩=some (.int .i64 (k:Int)):=by simp[World.cell?,htv3]
    have hs3:W.heap.size+1≤W3.heap.size:=by have:=hk3.size;omega
    obtain⟨E,hE⟩:∃E,E=A+av:=⟨_,rfl⟩
    have hEb:E≤s.size:=by omega
    by_cases h1k:(1:Int)>(k:Int)
    · have eE:(A:Int)+1=(E:Int):=by rw[if_neg (by omega)] at hadv;omega
      have HJ3:Hid (J (pre++[(t0,(k:Int),t2)]) W3.heap.size W3):=hJ3
      have HS3:Hid (Seen s W.heap.size A W3):=hS3
      have hpl:(pre++[(t0,(k:Int),t2)]).length≤A+1:=by rw[List.length_append];show pre.length+1≤_;omega
      have HE:Hid (E=A+av):=hE
      have hAE:A+1≤E:=by omega
      clear hE hadv hin hav hJ3 hS3 hk3 htv htv3 hS2 HJ2 HTKc HTK HY b1 b2 hR hy HSk HJk hw2
      generalize pre++[(t0,(k:Int),t2)]=pre2 at*
      gi_wp2
      gi_loopw [4] (fun i wr2=>∃a:Nat,A≤a∧a≤E∧i=.int .i64 (a:Int)∧Hid (J pre2 W3.heap.size wr2)∧W3.heap.size≤wr2.heap.size∧Hid (Seen s W.heap.size a wr2)∧wr2.cell? ⟨Bt,0,none⟩=some (.string s)) (fun i _=>E-(intOf i).toNat)
      case atStart=>exact⟨A,Nat.le_refl _,by omega,rfl,HJ3,Nat.le_refl _,HS3,hc3⟩
      case round=>
       obtain⟨a,ha1,ha2,rfl,HJa,hsa,HSa,hca⟩:=hrel
       by_cases haE:a<E
       · have haEi:(a:Int)<(E:Int):=by omega
         have HADa:Hid (Calls Tryz.prog 32 #[.map (some W.heap.size),.string s,.int .i64 (a:Int)] wr (AddEnd s W.heap.size a wr)):=HAD.out a wr (by omega) HSa.out
         gi_wp2
         refine⟨trivial,?_⟩
         gi_wp2
         refine (callsIn_wide.2 HADa.out).mono ?_
         rintro e w5 ⟨⟨v5,rfl⟩,hS5,hT5⟩
         have HS5:Hid (Seen s W.heap.size (a+1) w5):=hS5
         have HJ5:Hid (J pre2 W3.heap.size w5):=HJ.out _ _ _ _ HJa.out hT5
         have hs5:=hT5.size
         have hc5:w5.cell? ⟨Bt,0,none⟩=some (.string s):=(World.cell?_of_block (w:=wr) (a:=⟨Bt,0,none⟩) (hT5.low.block Bt hbt)).trans hca
         clear hS5 hT5 HADa
         gi_wp2
         go_roundw
         case rel=>exact⟨a+1,by omega,by omega,by go_num,HJ5,by omega,HS5,hc5⟩
         case measure=>simp[intOf];omega
       have haEi:¬(a:Int)<(E:Int):=by omega
       have haE2:a=E:=by omega
       subst haE2
       gi_wp2
       go_roundw
       case rel=>exact⟨a,W3.heap.size,pre2,by omega,by omega,rfl,by rw[HE.out];exact HX2,HJa,by omega,HSa,by omega,hca⟩
       case measure=>simp[intOf];omega
    have eE:(A:Int)+(k:Int)=(E:Int):=by
     by_cases h2:1<k
     · rw[if_pos h2] at hadv;omega
     rw[if_neg h2] at hadv;omega
    have HJ3:Hid (J (pre++[(t0,(k:Int),t2)]) W3.heap.size W3):=hJ3
    have HS3:Hid (Seen s W.heap.size A W3):=hS3
    have hpl:(pre++[(t0,(k:Int),t2)]).length≤A+1:=by rw[List.length_append];show pre.length+1≤_;omega
    have HE:Hid (E=A+av):=hE
    have hAE:A+1≤E:=by omega
    clear hE hadv hin hav hJ3 hS3 hk3 htv htv3 hS2 HJ2 HTKc HTK HY b1 b2 hR hy HSk HJk hw2
    generalize pre++[(t0,(k:Int),t2)]=pre2 at*
    gi_wp2
    gi_loopw [4] (fun i wr2=>∃a:Nat,A≤a∧a≤E∧i=.int .i64 (a:Int)∧Hid (J pre2 W3.heap.size wr2)∧W3.heap.size≤wr2.heap.size∧Hid (Seen s W.heap.size a wr2)∧wr2.cell? ⟨Bt,0,none⟩=some (.string s)) (fun i _=>E-(intOf i).toNat)
    case atStart=>exact⟨A,Nat.le_refl _,by omega,rfl,HJ3,Nat.le_refl _,HS3,hc3⟩
    case round=>
     obtain⟨a,ha1,ha2,rfl,HJa,hsa,HSa,hca⟩:=hrel
     by_cases haE:a<E
     · have haEi:(a:Int)<(E:Int):=by omega
       have HADa:Hid (Calls Tryz.prog 32 #[.map (some W.heap.size),.string s,.int .i64 (a:Int)] wr (AddEnd s W.heap.size a wr)):=HAD.out a wr (by omega) HSa.out
       gi_wp2
       refine⟨trivial,?_⟩
       gi_wp2
       refine (callsIn_wide.2 HADa.out).mono ?_
       rintro e w5 ⟨⟨v5,rfl⟩,hS5,hT5⟩
       have HS5:Hid (Seen s W.heap.size (a+1) w5):=hS5
       have HJ5:Hid (J pre2 W3.heap.size w5):=HJ.out _ _ _ _ HJa.out hT5
       have hs5:=hT5.size
       have hc5:w5.cell? ⟨Bt,0,none⟩=some (.string s):=(World.cell?_of_block (w:=wr) (a:=⟨Bt,0,none⟩) (hT5.low.block Bt hbt)).trans hca
       clear hS5 hT5 HADa
       gi_wp2
       go_roundw
       case rel=>exact⟨a+1,by omega,by omega,by go_num,HJ5,by omega,HS5,hc5⟩
       case measure=>simp[intOf];omega
     have haEi:¬(a:Int)<(E:Int):=by omega
     have haE2:a=E:=by omega
     subst haE2
     gi_wp2
     go_roundw
     case rel=>exact⟨a,W3.heap.size,pre2,by omega,by omega,rfl,by rw[HE.out];exact HX2,HJa,by omega,HSa,by omega,hca⟩
     case measure=>simp[intOf];omega
  have hlti:¬(A:Int)<(s.size:Int):=by omega
  have HE:Hid (∃m,J (Ty.from_ s 0) m wr):=⟨m,by rw[HX.out,Ty.from_end hlt,List.append_nil];exact HJk.out⟩
  gi_wp2
  go_end0
  exact⟨⟨_,rfl⟩,HE.out⟩
end Go.Proofs.YtejebodgfoihkaaGreat
namespace Go.Proofs.YtejebodgfoihkaaGreat
open Go.RowKit

set_option maxHeartbeats 2000000 in
set_option maxRecDepth 20000 in
theorem l5Match_is (s:ByteArray) (a c:Nat) (w:World) (hs:s.size≤9001) (hab:a≤c) (hb:c≤s.size):
 Calls Tryz.prog 102 #[.string s,.int .i64 (a:Int),.int .i64 (c:Int)] w fun e w'=>e=.returned (.int .i64 ((Ty.mat s a c 258:Nat):Int))∧∃q,w'=w.drewN q:=by
 go_enter Tryz.func102,Tryz.ntmps102
 go_wp2_with fail
 go_loopw [7] (fun i wr=>∃n q:Nat,n≤258∧c+n≤s.size∧i=.int .i64 (n:Int)∧Hid (Ty.mat s a c 258=n+Ty.mat s (a+n) (c+n) (258-n))∧Hid (wr=w.drewN q)) (fun i _=>258-(intOf i).toNat)
 case atStart=>exact⟨0,0,by omega,by omega,rfl,by show _=_;simp,rfl⟩
 case round=>
  obtain⟨n,q,hn,hbn,rfl,HM,HW⟩:=hrel
  by_cases h1:n<258
  · have d1:decide ((n:Int)<258)=true:=decide_eq_true (by omega)
    obtain⟨B,hB⟩:∃B,B=c+n:=⟨_,rfl⟩
    have eB:(c:Int)+(n:Int)=(B:Int):=by omega
    have fB:=wrap_i64_nat B (by omega)
    obtain⟨A,hA⟩:∃A,A=a+n:=⟨_,rfl⟩
    have eA:(a:Int)+(n:Int)=(A:Int):=by omega
    have fA:=wrap_i64_nat A (by omega)
    by_cases h2:B<s.size
    · have d2:decide ((B:Int)<(s.size:Int))=true:=decide_eq_true (by omega)
      have hA2:A<s.size:=by omega
      have hAi:(A:Int)<(s.size:Int):=by omega
      have hBi:(B:Int)<(s.size:Int):=by omega
      have hBn:c+(n+1)≤s.size:=by omega
      by_cases h3:(s[A]).toNat=(s[B]).toNat
      · have HM2:Hid (Ty.mat s a c 258=(n+1)+Ty.mat s (a+(n+1)) (c+(n+1)) (258-(n+1))):=by
         show _=_
         rw[HM.out,show 258-n=(258-(n+1))+1 by omega,Ty.mat_yes (by omega) (by rw[←hA,←hB,Ty.b_at hA2,Ty.b_at h2,h3]),show a+n+1=a+(n+1) by omega,show c+n+1=c+(n+1) by omega]
         omega
        have d3:(((s[A]).toNat:Int)==((s[B]).toNat:Int))=true:=by rw[beq_iff_eq];omega
        clear h3 hB hA HM
        go_wp2_with fail
        go_quiet (fail)
        go_wp2_with fail
        go_roundw
        case rel=>exact⟨n+1,q+nq,by omega,hBn,by go_num,HM2,by show _=_;rw[HW.out,World.drewN_drewN]⟩
        case measure=>simp[intOf];omega
      have HM2:Hid (Ty.mat s a c 258=n):=by
       show _=_
       rw[HM.out,Ty.mat_no (by rw[←hA,←hB,Ty.b_at hA2,Ty.b_at h2];exact fun h=>h3 h.2)];rfl
      have d3:(((s[A]).toNat:Int)==((s[B]).toNat:Int))=false:=by rw[beq_eq_false_iff_ne];omega
      clear h3 hB hA HM
      go_wp2_with fail
      go_quiet (fail)
      go_wp2_with fail
      go_ret
      exact⟨by rw[HM2.out];rfl,q+nq,by rw[HW.out,World.drewN_drewN]⟩
    have d2:decide ((B:Int)<(s.size:Int))=false:=decide_eq_false (by omega)
    have HM2:Hid (Ty.mat s a c 258=n):=by
     show _=_
     rw[HM.out,Ty.mat_no (by rw[←hB];exact fun h=>h2 h.1)];rfl
    clear hB hA HM
    go_wp2_with fail
    go_quiet (fail)
    go_wp2_with fail
    go_ret
    exact⟨by rw[HM2.out];rfl,q+nq,by rw[HW.out,World.drewN_drewN]⟩
  have d1:decide ((n:Int)<258)=false:=decide_eq_false (by omega)
  have HM2:Hid (Ty.mat s a c 258=n):=by
   show _=_
   rw[HM.out,show 258-n=0 by omega];rfl
  clear HM
  go_wp2_with fail
  go_quiet (fail)
  go_wp2_with fail
  go_ret
  exact⟨by rw[HM2.out];rfl,q+nq,by rw[HW.out,World.drewN_drewN]⟩

def BestIs (s:ByteArray) (A:Nat) (w:World) (e:Ending) (w':World):Prop:=e=.returned (.tuple #[.int .i64 (((Ty.bst s A A).1:Nat):Int),.int .i64 (((Ty.bst s A A).2:Nat):Int)])∧∃q,w'=w.drewN q
set_option maxHeartbeats 2000000 in
set_option maxRecDepth 20000 in
theorem l5Best_is (s:ByteArray) (A:Nat) (w:World) (hs:s.size≤9001) (hA:A≤s.size):
 Calls Tryz.prog 76 #[.string s,.int .i64 (A:Int)] w (BestIs s A w):=by
 have HM:Hid (∀(a:Nat) (w:World),a≤A→Calls Tryz.prog 102 #[.string s,.int .i64 (a:Int),.int .i64 (A:Int)] w fun e w'=>e=.returned (.int .i64 ((Ty.mat s a A 258:Nat):Int))∧∃q,w'=w.drewN q):=fun a w h=>l5Match_is s a A w hs h hA
 go_enter Tryz.func76,Tryz.ntmps76
 go_wp2_with fail
 go_loopw [6,7,8] (fun n d i wr=>∃N D k q:Nat,n=.int .i64 (N:Int)∧d=.int .i64 (D:Int)∧i=.int .i64 ((k+1:Nat):Int)∧k≤A∧Hid (Ty.bst s A k=(N,D))∧Hid (wr=w.drewN q)) (fun _ _ i _=>A+1-(intOf i).toNat)
 case atStart=>exact⟨0,0,0,0,rfl,rfl,rfl,by omega,rfl,rfl⟩
 case round=>
  obtain⟨N,D,k,q,rfl,rfl,rfl,hk2,HB,HW⟩:=hrel
  obtain⟨k1,hk1⟩:∃k1,k1=k+1:=⟨_,rfl⟩
  rw[←hk1]
  have hk1b:k1≤A+1:=by omega
  by_cases hk:k1≤A
  · have hki:(k1:Int)≤(A:Int):=by omega
    obtain⟨a,ha⟩:∃a,a=A-k1:=⟨_,rfl⟩
    have ea:(A:Int)-(k1:Int)=(a:Int):=by omega
    have HMC:=HM.out a wr (by omega)
    obtain⟨n,hn⟩:∃n,n=Ty.mat s a A 258:=⟨_,rfl⟩
    rw[←hn] at HMC
    have HMH:Hid (Calls Tryz.prog 102 #[.string s,.int .i64 (a:Int),.int .i64 (A:Int)] wr fun e w'=>e=.returned (.int .i64 (n:Int))∧∃q,w'=wr.drewN q):=HMC
    have hn1:n≤258:=by rw[hn];exact Ty.mat_le _ _ _ _
    have HB2:Hid (Ty.bst s A (k+1)=if N<n then (n,k1) else (N,D)):=by
     show _=_
     rw[Ty.bst,HB.out,Ty.upd,←hk1,←ha,←hn]
     show (if N<n then (n,A-a) else (N,D))=_
     rw[show A-a=k1 by omega]
    have hK1:Hid (k1=k+1):=hk1
    clear HMC ha hn HB hk1
    go_wp2_with fail
    refine HMH.out.mono ?_
    rintro e w2 ⟨rfl,q2,hq2⟩
    have HW2:Hid (w2=w.drewN (q+q2)):=by show _=_;rw[hq2,HW.out,World.drewN_drewN]
    clear hq2 HMH
    by_cases hgt:N<n
    · have hgti:(N:Int)<(n:Int):=by omega
      go_wp2_with fail
      go_roundw
      case rel=>exact⟨n,k1,k1,q+q2,rfl,rfl,by go_num,by omega,by show _=_;rw[hK1.out,HB2.out,if_pos hgt,hK1.out],HW2.out⟩
      case measure=>simp[intOf];omega
    have hgti:¬(N:Int)<(n:Int):=by omega
    go_wp2_with fail
    go_roundw
    case rel=>exact⟨N,D,k1,q+q2,rfl,rfl,by go_num,by omega,by show _=_;rw[hK1.out,HB2.out,if_neg hgt],HW2.out⟩
    case measure=>simp[intOf];omega
  have hki:¬(k1:Int)≤(A:Int):=by omega
  have hkA:k=A:=by omega
  have HB3:Ty.bst s A A=(N,D):=by rw[←HB.out,hkA]
  have HF:Hid (BestIs s A w (.returned (.tuple #[.int .i64 (N:Int),.int .i64 (D:Int)])) wr):=⟨by rw[HB3],q,HW.out⟩
  clear hkA hk1 HB HB3
  go_wp2_with fail
  exact bodyPost_ret (v:=.tuple #[.int .i64 (N:Int),.int .i64 (D:Int)]) (by simp[results,Tryz.results76,go_sem]) rfl HF.out

def TkIs (w:World) (l:List Tk) (e:Ending) (w':World):Prop:=
 ∃(ao:Option Addr) (cap:Nat),e=.returned (.slice ao l.length cap)∧OwnK w' w.heap.size (.slice ao l.length cap) l.length l∧Below w.heap.size w w'

set_option maxHeartbeats 2000000 in
set_option maxRecDepth 20000 in
theorem l5Tokens_is (s:ByteArray) (w:World) (hs:s.size≤5000):
 Calls Tryz.prog 44 #[.string s] w (TkIs w (Ty.from_ s 0)):=by
 have HE:Hid (OwnK (w.alloc (.cells #[] 53)) w.heap.size (.slice (some ⟨w.heap.size,0,none⟩) 0 0) 0 []):=tk_own_none w
 have HM:Hid (∀(A:Nat) (w:World),A≤s.size→Calls Tryz.prog 76 #[.string s,.int .i64 (A:Int)] w (BestIs s A w)):=fun A w h=>l5Best_is s A w (by omega) h
 obtain⟨i0,hi0,hz0,hz1,hz2⟩:=info_parts info_tok
 go_enter Tryz.func44,Tryz.ntmps44
 go_wp2_with fail
 go_loopw [3,4] (fun o i wr=>∃(A:Nat) (l:List Tk) (ao:Option Addr) (cap:Nat),A≤s.size∧l.length≤A∧i=.int .i64 (A:Int)∧o=.slice ao l.length cap∧Hid (Ty.from_ s 0=l++Ty.from_ s A)∧Hid (OwnK wr w.heap.size (.slice ao l.length cap) l.length l∧Below w.heap.size w wr)) (fun _ i _=>s.size-(intOf i).toNat)
 case atStart=>exact⟨0,[],_,_,Nat.zero_le _,Nat.zero_le _,rfl,rfl,rfl,HE.out,(Below.refl _ _).alloc (Nat.le_refl _) _⟩
 case round=>
  obtain⟨A,l,ao,cap,hA,hlA,rfl,rfl,HX,HS⟩:=hrel
  clear HE
  by_cases hlt:A<s.size
  · have hlti:(A:Int)<(s.size:Int):=by omega
    have hbst:=Ty.bst_le s A A
    have hadv:=Ty.adv_in hlt
    have HX2:Hid (Ty.from_ s 0=(l++[Ty.tok s A])++Ty.from_ s (A+Ty.adv s A)):=by
     show _=_
     rw[HX.out,Ty.from_step hlt,List.append_assoc];rfl
    have hT:Ty.tok s A=if 3≤(Ty.bst s A A).1 then (0,((Ty.bst s A A).1:Int),((Ty.bst s A A).2:Int)) else ((Ty.b s A:Int),0,0):=rfl
    have hV:Ty.adv s A=if 3≤(Ty.bst s A A).1 then (Ty.bst s A A).1 else 1:=rfl
    have HMC:=HM.out A wr hA
    unfold BestIs at HMC
    generalize Ty.tok s A=tk at*
    generalize Ty.adv s A=av at*
    generalize Ty.bst s A A=nd at*
    obtain⟨n,d⟩:=nd
    dsimp only at HMC hT hV hbst
    have HMH:Hid (Calls Tryz.prog 76 #[.string s,.int .i64 (A:Int)] wr fun e w'=>e=.returned (.tuple #[.int .i64 (n:Int),.int .i64 (d:Int)])∧∃q,w'=wr.drewN q):=HMC
    clear HMC HX
    go_wp2_with fail
    refine HMH.out.mono ?_
    rintro e w2 ⟨rfl,q2,hq2⟩
    have hown:OwnK w2 w.heap.size (.slice ao l.length cap) l.length l:=by rw[hq2];exact HS.out.1
    have hbel:Below w.heap.size w w2:=by rw[hq2];exact below_drewN HS.out.2 q2
    have hbs:w.heap.size≤w2.heap.size:=hbel.size
    have hlt0:=World.ownsRow.lt (show World.ownsRow _ _ _ _ _ _ _ from hown)
    have hm63:l.length+1≤maxLen:=by unfold maxLen;omega
    have hlen:(l.length+1)*24≤140737488355328:=by omega
    clear hq2 HMH HS
    by_cases hn3:n<3
    · have hn3i:(n:Int)<3:=by omega
      rw[if_neg (by omega)] at hT hV
      rw[Ty.b_at hlt] at hT
      obtain⟨c,hc⟩:∃c:Nat,c=(s[A]).toNat:=⟨_,rfl⟩
      have hcb:c<256:=by rw[hc];exact UInt8.toNat_lt _
      rw[←hc] at hT
      rw[hT,hV] at HX2
      have hc':(s[A]).toNat=c:=hc.symm
      have hone:∀u∈[Value.int .i64 (c:Int),Value.int .i64 0,Value.int .i64 0],u.oneCell'=true:=by intro u hu;simp at hu;rcases hu with rfl|rfl|rfl<;>rfl
      clear hc hT hV
      go_wp2_with (at_builtin;refine wpList_append_lies _ (by rfl) _ _ _ (by rfl) w.heap.size 53 i0 (.agg #[.int .i64 0,.int .i64 0,.int .i64 0]) 3 24 Tryz.underlying51 hi0 hz0 hz1 hz2 rfl (by decide) _ l.length (tkCells l) (by rfl) (World.ownsRow.alloc (show World.ownsRow _ _ _ _ _ _ _ from hown) _) ⟨w2.heap.size,0,none⟩ 1 1 [.int .i64 (c:Int),.int .i64 0,.int .i64 0] (by rfl) rfl (World.news_of_block (heap_alloc_new _ _)) hone (by decide) hm63 hlen (by simp;omega) _ rfl ?_)
      intro g cap2 w4 hown4 hgrow hat hlt4
      have hb4:Below w.heap.size w w4:=(hbel.alloc hbs _).grown hgrow (by simp;omega) (fun k hk=>(hlt0 k hk).1)
      have HF4:Hid (OwnK w4 w.heap.size (.slice (some ⟨g,0,none⟩) (l.length+1) cap2) (l.length+1) (l++[((c:Int),0,0)])∧Below w.heap.size w w4):=⟨OwnK.more hown4,hb4⟩
      clear hown4 hgrow hat hlt0 hown hbel hone hm63 hlen hlt4 hb4
      go_wp2_with fail
      go_roundw
      case rel=>exact⟨A+1,l++[((c:Int),0,0)],some ⟨g,0,none⟩,cap2,by omega,by rw[List.length_append];show l.length+1≤_;omega,by go_num,by rw[List.length_append];rfl,HX2,by rw[List.length_append];exact HF4.out⟩
      case measure=>simp[intOf];omega
    have hn3i:¬(n:Int)<3:=by omega
    rw[if_pos (by omega)] at hT hV
    rw[hT,hV] at HX2
    have hAn:A+n≤s.size:=by omega
    have hone:∀u∈[Value.int .i64 0,Value.int .i64 (n:Int),Value.int .i64 (d:Int)],u.oneCell'=true:=by intro u hu;simp at hu;rcases hu with rfl|rfl|rfl<;>rfl
    clear hT hV hadv
    go_wp2_with (at_builtin;refine wpList_append_lies _ (by rfl) _ _ _ (by rfl) w.heap.size 53 i0 (.agg #[.int .i64 0,.int .i64 0,.int .i64 0]) 3 24 Tryz.underlying51 hi0 hz0 hz1 hz2 rfl (by decide) _ l.length (tkCells l) (by rfl) (World.ownsRow.alloc (show World.ownsRow _ _ _ _ _ _ _ from hown) _) ⟨w2.heap.size,0,none⟩ 1 1 [.int .i64 0,.int .i64 (n:Int),.int .i64 (d:Int)] (by rfl) rfl (World.news_of_block (heap_alloc_new _ _)) hone (by decide) hm63 hlen (by simp;omega) _ rfl ?_)
    intro g cap2 w4 hown4 hgrow hat hlt4
    have hb4:Below w.heap.size w w4:=(hbel.alloc hbs _).grown hgrow (by simp;omega) (fun k hk=>(hlt0 k hk).1)
    have HF4:Hid (OwnK w4 w.heap.size (.slice (some ⟨g,0,none⟩) (l.length+1) cap2) (l.length+1) (l++[(0,(n:Int),(d:Int))])∧Below w.heap.size w w4):=⟨OwnK.more hown4,hb4⟩
    clear hown4 hgrow hat hlt0 hown hbel hone hm63 hlen hlt4 hb4
    go_wp2_with fail
    go_roundw
    case rel=>exact⟨A+n,l++[(0,(n:Int),(d:Int))],some ⟨g,0,none⟩,cap2,by omega,by rw[List.length_append];show l.length+1≤_;omega,by go_num,by rw[List.length_append];rfl,HX2,by rw[List.length_append];exact HF4.out⟩
    case measure=>simp[intOf];omega
  have hlti:¬(A:Int)<(s.size:Int):=by omega
  have HF:Hid (TkIs w (Ty.from_ s 0) (.returned (.slice ao l.length cap)) wr):=by
   have e:Ty.from_ s 0=l:=by rw[HX.out,Ty.from_end hlt,List.append_nil]
   rw[e]
   exact⟨ao,cap,rfl,HS.out.1,HS.out.2⟩
  clear HS HX
  go_wp2_with fail
  go_ret
  exact HF.out


theorem wmethod_room (a : Addr) (w : World) : (method 296 86 (.pointer (some a)) "loop.example/intarsia/impl.room").run Tryz.prog w = .ok (147, .pointer (some a)) w := by kernel_rfl
theorem wmethod_next (a : Addr) (w : World) : (method 296 86 (.pointer (some a)) "loop.example/intarsia/impl.next").run Tryz.prog w = .ok (146, .pointer (some a)) w := by kernel_rfl
theorem wahead_next (a : Addr) (w : World) : (nilAhead 296 86 (.pointer (some a)) "loop.example/intarsia/impl.next").run Tryz.prog w = .ok (some false) w := by kernel_rfl

theorem Writes.drew {w:World} {B N:Nat} {hi:Bool} {f:Nat→Nat} (h:Writes w B hi f N):Writes w.drew B hi f N:=⟨h.c0,h.c1,h.c2,h.f1,h.f2,h.lt⟩

theorem and_bit' (x q:Nat) (h:x<4294967296):bits .and .i64 ((x:Int) / 2^q) 1=((x / 2^q%2:Nat):Int):=by
 have e:(x:Int) / 2^q=((x / 2^q:Nat):Int):=by simp
 have hl:x / 2^q≤x:=Nat.div_le_self _ _
 have:=i64_and_nat (x / 2^q) 1 (by omega) (by omega)
 rw[show ((1:Nat):Int)=1 from rfl] at this
 rw[e,this,nat_mask1]

set_option maxHeartbeats 400000 in
theorem wmove_no (B N S:Nat) (v:Int) (hi:Bool) (o:Value) (f:Nat→Nat) (w:World) (h:Writes w B hi f N) (hN:N≤72000) (hNS:72000<N+S):
 Calls Tryz.prog 40 #[.iface 86 (.pointer (some ⟨B,0,none⟩)),o,.int .i64 v,.int .i64 S] w fun e w'=>e=.returned (.tuple #[.int .i64 0,.bool false])∧w'=w:=by
 have m1:=fun w=>wmethod_room ⟨B,0,none⟩ w
 have HR:Hid (Writes w B hi f N):=h
 clear h
 go_enter Tryz.func40,Tryz.ntmps40
 go_wp2_with fail
 refine (wroom_any B N hi f w HR.out hN).mono ?_
 rintro e w1 ⟨rfl,hw1⟩
 subst hw1
 have hd:72000-(N:Int)<(S:Int):=by omega
 go_wp2_with fail
 go_ret2
 exact⟨rfl,rfl⟩

set_option maxHeartbeats 1000000 in
theorem wmove_low (B N V S:Nat) (f:Nat→Nat) (w:World) (h:Writes w B false f N) (hNS:N+S≤72000) (h24:S≤32) (hV:V<4294967296) (hf:∀i,f i<2) (hfb:∀q,q<S→f (N+q)=Bp.bitIn false V S q):
 Calls Tryz.prog 40 #[.iface 86 (.pointer (some ⟨B,0,none⟩)),.func (.func 69) #[] #[],.int .i64 V,.int .i64 S] w fun e w'=>(∃z,e=.returned (.tuple #[.int .i64 z,.bool true]))∧Writes w' B false f (N+S)∧Below B w w':=by
 have m1:=fun w=>wmethod_room ⟨B,0,none⟩ w
 have m2:=fun w=>wmethod_next ⟨B,0,none⟩ w
 have m3:=fun w=>wahead_next ⟨B,0,none⟩ w
 have HR:Hid (Writes w B false f N):=h
 have HF:Hid ((∀i,f i<2)∧∀q,q<S→f (N+q)=Bp.bitIn false V S q):=⟨hf,hfb⟩
 clear h hf hfb
 go_enter Tryz.func40,Tryz.ntmps40
 go_wp2_with fail
 refine (wroom_any B N false f w HR.out (by omega)).mono ?_
 rintro e w1 ⟨rfl,hw1⟩
 subst hw1
 have hd:decide (72000-(N:Int)<(S:Int))=false:=by simp;omega
 go_wp2_with fail
 go_loopw [10,18] (fun n i wr=>∃(k:Nat) (z:Int),k≤S∧i=.int .i64 k∧n=.int .i64 z∧Writes wr B false f (N+k)∧Below B w1 wr) (fun _ i _=>S-(intOf i).toNat)
 case atStart=>exact⟨0,0,Nat.zero_le _,rfl,rfl,HR.out,Below.refl _ _⟩
 case round=>
  obtain⟨k,z,hk,rfl,rfl,hWr,hbel⟩:=hrel
  clear HR
  by_cases hlt:k<S
  · obtain⟨bb,hbb⟩:∃bb,bb=Bp.bitIn false V S k:=⟨_,rfl⟩
    have hfk:=HF.out.2 k hlt
    rw[←hbb] at hfk
    have HXX:Hid (∀(w:World),Writes w B false f (N+k)→Calls Tryz.prog 146 #[.pointer (some ⟨B,0,none⟩),.int .i64 (bb:Int)] w fun e w'=>e=.returned (.int .i64 (bb:Int))∧Writes w' B false f (N+k+1)∧Below B w w'):=by
     intro w hw
     exact wnext_low B (N+k) bb f w hw (by omega) HF.out.1 hfk
    have HRD:Hid (Writes _ B false f (N+k)):=hWr
    have hab:bits .and .i64 ((V:Int) / 2^(k)) 1=(bb:Int):=by
     rw[and_bit' V (k) hV,hbb];rfl
    clear hWr hbb hfk
    go_wp2_with fail
    refine (order_low _ _ _).mono ?_
    rintro e w3 ⟨rfl,hw3⟩
    subst hw3
    go_wp2_with fail
    go_region_with (go_at_call 146;refine (HXX.out _ ?_).mono ?_;(repeat (first|exact HRD.out|refine Writes.drew ?_));rintro e w4 ⟨rfl,hR4,b4⟩)
    all_goals have hb4:=hbel.trans ((Below.refl B w3).drew.trans b4)
    all_goals clear b4 hbel HRD HXX
    all_goals go_wp2_with fail
    all_goals
     go_roundw
     case rel=>exact⟨k+1,_,by omega,by go_num,rfl,hR4,hb4⟩
     case measure=>simp[intOf];omega
  have hk':k=S:=by omega
  subst hk'
  go_wp2_with fail
  go_ret2
  exact⟨⟨_,rfl⟩,hWr,hbel⟩

theorem own_kept {w w':World} {B L:Nat} {v:Value} {o:List Nat} (h:OwnB w B v L o) (hb:Below w.heap.size w w'):OwnB w' B v L o:=by
 refine⟨h.1,?_⟩
 rcases h.2 with h2|⟨g,cap,cur,hv,hg,hh,r⟩
 · exact .inl h2
 have hlt:g<w.heap.size:=by
  rcases Nat.lt_or_ge g w.heap.size with hlt|hge
  · exact hlt
  rw[Array.getElem?_eq_none hge] at hh;cases hh
 exact .inr ⟨g,cap,cur,hv,hg,by rw[hb.block g hlt];exact hh,r⟩

theorem Writes.kept {w w':World} {B N:Nat} {hi:Bool} {f:Nat→Nat} (h:Writes w B hi f N) (hb:Below w.heap.size w w'):Writes w' B hi f N:=by
 obtain⟨k0,⟨v,L,k1,hown,hL⟩,k2,kf1,kf2,klt⟩:=h
 exact⟨(hb.cell (p:=⟨B,0,none⟩) klt).trans k0,⟨v,L,(hb.cell (p:=⟨B,1,none⟩) klt).trans k1,own_kept hown hb,hL⟩,(hb.cell (p:=⟨B,2,none⟩) klt).trans k2,
  (hb.frozen (p:=⟨B,1,none⟩) klt).trans kf1,(hb.frozen (p:=⟨B,2,none⟩) klt).trans kf2,Nat.lt_of_lt_of_le klt hb.size⟩

theorem writes_new (w:World) (hi:Bool) (f:Nat→Nat) (T:TypeId):Writes (w.alloc (.cells #[ordV hi,.slice none 0 0,.int .i64 0] T)) w.heap.size hi f 0:=by
 refine⟨?_,⟨.slice none 0 0,0,?_,?_,rfl⟩,?_,?_,?_,by simp⟩
 · rw[World.cell?_alloc_at _ _ _ _ rfl];rfl
 · rw[World.cell?_alloc_at _ _ _ _ rfl];rfl
 · exact World.ownsRow_nil _ _ _ _
 · rw[World.cell?_alloc_at _ _ _ _ rfl];rfl
 · rw[World.frozen?_alloc_at _ _ _ _ rfl]
 rw[World.frozen?_alloc_at _ _ _ _ rfl]

theorem orderOf_any (hi:Bool) (w:World):Calls Tryz.prog 38 #[.bool hi] w fun e w'=>e=.returned (ordV hi)∧w'=w:=by
 cases hi
 · exact orderOf_low w
 exact orderOf_high w

theorem shr_zero (V S:Nat) (h:V<2^S):((V:Int) / 2^S==0)=true:=by
 have e:(V:Int) / 2^S=((V / 2^S:Nat):Int):=by simp
 rw[e,Nat.div_eq_of_lt h];rfl
theorem shr_more (V S:Nat) (h:¬V<2^S):((V:Int) / 2^S==0)=false:=by
 have e:(V:Int) / 2^S=((V / 2^S:Nat):Int):=by simp
 have hp:0<V / 2^S:=Nat.div_pos (by omega) (Nat.pow_pos (by omega))
 rw[e,beq_eq_false_iff_ne];omega

set_option maxHeartbeats 1000000 in
theorem bitOk_any (p:Int×Int) (w:World) (h1:-9223372036854775808≤p.1) (h2:p.1≤9223372036854775807):
 Calls Tryz.prog 39 #[.agg #[.int .i64 p.1,.int .i64 p.2]] w fun e w'=>e=.returned (.bool (Bp.okB p))∧Below w.heap.size w w':=by
 obtain⟨v,s⟩:=p
 simp only at h1 h2 ⊢
 by_cases a1:0≤s
 · have d1:decide (0≤s)=true:=by simpa using a1
   by_cases a2:s≤24
   · have d2:decide (s≤24)=true:=by simpa using a2
     by_cases a3:0≤v
     · have d3:decide (0≤v)=true:=by simpa using a3
       obtain⟨S,rfl⟩:=Int.eq_ofNat_of_zero_le a1
       obtain⟨V,rfl⟩:=Int.eq_ofNat_of_zero_le a3
       by_cases a4:V<2^S
       · have hok:Bp.okB ((V:Int),(S:Int))=true:=Bp.okB_true ⟨a1,a2,a3,by
          show (V:Int).toNat<2^(S:Int).toNat
          rw[Int.toNat_natCast,Int.toNat_natCast];exact a4⟩
         have hz:=shr_zero V S a4
         have HO:Hid (Bp.okB ((V:Int),(S:Int))=true):=hok
         have hS24:S≤24:=by omega
         clear hok a4 a1 a2 a3
         go_enter Tryz.func39,Tryz.ntmps39
         go_wp2_with fail
         go_ret
         exact⟨by rw[HO.out];rfl,(Below.refl _ _).alloc (Nat.le_refl _) _⟩
       have hok:Bp.okB ((V:Int),(S:Int))=false:=Bp.okB_false (fun g=>a4 (by
        have h4:(V:Int).toNat<2^(S:Int).toNat:=g.2.2.2
        rw[Int.toNat_natCast,Int.toNat_natCast] at h4;exact h4))
       have hz:=shr_more V S a4
       have HO:Hid (Bp.okB ((V:Int),(S:Int))=false):=hok
       have hS24:S≤24:=by omega
       clear hok a4 a1 a2 a3
       go_enter Tryz.func39,Tryz.ntmps39
       go_wp2_with fail
       go_ret
       exact⟨by rw[HO.out];rfl,(Below.refl _ _).alloc (Nat.le_refl _) _⟩
     have d3:decide (0≤v)=false:=by simpa using a3
     have HO:Hid (Bp.okB (v,s)=false):=Bp.okB_false (fun g=>a3 g.2.2.1)
     clear a3
     go_enter Tryz.func39,Tryz.ntmps39
     go_wp2_with fail
     go_ret
     exact⟨by rw[HO.out];rfl,(Below.refl _ _).alloc (Nat.le_refl _) _⟩
   have d2:decide (s≤24)=false:=by simpa using a2
   have HO:Hid (Bp.okB (v,s)=false):=Bp.okB_false (fun g=>a2 g.2.1)
   clear a2
   go_enter Tryz.func39,Tryz.ntmps39
   go_wp2_with fail
   go_ret
   exact⟨by rw[HO.out];rfl,(Below.refl _ _).alloc (Nat.le_refl _) _⟩
 have d1:decide (0≤s)=false:=by simpa using a1
 have HO:Hid (Bp.okB (v,s)=false):=Bp.okB_false (fun g=>a1 g.1)
 clear a1
 go_enter Tryz.func39,Tryz.ntmps39
 go_wp2_with fail
 go_ret
 exact⟨by rw[HO.out];rfl,(Below.refl _ _).alloc (Nat.le_refl _) _⟩
end Go.Proofs.YtejebodgfoihkaaGreat
namespace Go.Proofs.YtejebodgfoihkaaGreat
open Go.RowKit Go.Shelf Go.Maps

attribute [local go_sem] Oper.semAt_some

def TcI (w0:World) (pre:List Tk) (m:Nat) (W:World):Prop:=
 (∃v,Boxed W w0.heap.size 51 v∧OwnK W w0.heap.size v pre.length pre∧(v=.slice none 0 0↔pre=[])∧∀j,v.ownBlock=some j→j<m)∧Below w0.heap.size w0 W
theorem ownK_block {W:World} {B n j:Nat} {v:Value} {l:List Tk} (h:OwnK W B v n l) (e:v.ownBlock=some j):B≤j∧∃cur,W.heap[j]?=some (.cells cur 53 (0,0)):=by
 rcases h.2 with⟨rfl,_⟩|⟨g,cap,cur,rfl,hg,hgb,_⟩
 · simp[Value.ownBlock] at e
 obtain rfl:g=j:=by simpa [Value.ownBlock] using e
 exact⟨hg,cur,hgb⟩
theorem TcI.grown {w0:World} {pre:List Tk} {m:Nat} {X Y:World} {row:Option Nat} (h:TcI w0 pre m X) (hg:X.grownBy Y row) (hr:∀r,row=some r→w0.heap.size+1≤r∧∃o:Obj,X.heap[r]?=some o∧o.isCells=false):TcI w0 pre m Y:=by
 obtain⟨⟨v,hv,ho,hn,hm⟩,hb⟩:=h
 refine⟨⟨v,hv.kept hg (fun e=>by have:=(hr _ e.symm).1;omega),World.ownsRow.kept (show World.ownsRow _ _ _ _ _ _ _ from ho) hg ?_,hn,hm⟩,hb.grown hg hb.size (fun r e=>by have:=(hr r e).1;omega)⟩
 cases hv':v.ownBlock with
 | none=>exact .inl rfl
 | some j=>
  refine .inr (fun e=>?_)
  obtain⟨_,cur,hc⟩:=ownK_block ho hv'
  obtain⟨_,o,ho',hcells⟩:=hr j e.symm
  rw[hc] at ho';cases ho';cases hcells
theorem TcI.turn {w0:World} {pre:List Tk} {m B:Nat} {X Y:World} (h:TcI w0 pre m X) (hB:w0.heap.size+1≤B) (ht:Tn B X Y):TcI w0 pre m Y:=by
 obtain⟨⟨v,hv,ho,hn,hm⟩,hb⟩:=h
 refine⟨⟨v,(ht.low.block _ (by omega)).trans hv,⟨ho.1,?_⟩,hn,hm⟩,hb.trans (ht.low.mono (by omega))⟩
 rcases ho.2 with h2|⟨g,cap,cur,hv,hg,hh,r⟩
 · exact .inl h2
 exact .inr ⟨g,cap,cur,hv,hg,ht.same g _ hh (by show (53:TypeId)≠3;decide),r⟩

theorem KpT.trans {Bt m:Nat} {X Y Z:World} (h:KpT Bt m X Y) (k:KpT Bt m Y Z):KpT Bt m X Z:=
 ⟨Nat.le_trans h.size k.size,fun i h1 h2=>(k.late i h1 (by have:=h.size;omega)).trans (h.late i h1 h2),fun i o h1 h2=>k.mine i o (h.mine i o h1 h2) h2,k.text.trans h.text⟩
theorem KpT.alloc {Bt m:Nat} (X:World) (o:Obj) (hb:Bt<X.heap.size):KpT Bt m X (X.alloc o):=
 ⟨by simp,fun k _ h=>Below.heap_alloc X o k h,fun k _ h _=>(Below.heap_alloc X o k (Array.getElem?_eq_some_iff.1 h).1).trans h,Below.heap_alloc X o Bt hb⟩
theorem KpT.book {Bt m l:Nat} {X:World} {L:Loop} (o':Obj) (h:X.heap[l]?=some (.loop L)) (hm:l<m) (hb:Bt≠l):KpT Bt m X (X.putObj l o'):=
 ⟨by simp,fun k h1 _=>World.putObj_heap_other (by omega),fun k o h1 h2=>by
  by_cases e:k=l
  · subst e;rw[h] at h1;cases h1;exact absurd trivial h2
  exact (World.putObj_heap_other (by omega)).trans h1,World.putObj_heap_other (by omega)⟩
def tokPost (B Bt m:Nat) (w0:World) (xs:List Tk) (W:World):Exit→Act→World→Prop
 | .normal,_,W'=>KeepsFrom B W W'∧KpT Bt m W W'∧TcI w0 xs W'.heap.size W'
 | _,_,_=>False

set_option maxHeartbeats 1000000 in
theorem rangeTok {g:Operand} {ps:Array Tmp} {assign body:Code} {Q:Exit→Act→World→Prop} {a:Act} {w w0:World} {Bt:Nat} {s:ByteArray} (hs:s.size≤5000)
 (hg:a.eval g=.func (.func 30) #[] #[.pointer (some ⟨Bt,0,none⟩)]) (hps:ps.size=1) (hw:w.heap.size=w0.heap.size+1) (h0:TcI w0 [] (w0.heap.size+3) w) (hbt:Bt<w0.heap.size) (hc:w.cell? ⟨Bt,0,none⟩=some (.string s))
 (a₁:Tk→World→Act)
 (hassign:∀(l:Nat) (x:Tk) (W:World) (K:Act→World→Prop),K (a₁ x W) (W.alloc (.cells #[.int .i64 x.1,.int .i64 x.2.1,.int .i64 x.2.2] 53))→
  assign.wpIn (Fence.wide.inRound l) 0 Tryz.prog (Exit.then K (fun _ _ _=>False)) { tmps:=(ps.zip #[tkV x]).foldl (fun t (p,v)=>t.setIfInBounds p v) a.tmps,defers:=[] } W)
 (hbody:∀(l:Nat) (pre:List Tk) (x:Tk) (m:Nat) (W Wb:World),TcI w0 pre m Wb→w0.heap.size+3≤m→m≤W.heap.size→Wb.heap.size=W.heap.size+1→Wb.heap[W.heap.size]?=some (.cells #[.int .i64 x.1,.int .i64 x.2.1,.int .i64 x.2.2] 53 (0,0))→pre.length<5000→
  body.wpIn (Fence.wide.inRound l) 0 Tryz.prog (tokPost w.heap.size Bt m w0 (pre++[x]) Wb) (a₁ x W) Wb)
 (hdone:∀(D:Nat) (W:World) (m:Nat),w.heap.size≤D→TcI w0 (Ty.from_ s 0) m W→W.heap[D]?=some (.deferred (some []))→Q .normal { a with defers:={ target:=.collected D,args:=#[] }::a.defers } W):
 (Code.rangeFunc g ps assign body).wpIn Fence.wide 2 Tryz.prog Q a w:=by
 have hro:Fence.wide.round=none:=rfl
 have eg:∀args w,(callFunc 30 args).run Tryz.prog w=.ok (.enter 30 args) w:=enters_of Tryz.func30 (by kernel_rfl) rfl
 refine wpIn_rangeFunc ?_
 intro fn hfn
 rw[hro]
 obtain⟨rec,hrec⟩:∃rec:LoopState→Option Code→Loop,rec=fun st pe=>{ state:=st,pending:=pe,fn,tmps:=a.tmps,params:=ps,assign,body,defers:=w.heap.size }:=⟨_,rfl⟩
 obtain⟨W1,hW1⟩:∃W1,(w.alloc (.deferred (some []))).alloc (.loop (rec .ready none))=W1:=⟨_,rfl⟩
 have hL1:W1.heap[w.heap.size+1]?=some (.loop (rec .ready none)):=by
  rw[←hW1];have:=heap_alloc_new (w.alloc (.deferred (some []))) (.loop (rec .ready none));rwa [World.size_alloc] at this
 have hK1:W1.heap[w.heap.size]?=some (.deferred (some [])):=by
  rw[←hW1];exact (Below.heap_alloc _ _ _ (by simp)).trans (heap_alloc_new w _)
 have hs1:W1.heap.size=w0.heap.size+3:=by rw[←hW1,World.size_alloc,World.size_alloc,hw]
 have hI1:TcI w0 [] W1.heap.size W1:=by
  rw[hs1,←hW1]
  exact (h0.grown (World.grownBy_alloc w _ none) (fun r e=>by cases e)).grown (World.grownBy_alloc _ _ none) (fun r e=>by cases e)
 have hb1:Below w.heap.size w W1:=by rw[←hW1];exact ((Below.refl _ w).alloc (Nat.le_refl _) _).alloc (by simp) _
 have hc1:W1.cell? ⟨Bt,0,none⟩=some (.string s):=(hb1.cell (p:=⟨Bt,0,none⟩) (by show Bt<_;omega)).trans hc
 refine⟨w.heap.size+1,[{ target:=.collected w.heap.size,args:=#[] }],W1,{ target:=.fn (.func 30) #[.pointer (some ⟨Bt,0,none⟩)],args:=#[.func (.yield (w.heap.size+1)) #[] #[]] },W1,30,
  #[.func (.yield (w.heap.size+1)) #[] #[],.pointer (some ⟨Bt,0,none⟩)],W1,?_,?_,?_,?_,fun _=>by omega,?_⟩
 · rw[←hW1,hrec];exact run_enterLoop_outer _ _ _ _ _
 · simp only[resolve,hg]
   simp[go_sem]
 · intro f' hf';simp[Target.leads] at hf';subst hf';trivial
 · simp[invoke,go_sem,eg]
 refine (tokensIn1_in 1 (Nat.le_refl _) (w.heap.size+1) Bt s hs
  (fun pre m W=>TcI w0 pre m W∧w0.heap.size+3≤m∧W.heap[w.heap.size+1]?=some (.loop (rec .ready none))∧W.heap[w.heap.size]?=some (.deferred (some [])))
  W1 ?_ ?_ (by omega) hc1 ⟨hI1,by omega,hL1,hK1⟩).mono ?_
 · rintro pre m X Y ⟨k1,k2,k3,k4⟩ ht
   exact⟨k1.turn (by omega) ht,k2,ht.same _ _ k3 trivial,ht.same _ _ k4 trivial⟩
 · rintro pre x m W ⟨hi,hm3,hl,hk⟩ hm hlen
   have hlt:w.heap.size+1<W.heap.size:=(Array.getElem?_eq_some_iff.1 hl).1
   have hy:=run_yield (P:=Tryz.prog) (args:=#[tkV x]) hl (by rw[hrec];simp[hps])
   rw[hrec] at hy
   obtain⟨Wa,hWa⟩:∃Wa,Wa=W.alloc (.cells #[.int .i64 x.1,.int .i64 x.2.1,.int .i64 x.2.2] 53):=⟨_,rfl⟩
   have hla:Wa.heap[w.heap.size+1]?=some (.loop (rec .ready none)):=by rw[hWa];exact (Below.heap_alloc _ _ _ hlt).trans hl
   have hka:Wa.heap[w.heap.size]?=some (.deferred (some [])):=by rw[hWa];exact (Below.heap_alloc _ _ _ (by omega)).trans hk
   have hia:TcI w0 pre m Wa:=by rw[hWa];exact hi.grown (World.grownBy_alloc _ _ none) (fun r e=>by cases e)
   have hsa:Wa.heap.size=W.heap.size+1:=by rw[hWa];simp
   have hna:Wa.heap[W.heap.size]?=some (.cells #[.int .i64 x.1,.int .i64 x.2.1,.int .i64 x.2.2] 53 (0,0)):=by rw[hWa];exact heap_alloc_new _ _
   have hkpa:KpT Bt m W Wa:=by rw[hWa];exact KpT.alloc _ _ (by omega)
   refine⟨fn,_,assign,body,hy,roundIn_of_wpIn hfn (hassign _ x W _ ?_)⟩
   rw[←hWa]
   refine⟨_,run_beginRound hla (by rw[hrec]),?_⟩
   have hl2:(Wa.putObj (w.heap.size+1) (.loop { rec .ready none with state:=.busy })).heap[w.heap.size+1]?=some (.loop { rec .ready none with state:=.busy }):=World.putObj_heap_same (by omega)
   have hk2:(Wa.putObj (w.heap.size+1) (.loop { rec .ready none with state:=.busy })).heap[w.heap.size]?=some (.deferred (some [])):=(World.putObj_heap_other (by omega)).trans hka
   have hkp2:=KpT.book (Bt:=Bt) (m:=m) (.loop { rec .ready none with state:=.busy }) hla (by omega) (by omega)
   have hi2:TcI w0 pre m (Wa.putObj (w.heap.size+1) (.loop { rec .ready none with state:=.busy })):=hia.grown (grownBy_putObj' _ _ _) (fun r e=>by cases e;exact⟨by omega,_,hla,rfl⟩)
   refine wpIn_mono (hbody _ pre x m W _ hi2 hm3 hm (by simp[hsa]) ((World.putObj_heap_other (by omega)).trans hna) hlen) ?_
   rintro e a3 W3 hp
   cases e with
   | normal=>
    obtain⟨hk3,hkp3,hi3⟩:=hp
    have hl3:=hk3.same _ _ (by omega) hl2 rfl
    have hr:=run_endRound (P:=Tryz.prog) none hl3
    have hl4:(W3.putObj (w.heap.size+1) (.loop (rec .ready none))).heap[w.heap.size+1]?=some (.loop (rec .ready none)):=World.putObj_heap_same (Array.getElem?_eq_some_iff.1 hl3).1
    have hk4:(W3.putObj (w.heap.size+1) (.loop (rec .ready none))).heap[w.heap.size]?=some (.deferred (some [])):=(World.putObj_heap_other (by omega)).trans (hk3.same _ _ (Nat.le_refl _) hk2 rfl)
    have hs3:=hkp3.size
    have hr':(Instr.endRound (w.heap.size+1) none).run Tryz.prog W3=.ok (.bool true) (W3.putObj (w.heap.size+1) (.loop (rec .ready none))):=by rw[hrec] at hr ⊢;exact hr
    have hsz:(W3.putObj (w.heap.size+1) (.loop (rec .ready none))).heap.size=W3.heap.size:=by simp
    have hsb:Wa.heap.size≤(Wa.putObj (w.heap.size+1) (.loop { rec .ready none with state:=.busy })).heap.size:=by simp
    refine⟨_,_,hr',rfl,⟨?_,?_,hl4,hk4⟩,?_⟩
    · rw[hsz]
      exact hi3.grown (grownBy_putObj' W3 (w.heap.size+1) (.loop (rec .ready none))) (fun r e=>by cases e;exact⟨by omega,_,hl3,rfl⟩)
    · have h9:=Nat.le_trans hsb hs3
      have e9:(W3.putObj (w.heap.size+1) (.loop (rec .ready none))).heap.size=W3.heap.size:=hsz
      show w0.heap.size+3≤(W3.putObj (w.heap.size+1) (.loop (rec .ready none))).heap.size
      omega
    · exact (hkpa.trans hkp2).trans (hkp3.trans (KpT.book (.loop (rec .ready none)) hl3 (by omega) (by omega)))
   | ret=>exact hp.elim
   | exit id=>exact hp.elim
   | goto t=>exact hp.elim
   | panic ch=>exact hp.elim
   | outgrown=>exact hp.elim
 rintro e W2 ⟨⟨v,rfl⟩,m,hi,_,hl,hk⟩
 refine⟨none,_,by have:=run_endLoop (P:=Tryz.prog) hl (by rw[hrec];simp);rw[hrec] at this;exact this,hdone _ _ m (Nat.le_refl _) ?_ ?_⟩
 · exact hi.grown (grownBy_putObj' _ _ _) (fun r e=>by cases e;exact⟨by omega,_,hl,rfl⟩)
 exact (World.putObj_heap_other (by omega)).trans hk

set_option maxRecDepth 100000 in
set_option maxHeartbeats 4000000 in
theorem appendTok_in (Bt:Nat) (s:ByteArray) (hs:s.size≤5000) (w:World) (hbt:Bt<w.heap.size) (hc:w.cell? ⟨Bt,0,none⟩=some (.string s)):
 CallsIn Fence.wide 2 Tryz.prog 67 #[.slice none 0 0,.func (.func 30) #[] #[.pointer (some ⟨Bt,0,none⟩)]] w fun e W'=>∃v,e=.returned v∧OwnK W' w.heap.size v (Ty.from_ s 0).length (Ty.from_ s 0)∧(v=.slice none 0 0↔Ty.from_ s 0=[])∧Below w.heap.size w W':=by
 have hro:Fence.wide.round=none:=rfl
 obtain⟨i0,hi,hz0,hz1,hz2⟩:=info_parts info_tok
 refine callsIn_of_wp_marks Tryz.func67 rfl trivial ?_ hro
 simp only[Tryz.ntmps67,List.size_toArray,List.length_cons,List.length_nil,Nat.reduceAdd,Nat.reduceSub,Array.replicate_succ,Array.replicate_zero,List.push_toArray,List.append_toArray,List.nil_append,List.cons_append]
 gi_wp2
 have bO:=Boxed.new w 51 (.slice none 0 0)
 have hB0:Below w.heap.size w (w.alloc (.cells #[.slice none 0 0] 51)):=(Below.refl _ w).alloc (Nat.le_refl _) _
 have hI0:TcI w [] (w.heap.size+3) (w.alloc (.cells #[.slice none 0 0] 51)):=⟨⟨_,bO,World.ownsRow_nil _ _ _ _,by simp,fun j e=>by simp[Value.ownBlock] at e⟩,hB0⟩
 have hsz:(w.alloc (.cells #[.slice none 0 0] 51)).heap.size=w.heap.size+1:=by simp
 have hc0:(w.alloc (.cells #[.slice none 0 0] 51)).cell? ⟨Bt,0,none⟩=some (.string s):=(hB0.cell (p:=⟨Bt,0,none⟩) hbt).trans hc
 generalize w.alloc (.cells #[.slice none 0 0] 51)=w' at*
 refine rangeTok (Bt:=Bt) (s:=s) (w0:=w) hs rfl rfl hsz hI0 hbt hc0
  (fun x W=>{ tmps:=#[.slice none 0 0,.func (.func 30) #[] #[.pointer (some ⟨Bt,0,none⟩)],.pointer (some ⟨w.heap.size,0,none⟩),undef,.slice none 0 0,.pointer (some ⟨W.heap.size,0,none⟩),.func (.func 30) #[] #[.pointer (some ⟨Bt,0,none⟩)],tkV x,undef,undef,undef,undef,undef],defers:=[] }) ?assign ?body ?done
 case assign=>
  intro l x W K hK
  dsimp only[tkV] at hK ⊢
  gi_wp2
  exact hK
 case body=>
  rintro l pre ⟨t0,t1,t2⟩ m W Wb ⟨⟨v,hv,ho,hnil,hvm⟩,hB⟩ hm3 hm hWb hx hlen
  dsimp only at hx
  have HWB:Hid (Wb.heap.size=W.heap.size+1):=hWb
  have hWs:w.heap.size≤Wb.heap.size:=by omega
  have hmW:m≤Wb.heap.size:=by omega
  clear hWb
  have hbc:=hv.cell
  obtain⟨⟨e0,e1,e2⟩,_⟩:=box3 hx
  have hml:=(show OwnK Wb w.heap.size v pre.length pre from ho)
  have hone:∀u∈[Value.int .i64 t0,Value.int .i64 t1,Value.int .i64 t2],u.oneCell'=true:=by intro u hu;simp at hu;rcases hu with rfl|rfl|rfl<;>rfl
  have h63:pre.length+1≤maxLen:=by unfold maxLen;omega
  dsimp only[tkV]
  gi_wp2_with (gi_at_builtin;refine wpListIn_append_own _ rfl _ _ 51 rfl w.heap.size 53 i0 (.agg #[.int .i64 0,.int .i64 0,.int .i64 0]) 3 24 Tryz.underlying51 hi hz0 hz1 hz2 rfl (by decide) _ _ _ rfl (World.ownsRow.alloc (show World.ownsRow _ _ _ _ _ _ _ from ho) _) ⟨Wb.heap.size,0,none⟩ 1 1 [.int .i64 t0,.int .i64 t1,.int .i64 t2] rfl rfl (World.news_of_block (heap_alloc_new _ _)) hone h63 (by omega) (by simp;omega) ?_;intro v' wB hown' hgrow hnil';obtain⟨g',cap',rfl⟩:=ownsRow_succ hown';have hvA:=(hv.alloc (.cells #[.int .i64 t0,.int .i64 t1,.int .i64 t2] 53)).kept hgrow (hv.not_row (by decide) (show World.ownsRow _ _ _ _ _ _ _ from ho));have hcA:=hvA.cell;have hfA:=hvA.frozen)
  obtain⟨_,hv2,hr2,hk2,hb2⟩:=hv.appended (by decide) (show World.ownsRow _ _ _ _ _ _ _ from ho) hWs (Nat.le_refl _) hown' hgrow
  obtain⟨W',hW'⟩:∃W',W'=wB.setCell ⟨w.heap.size,0,none⟩ (.slice (some ⟨g',0,none⟩) (pre.length+1) cap'):=⟨_,rfl⟩
  have hoth:∀k,k<Wb.heap.size→k≠w.heap.size→some k≠v.ownBlock→W'.heap[k]?=Wb.heap[k]?:=fun k h1 h2 h3=>by
   rw[hW']
   exact ((Below.heap_setCell wB ⟨w.heap.size,0,none⟩ _ k h2).trans (hgrow.block k (by simp;omega) h3)).trans (Below.heap_alloc _ _ _ h1)
  rw[←hW'] at hv2 hr2 hk2 hb2 ⊢
  refine⟨hk2.from _,⟨hk2.size,fun k h1 h2=>hoth k h2 (by omega) (fun e=>by have:=hvm k e.symm;omega),fun k o h1 h2=>?_,hb2.block Bt hbt⟩,⟨⟨_,hv2,?_,by simp,fun j e=>?_⟩,hB.trans hb2⟩⟩
  · refine (hoth k (Array.getElem?_eq_some_iff.1 h1).1 (fun e=>?_) (fun e=>?_)).trans h1
    · rw[e,show Wb.heap[w.heap.size]?=_ from hv] at h1
      cases h1
      exact h2 (by show (51:TypeId)≠3;decide)
    obtain⟨_,cur,hcur⟩:=ownK_block ho e.symm
    rw[hcur] at h1
    cases h1
    exact h2 (by show (53:TypeId)≠3;decide)
  · have h5:=OwnK.more hr2
    rw[List.length_append]
    exact h5
  have h6:=(World.ownsRow.lt hr2 j e).2
  exact h6
 case done=>
  rintro D W m hD ⟨⟨v,hv,ho,hnil,_⟩,hB⟩ hK
  have hbc:=hv.cell
  gi_wp2
  refine⟨by simp,.inl ⟨_,_,rfl,run_takeDeferred hK,?_⟩⟩
  exact⟨_,results_tmp rfl _ _ _,v,rfl,ownsRow_putObj (show World.ownsRow _ _ _ _ _ _ _ from ho) _ hK rfl,hnil,hB.trans (belowK_b (w:=w) (Nat.le_refl _) W D _ _ (by omega) hK rfl rfl)⟩

set_option maxHeartbeats 1000000 in
theorem collectTok (Bt:Nat) (s:ByteArray) (hs:s.size≤5000) (w:World) (hbt:Bt<w.heap.size) (hc:w.cell? ⟨Bt,0,none⟩=some (.string s)):
 Calls Tryz.prog 37 #[.func (.func 30) #[] #[.pointer (some ⟨Bt,0,none⟩)]] w fun e W'=>∃v,e=.returned v∧OwnK W' w.heap.size v (Ty.from_ s 0).length (Ty.from_ s 0)∧(v=.slice none 0 0↔Ty.from_ s 0=[])∧Below w.heap.size w W':=by
 have HA:Hid (Calls Tryz.prog 67 #[.slice none 0 0,.func (.func 30) #[] #[.pointer (some ⟨Bt,0,none⟩)]] w fun e W'=>∃v,e=.returned v∧OwnK W' w.heap.size v (Ty.from_ s 0).length (Ty.from_ s 0)∧(v=.slice none 0 0↔Ty.from_ s 0=[])∧Below w.heap.size w W'):=callsIn_wide.1 (appendTok_in Bt s hs w hbt hc)
 clear hbt hc
 go_enter Tryz.func37,Tryz.ntmps37
 go_wp2_with fail
 refine HA.out.mono ?_
 rintro e w' ⟨v,rfl,hv,hnil,hb⟩
 go_wp2_with fail
 go_ret
 exact⟨v,rfl,hv,hnil,hb⟩
set_option maxHeartbeats 1000000 in
theorem tokensIn_any (s:ByteArray) (w:World):
 Calls Tryz.prog 18 #[.string s] w fun e w'=>e=.returned (.func (.func 30) #[] #[.pointer (some ⟨w.heap.size,0,none⟩)])∧w'=w.alloc (.cells #[.string s] 9):=by
 go_enter Tryz.func18,Tryz.ntmps18
 go_wp2_with fail
 go_ret
 exact⟨rfl,rfl⟩
def TkImp (w:World) (l:List Tk) (e:Ending) (w':World):Prop:=
 ∃v:Value,e=.returned v∧OwnK w' w.heap.size v l.length l∧(v=.slice none 0 0↔l=[])∧Below w.heap.size w w'
set_option maxHeartbeats 1000000 in
theorem impl_tokensOf (s:ByteArray) (w:World) (hs:s.size≤2000000):
 Calls Tryz.prog 21 #[.string s] w (TkImp w (if 5000<s.size then [] else Ty.from_ s 0)):=by
 by_cases h:(s.size:Int)>5000
 · have d:decide ((s.size:Int)>5000)=true:=decide_eq_true h
   have HF:Hid (TkImp w (if 5000<s.size then [] else Ty.from_ s 0) (.returned (.slice none 0 0)) w):=by
    rw[if_pos (by omega)]
    exact⟨_,rfl,World.ownsRow_nil _ _ _ _,by simp,Below.refl _ _⟩
   generalize (if 5000<s.size then [] else Ty.from_ s 0)=l at*
   go_enter Tryz.func21,Tryz.ntmps21
   go_wp2_with fail
   go_ret
   exact HF.out
 have d:decide ((s.size:Int)>5000)=false:=decide_eq_false h
 rw[if_neg (by omega)]
 have HC:Hid (∀(Bt:Nat) (w:World),Bt<w.heap.size→w.cell? ⟨Bt,0,none⟩=some (.string s)→Calls Tryz.prog 37 #[.func (.func 30) #[] #[.pointer (some ⟨Bt,0,none⟩)]] w fun e W'=>∃v,e=.returned v∧OwnK W' w.heap.size v (Ty.from_ s 0).length (Ty.from_ s 0)∧(v=.slice none 0 0↔Ty.from_ s 0=[])∧Below w.heap.size w W'):=fun Bt w h1 h2=>collectTok Bt s (by omega) w h1 h2
 have HT:Hid (∀w,Calls Tryz.prog 18 #[.string s] w fun e w'=>e=.returned (.func (.func 30) #[] #[.pointer (some ⟨w.heap.size,0,none⟩)])∧w'=w.alloc (.cells #[.string s] 9)):=tokensIn_any s
 generalize Ty.from_ s 0=l at*
 go_enter Tryz.func21,Tryz.ntmps21
 go_wp2_with fail
 refine (HT.out _).mono ?_
 rintro e w1 ⟨rfl,hw1⟩
 have hs1:w1.heap.size=w.heap.size+1:=by rw[hw1];simp
 have b1:Below w.heap.size w w1:=by rw[hw1];exact (Below.refl _ _).alloc (Nat.le_refl _) _
 have hc1:w1.cell? ⟨w.heap.size,0,none⟩=some (.string s):=by rw[hw1,World.cell?_alloc_at _ _ _ _ rfl];rfl
 have HCC:=HC.out w.heap.size w1 (by omega) hc1
 clear hw1 hs1
 go_wp2_with fail
 refine HCC.mono ?_
 rintro e w2 ⟨v,rfl,hv,hnil,hb⟩
 have HF:Hid (TkImp w l (.returned v) w2):=⟨v,rfl,⟨hv.1,by
  rcases hv.2 with h2|⟨g,cap,cur,e1,hg,r⟩
  · exact .inl h2
  exact .inr ⟨g,cap,cur,e1,Nat.le_trans b1.size hg,r⟩⟩,hnil,b1.trans (hb.mono b1.size)⟩
 clear hv hnil hb HCC
 go_wp2_with fail
 go_ret
 exact HF.out
end Go.Proofs.YtejebodgfoihkaaGreat
namespace Go.Proofs.YtejebodgfoihkaaGreat
open Go.RowKit

def Tree (w:World) (R B:Nat) (zs:List Int):Prop:=∃lo N,R<lo∧Tri w lo N (Gt.S zs zs.length)∧N 0 0=some B
theorem Tree.inF {R base B:Nat} {zs:List Int} {a b:World} (t:Tree a R B zs) (h:InF R base a b):Tree b R B zs:=by
 obtain⟨lo,N,h1,h2,h3⟩:=t
 exact⟨lo,N,h1,h.tri h2 h1,h3⟩
theorem Tree.kept {R B:Nat} {zs:List Int} {a b:World} (t:Tree a R B zs) (h:Below a.heap.size a b):Tree b R B zs:=t.inF (InF.of_below (base:=0) h)
theorem Tree.drewN {R B:Nat} {zs:List Int} {a:World} (t:Tree a R B zs) (n:Nat):Tree (a.drewN n) R B zs:=t.inF ((InF.refl R 0 a).drewN n)
theorem S_top {zs:List Int} (hg:GoodC zs):Gt.S zs zs.length 0 0=-1:=Gt.S_miss (Nat.le_refl _) (fun i hi=>(hg.le i hi).2) hg.num (fun _ _ g=>by have:=g.pos;omega)

def SymEnd (w:World) (R base:Nat) (s:ByteArray) (p:Nat) (l:List UInt8) (lim:Nat) (vk fx:Value) (zs:List Int) (e:Ending) (w':World):Prop:=
 (∃y q,Nf.sym s zs p=.ok (y,q)∧e=.returned (.int .i64 (y:Int))∧In w' R base s q l lim vk fx∧InF R base w w')∨Fails (Nf.sym s zs p) R base w e w'

set_option maxHeartbeats 2000000 in
theorem nfSymbol_any (R base p lim B:Nat) (l:List UInt8) (vk fx:Value) (s:ByteArray) (zs:List Int) (w:World) (h:In w R base s p l lim vk fx) (hs:s.size≤9000) (hp:p≤8*s.size) (ht:Tree w R B zs) (hg:GoodC zs):
 Calls Tryz.prog 120 #[.pointer (some ⟨R,0,none⟩),.pointer (some ⟨B,0,none⟩)] w (SymEnd w R base s p l lim vk fx zs):=by
 have HI:Hid (In w R base s p l lim vk fx∧Tree w R B zs∧GoodC zs):=⟨h,ht,hg⟩
 have HRM:Hid (Calls Tryz.prog 127 #[.pointer (some ⟨R,0,none⟩)] w fun e w'=>e=.returned (.int .i64 (8*(s.size:Int)-(p:Int)))∧∃m,w'=w.drewN m):=room_any R p false s w h.reads hs (by omega)
 obtain⟨M,hM⟩:∃M:Int,M=8*(s.size:Int)-(p:Int):=⟨_,rfl⟩
 rw[←hM] at HRM
 have HM:Hid (M=8*(s.size:Int)-(p:Int)):=hM
 clear h ht hg hM
 go_enter Tryz.func120,Tryz.ntmps120
 go_wp2_with fail
 refine HRM.out.mono ?_
 rintro e w1 ⟨rfl,m,hw1⟩
 have HI1:Hid (In w1 R base s p l lim vk fx∧InF R base w w1):=⟨by rw[hw1];exact HI.out.1.drewN m,by rw[hw1];exact (InF.refl _ _ _).drewN m⟩
 have HFD:Hid (Calls Tryz.prog 128 #[.pointer (some ⟨B,0,none⟩),.iface 57 (.pointer (some ⟨R,0,none⟩))] w1 (NFound w1 R base s l lim vk fx (Gt.get zs (bitAt s false) (8*s.size) p))):=by
  obtain⟨lo,N,h1,h2,h3⟩:=HI.out.2.1.drewN m
  rw[←hw1] at h2
  exact nfFind_any R B lo base p lim l vk fx s N _ w1 h2 h3 (S_top HI.out.2.2) HI1.out.1 h1 hs hp
 clear hw1 HRM
 go_wp2_with fail
 refine HFD.out.mono ?_
 rintro e w2 ⟨hO,(⟨hno,rfl⟩|⟨y,q,hyes,rfl,hI2⟩)⟩
 · have HF2:Hid (InF R base w w2):=HI1.out.2.trans (InF.of_only hO)
   have HNO:Hid (Gt.get zs (bitAt s false) (8*s.size) p=none):=hno
   clear hno hO HFD
   by_cases hr:8*s.size-p<15
   · have hMi:¬M≥15:=by have:=HM.out;omega
     have HF:Hid (SymEnd w R base s p l lim vk fx zs (fault 2) w2):=.inr (Fails.mk (c:=2) (Nf.sym_short HNO.out hr) (by decide) HF2.out)
     go_wp2_with fail
     refine (insist_not _ 2 _ (by first|rfl|simp<;>omega)).mono ?_
     rintro e w3 ⟨rfl,hw3⟩
     subst hw3
     unfold fault
     go_wp2_with fail
     exact⟨rfl,HF.out⟩
   have hMi:M≥15:=by have:=HM.out;omega
   have HF:Hid (SymEnd w R base s p l lim vk fx zs (fault 1) w2):=.inr (Fails.mk (c:=1) (Nf.sym_bad HNO.out hr) (by decide) HF2.out)
   go_wp2_with fail
   refine (insist_of _ 2 _ (by first|rfl|simp<;>omega)).mono ?_
   rintro e w3 ⟨rfl,hw3⟩
   subst hw3
   go_wp2_with fail
   refine (insist_no 1 _).mono ?_
   rintro e w4 ⟨rfl,hw4⟩
   subst hw4
   unfold fault
   go_wp2_with fail
   exact⟨rfl,HF.out⟩
 have HF:Hid (SymEnd w R base s p l lim vk fx zs (.returned (.int .i64 (y:Int))) w2):=.inl ⟨y,q,Nf.sym_some hyes,rfl,hI2,HI1.out.2.trans (InF.of_only hO)⟩
 have hyi:¬(y:Int)<0:=by omega
 clear hyes hI2 hO HFD
 go_wp2_with fail
 go_ret
 exact HF.out

def ValEnd (r:Except Nat (Nat×Nat)) (w:World) (R base:Nat) (s:ByteArray) (l:List UInt8) (lim:Nat) (vk fx:Value) (e:Ending) (w':World):Prop:=
 (∃y q,r=.ok (y,q)∧e=.returned (.int .i64 (y:Int))∧In w' R base s q l lim vk fx∧InF R base w w')∨Fails r R base w e w'

set_option maxHeartbeats 2000000 in
theorem nfSize_any (R base p lim k y:Nat) (l:List UInt8) (vk fx:Value) (s:ByteArray) (w:World) (h:In w R base s p l lim vk fx) (hs:s.size≤9000) (hp:p≤8*s.size) (hk:k<29) (hy:y=257+k):
 Calls Tryz.prog 121 #[.pointer (some ⟨R,0,none⟩),.int .i64 (y:Int)] w (ValEnd (Nf.size s k p) w R base s l lim vk fx):=by
 have hb:=Df.szN_all k hk
 have HSZ:Hid (Calls Tryz.prog 90 #[.int .i64 (k:Int)] w fun e w'=>e=.returned (.tuple #[.int .i64 (((Df.szN k).1:Nat):Int),.int .i64 (((Df.szN k).2:Nat):Int)])∧w'=w):=sizeRule_any k hk w
 have HNM:Hid (Calls Tryz.prog 87 #[.pointer (some ⟨R,0,none⟩),.int .i64 (((Df.szN k).2:Nat):Int)] w (NumEnd w R base s p (Df.szN k).2 l lim vk fx)):=nfNumber_any R p (Df.szN k).2 base lim l vk fx s w h hs hp (by omega)
 obtain⟨L,hL⟩:∃L,L=(Df.szN k).1:=⟨_,rfl⟩
 obtain⟨X,hX⟩:∃X,X=(Df.szN k).2:=⟨_,rfl⟩
 have HV:Hid (∀v,Nf.nxt s X p=.ok v→Nf.size s k p=.ok (L+v,p+X)∧v<65536):=fun v hv=>by
  rw[hX] at hv
  have h1:=(Nf.nxt_ok hv).2.2
  have h2:2^(Df.szN k).2≤2^5:=Nat.pow_le_pow_right (by omega) hb.2.2
  rw[hL,hX];exact⟨Nf.size_ok hv,by omega⟩
 have HC:Hid (∀c,Nf.nxt s X p=.error c→Nf.size s k p=.error c):=fun c hv=>by rw[hX] at hv;exact Nf.size_no hv
 rw[←hL,←hX] at hb HSZ
 rw[←hX] at HNM
 have hki:(y:Int)-257=(k:Int):=by omega
 have hkw:IntKind.i64.wrap ((y:Int)-257)=(k:Int):=by rw[hki];exact wrap_i64_nat k (by omega)
 clear hL hX h hy
 go_enter Tryz.func121,Tryz.ntmps121
 go_wp2_with fail
 refine HSZ.out.mono ?_
 rintro e w1 ⟨rfl,hw1⟩
 replace hw1:=hw1.symm
 subst hw1
 go_wp2_with fail
 refine HNM.out.mono ?_
 rintro e w2 (⟨v,hv,rfl,h2,h3⟩|⟨hv,rfl,h3⟩)
 · have hvb:=(HV.out v hv).2
   obtain⟨Y,hY⟩:∃Y:Nat,Y=L+v:=⟨_,rfl⟩
   have hYi:(L:Int)+(v:Int)=(Y:Int):=by omega
   have hYw:IntKind.i64.wrap ((L:Int)+(v:Int))=(Y:Int):=by rw[hYi];exact wrap_i64_nat Y (by omega)
   have HF:Hid (ValEnd (Nf.size s k p) w R base s l lim vk fx (.returned (.int .i64 (Y:Int))) w2):=.inl ⟨Y,p+X,by rw[hY];exact (HV.out v hv).1,rfl,h2,InF.of_only h3⟩
   clear hv h2 h3 HNM HSZ hY
   go_wp2_with fail
   go_ret
   exact HF.out
 have HF:Hid (ValEnd (Nf.size s k p) w R base s l lim vk fx (fault 2) w2):=.inr (Fails.mk (c:=2) (HC.out 2 hv) (by decide) h3)
 clear hv h3 HNM HSZ
 unfold fault
 go_wp2_with fail
 exact⟨rfl,HF.out⟩

set_option maxHeartbeats 2000000 in
theorem nfDist_any (R base p lim B:Nat) (l:List UInt8) (vk fx:Value) (s:ByteArray) (zs:List Int) (w:World) (h:In w R base s p l lim vk fx) (hs:s.size≤9000) (hp:p≤8*s.size) (ht:Tree w R B zs) (hg:GoodC zs):
 Calls Tryz.prog 122 #[.pointer (some ⟨R,0,none⟩),.pointer (some ⟨B,0,none⟩)] w (ValEnd (Nf.dist s zs p) w R base s l lim vk fx):=by
 have HSY:Hid (Calls Tryz.prog 120 #[.pointer (some ⟨R,0,none⟩),.pointer (some ⟨B,0,none⟩)] w (SymEnd w R base s p l lim vk fx zs)):=nfSymbol_any R base p lim B l vk fx s zs w h hs hp ht hg
 have HG:Hid (GoodC zs):=hg
 clear h ht hg
 go_enter Tryz.func122,Tryz.ntmps122
 go_wp2_with fail
 refine HSY.out.mono ?_
 rintro e w1 (⟨y,q,hy,rfl,h2,h3⟩|⟨c,hc,hc0,rfl,h3⟩)
 · by_cases hy30:y<30
   · have hyi:(y:Int)<30:=by omega
     have hb:=Df.dsN_all y hy30
     have hql:=(Nf.sym_ok HG.out hy).2.1
     have HSZ:Hid (∀w:World,Calls Tryz.prog 91 #[.int .i64 (y:Int)] w fun e w'=>e=.returned (.tuple #[.int .i64 (((Df.dsN y).1:Nat):Int),.int .i64 (((Df.dsN y).2:Nat):Int)])∧w'=w):=fun w=>distRule_any y hy30 w
     have HNM:Hid (Calls Tryz.prog 87 #[.pointer (some ⟨R,0,none⟩),.int .i64 (((Df.dsN y).2:Nat):Int)] w1 (NumEnd w1 R base s q (Df.dsN y).2 l lim vk fx)):=nfNumber_any R q (Df.dsN y).2 base lim l vk fx s w1 h2 hs hql (by omega)
     have HV:Hid (∀v,Nf.nxt s (Df.dsN y).2 q=.ok v→Nf.dist s zs p=.ok ((Df.dsN y).1+v,q+(Df.dsN y).2)∧v<65536):=fun v hv=>by
      have h1:=(Nf.nxt_ok hv).2.2
      have h2:2^(Df.dsN y).2≤2^13:=Nat.pow_le_pow_right (by omega) hb.2.2
      exact⟨Nf.dist_ok hy hy30 hv,by omega⟩
     have HC:Hid (∀c,Nf.nxt s (Df.dsN y).2 q=.error c→Nf.dist s zs p=.error c):=fun c hv=>Nf.dist_short hy hy30 hv
     have H3:Hid (InF R base w w1):=h3
     generalize (Df.dsN y).1=L at*
     generalize (Df.dsN y).2=X at*
     clear hy h2 h3 HSY
     go_wp2_with fail
     refine (insist_of _ 1 _ (by first|rfl|simp<;>omega)).mono ?_
     rintro e w2 ⟨rfl,hw2⟩
     replace hw2:=hw2.symm
     subst hw2
     go_wp2_with fail
     refine (HSZ.out _).mono ?_
     rintro e w2 ⟨rfl,hw2⟩
     replace hw2:=hw2.symm
     subst hw2
     go_wp2_with fail
     refine HNM.out.mono ?_
     rintro e w2 (⟨v,hv,rfl,h2,h3⟩|⟨hv,rfl,h3⟩)
     · have hvb:=(HV.out v hv).2
       obtain⟨Y,hY⟩:∃Y:Nat,Y=L+v:=⟨_,rfl⟩
       have hYi:(L:Int)+(v:Int)=(Y:Int):=by omega
       have hYw:IntKind.i64.wrap ((L:Int)+(v:Int))=(Y:Int):=by rw[hYi];exact wrap_i64_nat Y (by omega)
       have HF:Hid (ValEnd (Nf.dist s zs p) w R base s l lim vk fx (.returned (.int .i64 (Y:Int))) w2):=.inl ⟨Y,q+X,by rw[hY];exact (HV.out v hv).1,rfl,h2,H3.out.trans (InF.of_only h3)⟩
       clear hv h2 h3 HNM HSZ hY
       go_wp2_with fail
       go_ret
       exact HF.out
     have HF:Hid (ValEnd (Nf.dist s zs p) w R base s l lim vk fx (fault 2) w2):=.inr (Fails.mk (c:=2) (HC.out 2 hv) (by decide) (H3.out.trans h3))
     clear hv h3 HNM HSZ
     unfold fault
     go_wp2_with fail
     exact⟨rfl,HF.out⟩
   have hyi:¬(y:Int)<30:=by omega
   have HF:Hid (ValEnd (Nf.dist s zs p) w R base s l lim vk fx (fault 1) w1):=.inr (Fails.mk (c:=1) (Nf.dist_bad hy hy30) (by decide) h3)
   clear hy h2 h3 HSY
   go_wp2_with fail
   refine (insist_not _ 1 _ (by first|rfl|simp<;>omega)).mono ?_
   rintro e w2 ⟨rfl,hw2⟩
   replace hw2:=hw2.symm
   subst hw2
   unfold fault
   go_wp2_with fail
   exact⟨rfl,HF.out⟩
 have HF:Hid (ValEnd (Nf.dist s zs p) w R base s l lim vk fx (fault (c:Int)) w1):=.inr (Fails.mk (Nf.dist_no hc) hc0 h3)
 clear hc h3 HSY
 unfold fault
 go_wp2_with fail
 exact⟨rfl,HF.out⟩

def RunEnd (w:World) (R base:Nat) (s:ByteArray) (p:Nat) (l:List UInt8) (lim:Nat) (vk fx:Value) (zs kn:List Int) (e:Ending) (w':World):Prop:=
 (∃(v:Int) (t q:Nat),Nf.run s zs p kn=.ok ((v,t),q)∧e=.returned (.tuple #[.int .i64 v,.int .i64 (t:Int)])∧In w' R base s q l lim vk fx∧InF R base w w')∨Fails (Nf.run s zs p kn) R base w e w'

theorem last_at {w:World} {B n cap:Nat} {ao:Option Addr} {l:List Int} (h:OwnI w B (.slice ao n cap) n l) (hn:0<n):∃g,ao=some ⟨g,0,none⟩∧B≤g∧g<w.heap.size∧w.cell? ⟨g,n-1,none⟩=some (.int .i64 (l.getD (l.length-1) 0)):=by
 have hl:=h.len
 obtain⟨ao',cap',e,ho⟩:=h.owns
 cases e
 rcases ho with e|⟨b,rfl,hB,hb,hc⟩
 · subst e;simp at hl;omega
 refine⟨b,rfl,hB,hb,?_⟩
 have h1:=(hc (n-1) (by omega)).1
 rw[h1,List.getD_eq_getElem?_getD,List.getElem?_eq_getElem (by omega)]
 subst hl
 rfl

set_option linter.unusedSimpArgs false in
set_option maxHeartbeats 4000000 in
set_option maxRecDepth 20000 in
theorem nfRun_any (R base p lim B lb n cap:Nat) (ao:Option Addr) (l:List UInt8) (vk fx:Value) (s:ByteArray) (zs kn:List Int) (w:World) (h:In w R base s p l lim vk fx) (hs:s.size≤9000) (hp:p≤8*s.size) (ht:Tree w R B zs) (hg:GoodC zs) (hk:OwnI w lb (.slice ao n cap) n kn) (hlb:R<lb) (hn:n≤1000):
 Calls Tryz.prog 124 #[.pointer (some ⟨R,0,none⟩),.pointer (some ⟨B,0,none⟩),.slice ao n cap] w (RunEnd w R base s p l lim vk fx zs kn):=by
 have HSY:Hid (Calls Tryz.prog 120 #[.pointer (some ⟨R,0,none⟩),.pointer (some ⟨B,0,none⟩)] w (SymEnd w R base s p l lim vk fx zs)):=nfSymbol_any R base p lim B l vk fx s zs w h hs hp ht hg
 have HG:Hid (GoodC zs∧R<lb∧OwnI w lb (.slice ao n cap) n kn):=⟨hg,hlb,hk⟩
 have HL:Hid (kn.length=n):=hk.len
 clear h ht hg hk hlb
 go_enter Tryz.func124,Tryz.ntmps124
 go_wp2_with fail
 refine HSY.out.mono ?_
 rintro e w1 (⟨y,q,hy,rfl,h2,h3⟩|⟨c,hc,hc0,rfl,h3⟩)
 · have HY:Hid (Nf.sym s zs p=.ok (y,q)):=hy
   have hql:=(Nf.sym_ok HG.out.1 hy).2.1
   have HW:Hid (In w1 R base s q l lim vk fx∧InF R base w w1):=⟨h2,h3⟩
   have HNM:Hid (∀(S:Nat) (W:World),S≤16→In W R base s q l lim vk fx→Calls Tryz.prog 87 #[.pointer (some ⟨R,0,none⟩),.int .i64 (S:Int)] W (NumEnd W R base s q S l lim vk fx)):=fun S W hS hW=>nfNumber_any R q S base lim l vk fx s W hW hs hql hS
   clear hy h2 h3 HSY
   by_cases h16:y=16
   · subst h16
     by_cases hn0:0<n
     · have hni:(n:Int)>0:=by omega
       obtain⟨g,rfl,hgB,hgl,hlast⟩:=last_at (HW.out.2.ownI HG.out.2.2 HG.out.2.1) hn0
       obtain⟨J,hJ⟩:∃J,J=n-1:=⟨_,rfl⟩
       obtain⟨z,hz⟩:∃z,z=kn.getD (kn.length-1) 0:=⟨_,rfl⟩
       rw[←hJ,←hz] at hlast
       have HZ:Hid (z=kn.getD (kn.length-1) 0∧kn.length≠0):=⟨hz,by rw[HL.out];omega⟩
       have hJi:(n:Int)-1=(J:Int):=by omega
       have hJw:IntKind.i64.wrap ((n:Int)-1)=(J:Int):=by rw[hJi];exact wrap_i64_nat J (by omega)
       have hJw2:IntKind.i64.wrap (J:Int)=(J:Int):=wrap_i64_nat J (by omega)
       have hJn:J<n:=by omega
       have hJni:(J:Int)<(n:Int):=by omega
       have hgR:g≠R:=by have:=HG.out.2.1;omega
       clear hz hJ
       go_wp2_with fail
       refine (insist_of _ 1 _ (by first|rfl|simp<;>omega)).mono ?_
       rintro e w2 ⟨rfl,hw2⟩
       replace hw2:=hw2.symm
       subst hw2
       go_upto_region 6 with fail
       have hQ:w1.cell? ⟨g,J,none⟩=some (.int .i64 z):=hlast
       refine wp_region_held_drew (S:=fun w'=>w'.cell? ⟨g,J,none⟩=some (.int .i64 z)) (by kernel_rfl) hQ (fun hHeld=>?_)
       refine tkI (i:=0) (v:=.slice (some ⟨g,0,none⟩) n cap) rfl (Or.inl ⟨by rfl,?_⟩) hHeld ?_
       · intro w' hSw
         go_simp
       try simp only[Act.put,litE]
       refine tkI (i:=1) (v:=.slice (some ⟨g,0,none⟩) n cap) rfl (Or.inl ⟨by rfl,?_⟩) hHeld ?_
       · intro w' hSw
         go_simp
       try simp only[Act.put,litE]
       refine tkI (i:=2) (v:=.int .i64 (n:Int)) rfl (Or.inl ⟨by rfl,?_⟩) hHeld ?_
       · intro w' hSw
         go_simp
       try simp only[Act.put,litE]
       refine tkI (i:=3) (v:=.int .i64 (J:Int)) rfl (Or.inl ⟨by rfl,?_⟩) hHeld ?_
       · intro w' hSw
         go_simp
       try simp only[Act.put,litE]
       refine tkI (i:=4) (v:=.pointer (some ⟨g,J,none⟩)) rfl (Or.inl ⟨by rfl,?_⟩) hHeld ?_
       · intro w' hSw
         go_simp
       try simp only[Act.put,litE]
       refine tkI (i:=5) (v:=.int .i64 z) rfl (Or.inl ⟨by rfl,?_⟩) hHeld ?_
       · intro w' hSw
         go_simp
       try simp only[Act.put,litE]
       refine tkI (i:=6) (v:=.pointer (some ⟨R,0,none⟩)) rfl (Or.inl ⟨by rfl,?_⟩) hHeld ?_
       · intro w' hSw
         go_simp
       try simp only[Act.put,litE]
       refine tkI (i:=7) (v:=.pointer (some ⟨R,0,none⟩)) rfl (Or.inl ⟨by rfl,?_⟩) hHeld ?_
       · intro w' hSw
         go_simp
       try simp only[Act.put,litE]
       refine tkI (i:=8) (v:=.pointer (some ⟨R,0,none⟩)) rfl (Or.inl ⟨by rfl,?_⟩) hHeld ?_
       · intro w' hSw
         go_simp
       try simp only[Act.put,litE]
       refine wpAnyH_ready (rs:=[9]) (by kernel_rfl) (by simp) ?_
       refine AllReadyH.cons rfl (fun K hK=>?_) AllReadyH.nil
       go_simp
       refine (HNM.out 2 _ (by omega) HW.out.1.drew).mono ?_
       rintro e w2 (⟨v,hv,rfl,h2,h3⟩|⟨hv,rfl,h3⟩)
       · have hQ2:w2.cell? ⟨g,J,none⟩=some (.int .i64 z):=(h3.cell g J hgl hgR).trans hlast
         have hvb:=(Nf.nxt_ok hv).2.2
         obtain⟨Y,hY⟩:∃Y:Nat,Y=3+v:=⟨_,rfl⟩
         have hYi:3+(v:Int)=(Y:Int):=by omega
         have hYw:IntKind.i64.wrap (3+(v:Int))=(Y:Int):=by rw[hYi];exact wrap_i64_nat Y (by omega)
         have hYw2:IntKind.i64.wrap (Y:Int)=(Y:Int):=wrap_i64_nat Y (by omega)
         have HF:Hid (RunEnd w R base s p l lim vk fx zs kn (.returned (.tuple #[.int .i64 z,.int .i64 (Y:Int)])) w2):=.inl ⟨z,Y,q+2,by rw[hY,HZ.out.1];exact Nf.run_16 HY.out HZ.out.2 hv,rfl,h2,(HW.out.2.drewN 1).trans (InF.of_only h3)⟩
         clear hv h2 h3 HNM hY HW HY HZ
         refine hK.out _ _ hQ2 (fun hHeld=>?_)
         clear hK K
         try simp only[Act.put,litE]
         refine tkI (i:=10) (v:=.int .i64 (Y:Int)) rfl (Or.inl ⟨by rfl,?_⟩) hHeld ?_
         · intro w' hSw
           go_simp
         try simp only[Act.put,litE]
         refine tkI (i:=11) (v:=.int .i64 z) rfl (Or.inl ⟨by rfl,?_⟩) hHeld ?_
         · intro w' hSw
           go_simp
         try simp only[Act.put,litE]
         refine tkI (i:=12) (v:=.int .i64 (Y:Int)) rfl (Or.inl ⟨by rfl,?_⟩) hHeld ?_
         · intro w' hSw
           go_simp
         try simp only[Act.put,litE]
         refine wpAnyH_done (by kernel_rfl) ?_ _
         try simp only[Act.put,litE]
         go_wp2_with fail
         refine bodyPost_ret (v:=.tuple #[.int .i64 z,.int .i64 (Y:Int)]) (by simp[results,Tryz.results124,go_sem]) rfl HF.out
       have HF:Hid (RunEnd w R base s p l lim vk fx zs kn (fault 2) w2):=.inr (Fails.mk (c:=2) (Nf.run_16s HY.out HZ.out.2 hv) (by decide) ((HW.out.2.drewN 1).trans h3))
       clear hv h3 HNM HW HY HZ
       unfold fault
       go_wp2_with fail
       exact⟨rfl,HF.out⟩
     have hni:¬(n:Int)>0:=by omega
     have HF:Hid (RunEnd w R base s p l lim vk fx zs kn (fault 1) w1):=.inr (Fails.mk (c:=1) (Nf.run_16n HY.out (by rw[HL.out];omega)) (by decide) HW.out.2)
     go_wp2_with fail
     refine (insist_not _ 1 _ (by first|rfl|simp<;>omega)).mono ?_
     rintro e w2 ⟨rfl,hw2⟩
     replace hw2:=hw2.symm
     subst hw2
     unfold fault
     go_wp2_with fail
     exact⟨rfl,HF.out⟩
   have h16i:¬(y:Int)=16:=by omega
   by_cases h17:y=17
   · subst h17
     go_wp2_with fail
     refine (HNM.out 3 w1 (by omega) HW.out.1).mono ?_
     rintro e w2 (⟨v,hv,rfl,h2,h3⟩|⟨hv,rfl,h3⟩)
     · have hvb:=(Nf.nxt_ok hv).2.2
       obtain⟨Y,hY⟩:∃Y:Nat,Y=3+v:=⟨_,rfl⟩
       have hYi:3+(v:Int)=(Y:Int):=by omega
       have hYw:IntKind.i64.wrap (3+(v:Int))=(Y:Int):=by rw[hYi];exact wrap_i64_nat Y (by omega)
       have HF:Hid (RunEnd w R base s p l lim vk fx zs kn (.returned (.tuple #[.int .i64 0,.int .i64 (Y:Int)])) w2):=.inl ⟨0,Y,q+3,by rw[hY];exact Nf.run_17 HY.out hv,rfl,h2,HW.out.2.trans (InF.of_only h3)⟩
       clear hv h2 h3 HNM hY HW HY
       go_wp2_with fail
       refine bodyPost_ret (v:=.tuple #[.int .i64 0,.int .i64 (Y:Int)]) (by simp[results,Tryz.results124,go_sem]) rfl HF.out
     have HF:Hid (RunEnd w R base s p l lim vk fx zs kn (fault 2) w2):=.inr (Fails.mk (c:=2) (Nf.run_17s HY.out hv) (by decide) (HW.out.2.trans h3))
     clear hv h3 HNM HW HY
     unfold fault
     go_wp2_with fail
     exact⟨rfl,HF.out⟩
   have h17i:¬(y:Int)=17:=by omega
   by_cases h18:y=18
   · subst h18
     go_wp2_with fail
     refine (HNM.out 7 w1 (by omega) HW.out.1).mono ?_
     rintro e w2 (⟨v,hv,rfl,h2,h3⟩|⟨hv,rfl,h3⟩)
     · have hvb:=(Nf.nxt_ok hv).2.2
       obtain⟨Y,hY⟩:∃Y:Nat,Y=11+v:=⟨_,rfl⟩
       have hYi:11+(v:Int)=(Y:Int):=by omega
       have hYw:IntKind.i64.wrap (11+(v:Int))=(Y:Int):=by rw[hYi];exact wrap_i64_nat Y (by omega)
       have HF:Hid (RunEnd w R base s p l lim vk fx zs kn (.returned (.tuple #[.int .i64 0,.int .i64 (Y:Int)])) w2):=.inl ⟨0,Y,q+7,by rw[hY];exact Nf.run_18 HY.out hv,rfl,h2,HW.out.2.trans (InF.of_only h3)⟩
       clear hv h2 h3 HNM hY HW HY
       go_wp2_with fail
       refine bodyPost_ret (v:=.tuple #[.int .i64 0,.int .i64 (Y:Int)]) (by simp[results,Tryz.results124,go_sem]) rfl HF.out
     have HF:Hid (RunEnd w R base s p l lim vk fx zs kn (fault 2) w2):=.inr (Fails.mk (c:=2) (Nf.run_18s HY.out hv) (by decide) (HW.out.2.trans h3))
     clear hv h3 HNM HW HY
     unfold fault
     go_wp2_with fail
     exact⟨rfl,HF.out⟩
   have h18i:¬(y:Int)=18:=by omega
   have HF:Hid (RunEnd w R base s p l lim vk fx zs kn (.returned (.tuple #[.int .i64 (y:Int),.int .i64 1])) w1):=.inl ⟨(y:Int),1,q,Nf.run_one HY.out (by omega),rfl,HW.out.1,HW.out.2⟩
   clear HY HW HNM
   go_wp2_with fail
   refine bodyPost_ret (v:=.tuple #[.int .i64 (y:Int),.int .i64 1]) (by simp[results,Tryz.results124,go_sem]) rfl HF.out
 have HF:Hid (RunEnd w R base s p l lim vk fx zs kn (fault (c:Int)) w1):=.inr (Fails.mk (Nf.run_no hc) hc0 h3)
 clear hc h3 HSY
 unfold fault
 go_wp2_with fail
 exact⟨rfl,HF.out⟩

theorem isRow_cells {T:TypeId} {o:Option Obj} (h:isRow T o):∃c z,o=some (.cells c T z):=by
 match o,h with
 | some (.cells c T' z),h=>exact⟨c,z,by rw[show T'=T from h]⟩
theorem OwnI.away {w:World} {B n k:Nat} {v:Value} {l:List Int} {c:Array Value} {T:TypeId} {z:Nat×Nat} (h:OwnI w B v n l) (hk:w.heap[k]?=some (.cells c T z)) (hT:T≠3):v.ownBlock≠some k:=by
 intro e
 rcases h.2 with⟨rfl,_⟩|⟨g,cap,cur,rfl,_,hg,_⟩
 · cases e
 cases e
 rw[hk] at hg
 cases hg
 exact hT rfl
theorem In.beside {w w':World} {R base p lim lb n:Nat} {s:ByteArray} {l:List UInt8} {vk fx v:Value} {kn:List Int} (h:In w R base s p l lim vk fx) (o:OwnI w lb v n kn) (hg:∀k,k<w.heap.size→some k≠v.ownBlock→w'.heap[k]?=w.heap[k]?):In w' R base s p l lim vk fx:=by
 have hl:=h.lt
 obtain⟨vo,h1,h2⟩:=h
 refine⟨vo,(hg R hl (fun e=>o.away h1 (by decide) e.symm)).trans h1,h2.besides (fun k hk=>hg k (World.ownsRow.lt (show World.ownsRow _ _ _ _ _ _ _ from h2) k hk).2 (fun e=>?_))⟩
 obtain⟨c,z,hc⟩:=isRow_cells (h2.isRow hk).1
 exact o.away hc (by decide) e.symm
theorem InF.more {w0 w w':World} {R base lb n g:Nat} {v:Value} {kn:List Int} (h:InF R base w0 w) (o:OwnI w lb v n kn) (hg:Grew lb w w' v g) (hb:w0.heap.size≤lb):InF R base w0 w':=
 ⟨hg.os.trans h.os,hg.tape.trans h.tape,hg.output.trans h.output,Nat.le_trans h.size hg.size,fun k hk h1 h2=>(hg.block k (Nat.lt_of_lt_of_le hk h.size) (fun e=>by have:=(World.ownsRow.lt (show World.ownsRow _ _ _ _ _ _ _ from o) k e.symm).1;omega)).trans (h.rest k hk h1 h2)⟩
def nfLen:Value→Nat
 | .slice _ n _=>n
 | _=>0

def LensEnd (w:World) (R base:Nat) (s:ByteArray) (l:List UInt8) (lim:Nat) (vk fx:Value) (count:Nat) (ANS:Except Nat (List Int×Nat)) (e:Ending) (w':World):Prop:=
 (∃L q a cap,ANS=.ok (L,q)∧e=.returned (.slice a count cap)∧OwnI w' w.heap.size (.slice a count cap) count L∧In w' R base s q l lim vk fx∧InF R base w w')∨Fails ANS R base w e w'

set_option maxHeartbeats 4000000 in
set_option maxRecDepth 20000 in
theorem nfLens_any (R base p lim B count:Nat) (l:List UInt8) (vk fx:Value) (s:ByteArray) (zs:List Int) (w:World) (h:In w R base s p l lim vk fx) (hs:s.size≤9000) (hp:p≤8*s.size) (ht:Tree w R B zs) (hg:GoodC zs) (hc:count≤399):
 Calls Tryz.prog 113 #[.pointer (some ⟨R,0,none⟩),.pointer (some ⟨B,0,none⟩),.int .i64 (count:Int)] w (LensEnd w R base s l lim vk fx count (Nf.lens s zs count 400 p [])):=by
 obtain⟨lb,hlb⟩:∃lb,lb=w.heap.size:=⟨_,rfl⟩
 obtain⟨ANS,hANS⟩:∃r,r=Nf.lens s zs count 400 p []:=⟨_,rfl⟩
 have HA:Hid (lb=w.heap.size∧Tree w R B zs∧GoodC zs∧R<lb):=⟨hlb,ht,hg,by rw[hlb];exact h.lt⟩
 have HX0:Hid (OwnI w lb (.slice none 0 0) 0 []∧In w R base s p l lim vk fx∧InF R base w w∧ANS=Nf.lens s zs count 400 p []∧p≤8*s.size):=⟨World.ownsRow_nil _ _ _ _,h,InF.refl _ _ _,hANS,hp⟩
 rw[←hANS]
 clear h ht hg hlb hANS hp
 go_enter Tryz.func113,Tryz.ntmps113
 go_wp2_with fail
 go_loopw [7] (fun o wr=>∃(f q n cap:Nat) (ao:Option Addr) (kn:List Int),o=.slice ao n cap∧n≤count∧count<f+n∧Hid (OwnI wr lb (.slice ao n cap) n kn∧In wr R base s q l lim vk fx∧InF R base w wr∧ANS=Nf.lens s zs count f q kn∧q≤8*s.size)) (fun o _=>count-nfLen o)
 case atStart=>exact⟨400,p,0,0,none,[],rfl,Nat.zero_le _,by omega,HX0⟩
 case round=>
  obtain⟨f,q,n,cap,ao,kn,rfl,hn,hf,HX⟩:=hrel
  clear HX0
  have hnl:kn.length=n:=HX.out.1.len
  obtain⟨f2,rfl⟩:∃f2,f=f2+1:=⟨f-1,by omega⟩
  by_cases hlt:n<count
  · have hni:(n:Int)<(count:Int):=by omega
    have HRN:Hid (Calls Tryz.prog 124 #[.pointer (some ⟨R,0,none⟩),.pointer (some ⟨B,0,none⟩),.slice ao n cap] wr (RunEnd wr R base s q l lim vk fx zs kn)):=
     nfRun_any R base q lim B lb n cap ao l vk fx s zs kn wr HX.out.2.1 hs HX.out.2.2.2.2 (HA.out.2.1.inF HX.out.2.2.1) HA.out.2.2.1 HX.out.1 HA.out.2.2.2 (by omega)
    have HNL:Hid (kn.length=n):=hnl
    clear hnl
    go_wp2_with fail
    refine HRN.out.mono ?_
    rintro e w2 (⟨v,t,q2,hr,rfl,h2,h3⟩|⟨c,hc',hc0,rfl,h3⟩)
    · have hb:=Nf.run_ok HA.out.2.2.1 hr
      have hOW:=h3.ownI HX.out.1 HA.out.2.2.2
      have HR2:Hid (Nf.run s zs q kn=.ok ((v,t),q2)):=hr
      have ht1:=hb.1
      have ht2:=hb.2.1
      by_cases hov:n+t≤count
      · have hoi:(n:Int)+(t:Int)≤(count:Int):=by omega
        have HS:Hid (OwnI w2 lb (.slice ao n cap) n kn∧In w2 R base s q2 l lim vk fx∧InF R base w w2∧q2≤8*s.size):=⟨hOW,h2,HX.out.2.2.1.trans h3,hb.2.2.2.1⟩
        have HANS2:Hid (ANS=Nf.lens s zs count f2 q2 (kn++List.replicate t v)):=by
         show _=_
         rw[HX.out.2.2.2.1,Nf.lens_more (by rw[HNL.out];exact hlt) hr (by rw[HNL.out];exact hov)]
        clear hr h2 h3 hb hOW HX HRN HR2
        go_wp2_with fail
        refine (insist_of _ 1 _ (by first|rfl|simp<;>omega)).mono ?_
        rintro e w3 ⟨rfl,hw3⟩
        subst hw3
        go_wp2_with fail
        go_loopw [7,29] (fun o i wq=>∃(c cap2:Nat) (ao2:Option Addr),c≤t∧i=.int .i64 (c:Int)∧o=.slice ao2 (n+c) cap2∧Hid (OwnI wq lb (.slice ao2 (n+c) cap2) (n+c) (kn++List.replicate c v)∧In wq R base s q2 l lim vk fx∧InF R base w wq∧q2≤8*s.size)) (fun _ i _=>t-(intOf i).toNat)
        case atStart=>exact⟨0,cap,ao,Nat.zero_le _,rfl,rfl,by rw[List.replicate_zero,List.append_nil];exact HS⟩
        case round=>
         obtain⟨c,cap2,ao2,hct,rfl,rfl,HQ⟩:=hrel
         clear HS
         by_cases hlc:c<t
         · have hci:(c:Int)<(t:Int):=by omega
           have hsz:lb≤wr.heap.size:=by
            have:=HQ.out.2.2.1.size
            rw[←HA.out.1] at this
            exact this
           obtain⟨N,hN⟩:∃N,N=n+c:=⟨_,rfl⟩
           rw[←hN] at HQ ⊢
           have hNb:N≤1000:=by omega
           have HNN:Hid (N=n+c):=hN
           clear hN
           go_wp2_with (at_builtin;refine wpList_app1 _ (by rfl) _ _ (by rfl) lb _ N (kn++List.replicate c v) v (by rfl) HQ.out.1 (by rfl) (by omega) hsz ?_)
           intro g7 cap7 w7 hown7 hg7
           have HF:Hid (OwnI w7 lb (.slice (some ⟨g7,0,none⟩) (n+(c+1)) cap7) (n+(c+1)) (kn++List.replicate (c+1) v)∧In w7 R base s q2 l lim vk fx∧InF R base w w7∧q2≤8*s.size):=
            ⟨by rw[List.replicate_succ',←Nat.add_assoc,←HNN.out];exact hown7,HQ.out.2.1.beside HQ.out.1 hg7.block,HQ.out.2.2.1.more HQ.out.1 hg7 (by rw[HA.out.1];exact Nat.le_refl _),HQ.out.2.2.2⟩
           have HN1:Hid (N+1=n+(c+1)):=by show _=_;rw[HNN.out];omega
           clear hown7 hg7 HQ HNN
           go_wp2_with fail
           go_roundw
           case rel=>exact⟨c+1,_,_,by omega,by go_num,by rw[HN1.out],HF⟩
           case measure=>simp[intOf];omega
         have hci:¬(c:Int)<(t:Int):=by omega
         have hct2:c=t:=by omega
         have HF:Hid (OwnI wr lb (.slice ao2 (n+t) cap2) (n+t) (kn++List.replicate t v)∧In wr R base s q2 l lim vk fx∧InF R base w wr∧ANS=Nf.lens s zs count f2 q2 (kn++List.replicate t v)∧q2≤8*s.size):=by
          have h:=HQ.out
          rw[hct2] at h
          exact⟨h.1,h.2.1,h.2.2.1,HANS2.out,h.2.2.2⟩
         subst hct2
         clear HQ HANS2
         go_wp2_with fail
         go_roundw
         case rel=>exact⟨f2,q2,n+c,cap2,ao2,_,rfl,hov,by omega,HF⟩
         case measure=>simp[nfLen];omega
      have hoi:¬(n:Int)+(t:Int)≤(count:Int):=by omega
      have HF:Hid (LensEnd w R base s l lim vk fx count ANS (fault 1) w2):=.inr (Fails.mk (c:=1) (by rw[HX.out.2.2.2.1,Nf.lens_over (by rw[HNL.out];exact hlt) hr (by rw[HNL.out];exact hov)]) (by decide) (HX.out.2.2.1.trans h3))
      clear hr h2 h3 hb hOW HX HRN HR2
      go_wp2_with fail
      refine (insist_not _ 1 _ (by first|rfl|simp<;>omega)).mono ?_
      rintro e w3 ⟨rfl,hw3⟩
      subst hw3
      unfold fault
      go_wp2_with fail
      exact⟨rfl,HF.out⟩
    have HF:Hid (LensEnd w R base s l lim vk fx count ANS (fault (c:Int)) w2):=.inr (Fails.mk (by rw[HX.out.2.2.2.1,Nf.lens_no (by rw[HNL.out];exact hlt) hc']) hc0 (HX.out.2.2.1.trans h3))
    clear hc' h3 HX HRN
    unfold fault
    go_wp2_with fail
    exact⟨rfl,HF.out⟩
  have hni:¬(n:Int)<(count:Int):=by omega
  have hnc:n=count:=by omega
  have HF:Hid (LensEnd w R base s l lim vk fx count ANS (.returned (.slice ao count cap)) wr):=.inl ⟨kn,q,ao,cap,by rw[HX.out.2.2.2.1,Nf.lens_done (by rw[hnl];exact hlt)],rfl,by rw[←HA.out.1,←hnc];exact HX.out.1,HX.out.2.1,HX.out.2.2.1⟩
  subst hnc
  clear HX hnl
  go_wp2_with fail
  go_ret
  exact HF.out

theorem In.setRow {w:World} {R base p lim g j:Nat} {s:ByteArray} {l:List UInt8} {vk fx v:Value} {row:List Int} (h:In w R base s p l lim vk fx) (hr:DRow w g row):In (w.setCell ⟨g,j,none⟩ v) R base s p l lim vk fx:=by
 obtain⟨vo,h1,h2⟩:=h
 have hne:R≠g:=fun e=>by
  subst e
  have e2:=h1.symm.trans hr
  simp only[Option.some.injEq,Obj.cells.injEq] at e2
  exact absurd e2.2.1 (by decide)
 exact⟨vo,(Below.heap_setCell w ⟨g,j,none⟩ v R hne).trans h1,h2.besides (fun k hk=>Below.heap_setCell w ⟨g,j,none⟩ v k (fun e=>h2.away hr (by decide) (by rw[hk,e])))⟩
theorem InF.set {R base g j:Nat} {w0 w:World} {v:Value} (h:InF R base w0 w) (hg:w0.heap.size≤g):InF R base w0 (w.setCell ⟨g,j,none⟩ v):=
 ⟨h.os,h.tape,h.output,by rw[World.size_setCell];exact h.size,fun k hk h1 h2=>(Below.heap_setCell w ⟨g,j,none⟩ v k (by show k≠g;omega)).trans (h.rest k hk h1 h2)⟩
theorem lordN_lt:∀k,k<19→Df.lord.getD k 0<19:=by decide

def LolEnd (w:World) (R base:Nat) (s:ByteArray) (l:List UInt8) (lim:Nat) (vk fx:Value) (ANS:Except Nat (List Int×Nat)) (e:Ending) (w':World):Prop:=
 (∃L q g,ANS=.ok (L,q)∧e=.returned (.slice (some ⟨g,0,none⟩) 19 19)∧DRow w' g L∧L.length=19∧In w' R base s q l lim vk fx∧InF R base w w')∨Fails ANS R base w e w'

set_option maxHeartbeats 4000000 in
set_option maxRecDepth 20000 in
theorem nfLol_any (R base p lim cnt:Nat) (l:List UInt8) (vk fx:Value) (s:ByteArray) (w:World) (h:In w R base s p l lim vk fx) (hs:s.size≤9000) (hp:p≤8*s.size) (hc:cnt≤19):
 Calls Tryz.prog 111 #[.pointer (some ⟨R,0,none⟩),.int .i64 (cnt:Int)] w (LolEnd w R base s l lim vk fx (Nf.lol s cnt 0 p (List.replicate 19 0))):=by
 obtain⟨ANS,hANS⟩:∃r,r=Nf.lol s cnt 0 p (List.replicate 19 0):=⟨_,rfl⟩
 have hmk:(Instr.makeSlice 30 (.int .i64 19) (.int .i64 19)).run Tryz.prog w=.ok (.slice (some ⟨w.heap.size,0,none⟩) 19 19) (w.alloc (.cells ((List.replicate 19 (0:Int)).map (Value.int .i64)).toArray 3)):=make_rowN 19 (by omega) w
 obtain⟨W0,hW0⟩:∃W0,W0=w.alloc (.cells ((List.replicate 19 (0:Int)).map (Value.int .i64)).toArray 3):=⟨_,rfl⟩
 obtain⟨g,hgg⟩:∃g,g=w.heap.size:=⟨_,rfl⟩
 rw[←hW0,←hgg] at hmk
 have b0:Below w.heap.size w W0:=by rw[hW0];exact (Below.refl _ _).alloc (Nat.le_refl _) _
 have HX0:Hid (DRow W0 g (List.replicate 19 0)∧In W0 R base s p l lim vk fx∧InF R base w W0):=⟨by rw[hW0,hgg];exact heap_alloc_new _ _,h.kept b0,InF.of_below b0⟩
 have HG:Hid (g=w.heap.size∧R<g∧ANS=Nf.lol s cnt 0 p (List.replicate 19 0)∧p≤8*s.size):=⟨hgg,by rw[hgg];exact h.lt,hANS,hp⟩
 rw[←hANS]
 clear hANS h hW0 hgg b0 hp
 go_enter Tryz.func111,Tryz.ntmps111
 go_wp2_with fail
 refine (lengthOrder_any W0).mono ?_
 rintro e w1 ⟨rfl,b1⟩
 have HX1:Hid (DRow w1 g (List.replicate 19 0)∧(List.replicate 19 (0:Int)).length=19∧In w1 R base s p l lim vk fx∧InF R base w w1∧ANS=Nf.lol s (cnt-0) 0 p (List.replicate 19 0)∧p≤8*s.size):=
  ⟨HX0.out.1.kept (b1.block g HX0.out.1.lt),by simp,HX0.out.2.1.kept b1,HX0.out.2.2.trans (InF.of_below b1),HG.out.2.2.1,HG.out.2.2.2⟩
 clear HX0 b1 hmk
 go_wp2_with fail
 go_loopw [10] (fun i wr=>∃(k q:Nat) (row:List Int),k≤19∧i=.int .i64 (k:Int)∧Hid (DRow wr g row∧row.length=19∧In wr R base s q l lim vk fx∧InF R base w wr∧ANS=Nf.lol s (cnt-k) k q row∧q≤8*s.size)) (fun i _=>19-(intOf i).toNat)
 case atStart=>exact⟨0,p,_,Nat.zero_le _,rfl,HX1⟩
 case round=>
  obtain⟨k,q,row,hk,rfl,HX⟩:=hrel
  clear HX1
  by_cases hlt:k<19
  · have hki:(k:Int)<19:=by omega
    have hord:=fun w=>lord_index k hlt w
    have hy:=lordN_lt k hlt
    by_cases hkc:k<cnt
    · have hkci:(k:Int)<(cnt:Int):=by omega
      have HNM:Hid (Calls Tryz.prog 87 #[.pointer (some ⟨R,0,none⟩),.int .i64 3] wr (NumEnd wr R base s q 3 l lim vk fx)):=nfNumber_any R q 3 base lim l vk fx s wr HX.out.2.2.1 hs HX.out.2.2.2.2.2 (by omega)
      have HA:Hid (∀v,Nf.nxt s 3 q=.ok v→ANS=Nf.lol s (cnt-(k+1)) (k+1) (q+3) (row.set (Df.lord.getD k 0) (v:Int))):=fun v hv=>by
       rw[HX.out.2.2.2.2.1,show cnt-k=cnt-(k+1)+1 by omega,Nf.lol_ok hv]
      have HC:Hid (∀c,Nf.nxt s 3 q=.error c→ANS=.error c):=fun c hv=>by
       rw[HX.out.2.2.2.2.1,show cnt-k=cnt-(k+1)+1 by omega,Nf.lol_no hv]
      generalize Df.lord.getD k 0=y at*
      have hyl:y<row.length:=by rw[HX.out.2.1];exact hy
      have hyi:(y:Int)<19:=by omega
      go_wp2_with fail
      refine HNM.out.mono ?_
      rintro e w2 (⟨v,hv,rfl,h2,h3⟩|⟨hv,rfl,h3⟩)
      · have hrow:DRow w2 g row:=HX.out.1.kept (h3.rest g HX.out.1.lt (by have:=HG.out.2.1;omega))
        have cY:=hrow.cell y hyl
        have fY:=hrow.free y
        have HF:Hid (DRow (w2.setCell ⟨g,y,none⟩ (.int .i64 (v:Int))) g (row.set y (v:Int))∧(row.set y (v:Int)).length=19∧In (w2.setCell ⟨g,y,none⟩ (.int .i64 (v:Int))) R base s (q+3) l lim vk fx∧InF R base w (w2.setCell ⟨g,y,none⟩ (.int .i64 (v:Int)))∧ANS=Nf.lol s (cnt-(k+1)) (k+1) (q+3) (row.set y (v:Int))∧q+3≤8*s.size):=
         ⟨hrow.set y v,by rw[List.length_set];exact HX.out.2.1,h2.setRow hrow,(HX.out.2.2.2.1.trans (InF.of_only h3)).set (by rw[←HG.out.1];exact Nat.le_refl _),HA.out v hv,(Nf.nxt_ok hv).1⟩
        obtain⟨u,hu⟩:∃u,u=row[y]:=⟨_,rfl⟩
        rw[←hu] at cY
        clear hu hv h2 h3 hrow HX HNM HA HC hyl
        go_wp2_with fail
        go_roundw
        case rel=>exact⟨k+1,q+3,_,by omega,by go_num,HF⟩
        case measure=>simp[intOf];omega
      have HF:Hid (LolEnd w R base s l lim vk fx ANS (fault 2) w2):=.inr (Fails.mk (c:=2) (HC.out 2 hv) (by decide) (HX.out.2.2.2.1.trans h3))
      clear hv h3 HX HNM HA HC
      unfold fault
      go_wp2_with fail
      exact⟨rfl,HF.out⟩
    have hkci:¬(k:Int)<(cnt:Int):=by omega
    have HF:Hid (DRow wr g row∧row.length=19∧In wr R base s q l lim vk fx∧InF R base w wr∧ANS=Nf.lol s (cnt-(k+1)) (k+1) q row∧q≤8*s.size):=by
     obtain⟨a1,a2,a3,a4,a5,a6⟩:=HX.out
     refine⟨a1,a2,a3,a4,?_,a6⟩
     rw[a5,show cnt-k=0 by omega,show cnt-(k+1)=0 by omega];rfl
    clear HX
    generalize Df.lord.getD k 0=y at*
    go_wp2_with fail
    go_roundw
    case rel=>exact⟨k+1,q,row,by omega,by go_num,HF⟩
    case measure=>simp[intOf];omega
  have hki:¬(k:Int)<19:=by omega
  have HF:Hid (LolEnd w R base s l lim vk fx ANS (.returned (.slice (some ⟨g,0,none⟩) 19 19)) wr):=by
   obtain⟨a1,a2,a3,a4,a5,a6⟩:=HX.out
   refine .inl ⟨row,q,g,?_,rfl,a1,a2,a3,a4⟩
   rw[a5,show cnt-k=0 by omega];rfl
  clear HX
  go_wp2_with fail
  go_ret
  exact HF.out

theorem come_take {zs:List Int} {k:Nat} (h:k<zs.length):Nf.come (zs.take (k+1))=Nf.come (zs.take k)+(if zs[k] != 0 then 1 else 0):=by
 rw[List.take_succ_eq_append_getElem h,Nf.come_append]
 congr 1
 rw[Nf.come_cons]
 simp[Nf.come]
theorem nfInt_at {w:World} {a:Option Addr} {zs:List Int} (h:Ints w a zs) {k:Nat} (hk:k<zs.length):∃b off,a=some ⟨b,off,none⟩∧w.cell? ⟨b,off+k,none⟩=some (.int .i64 zs[k]):=by
 rcases h with e|⟨b,off,rfl,_,hc⟩
 · subst e;simp at hk
 exact⟨b,off,rfl,hc k hk⟩
set_option maxHeartbeats 2000000 in
theorem nfMay_any (a:Option Addr) (cap n:Nat) (zs:List Int) (b:Bool) (w:World) (h:Ints w a zs) (hn:zs.length=n) (hl:n≤300) (hv:Cd.valid zs=true):
 Calls Tryz.prog 112 #[.slice a n cap,.bool b] w fun e w'=>e=.returned (.bool (Nf.may zs b))∧w'=w:=by
 have HCT:Hid (Calls Tryz.prog 114 #[.slice a n cap] w fun e w'=>e=.returned (.tuple #[.int .i64 (tkN n zs),.bool (tkB n zs)])∧w'=w):=codeTaken_any a cap n zs w h hn (by omega)
 have hb:tkB n zs=true:=by unfold tkB;rw[hv,decide_eq_true hl];rfl
 rw[tkN_yes hb,hb] at HCT
 have HI:Hid (Ints w a zs∧zs.length=n):=⟨h,hn⟩
 obtain⟨T,hT⟩:∃T,T=Cd.taken zs:=⟨_,rfl⟩
 rw[←hT] at HCT
 have HT:Hid (T=Cd.taken zs):=hT
 clear h hn hT hb
 go_enter Tryz.func112,Tryz.ntmps112
 go_wp2_with fail
 go_loopw [5,12] (fun c i wr=>∃k m:Nat,k≤n∧m≤k∧i=.int .i64 (k:Int)∧c=.int .i64 (m:Int)∧Hid (m=Nf.come (zs.take k))∧wr=w) (fun _ i _=>n-(intOf i).toNat)
 case atStart=>exact⟨0,0,Nat.zero_le _,Nat.le_refl _,rfl,rfl,rfl,rfl⟩
 case round=>
  obtain⟨k,m,hk,hmk,rfl,rfl,HM,hw⟩:=hrel
  subst hw
  by_cases hlt:k<n
  · have hki:(k:Int)<(n:Int):=by omega
    have hkl:k<zs.length:=by rw[HI.out.2];exact hlt
    obtain⟨b1,o1,rfl,hc1⟩:=nfInt_at HI.out.1 hkl
    have hct:=come_take hkl
    obtain⟨z,hz⟩:∃z,z=zs[k]:=⟨_,rfl⟩
    rw[←hz] at hct hc1
    by_cases h0:z=0
    · have hb0:(z != 0)=false:=by simp[h0]
      have HN:Hid (m=Nf.come (zs.take (k+1))):=by show _=_;rw[hct,hb0];exact HM.out
      subst h0
      clear hct hz
      go_wp2_with fail
      go_roundw
      case rel=>exact⟨k+1,m,by omega,by omega,by go_num,rfl,HN,trivial⟩
      case measure=>simp[intOf];omega
    have hb0:(z != 0)=true:=by simp[h0]
    have HN:Hid (m+1=Nf.come (zs.take (k+1))):=by show _=_;rw[hct,hb0,←HM.out];rfl
    clear hct hz
    go_wp2_with fail
    go_roundw
    case rel=>exact⟨k+1,m+1,by omega,by omega,by go_num,by go_num,HN,trivial⟩
    case measure=>simp[intOf];omega
  have hki:¬(k:Int)<(n:Int):=by omega
  have HM2:Hid (m=Nf.come zs):=by
   show _=_
   rw[HM.out,List.take_of_length_le (by rw[HI.out.2];omega)]
  clear HM
  go_wp2_with fail
  refine HCT.out.mono ?_
  rintro e w1 ⟨rfl,hw1⟩
  replace hw1:=hw1.symm
  subst hw1
  by_cases m0:m=0
  · have HF:Hid (Nf.may zs b=b):=by show _=_;unfold Nf.may;rw[←HM2.out,if_pos m0]
    subst m0
    go_wp2_with fail
    go_ret
    exact⟨by rw[HF.out];rfl,rfl⟩
  have m0i:¬(m:Int)=0:=by omega
  by_cases m1:m=1
  · have HF:Hid (Nf.may zs b=decide (T=16384)):=by show _=_;unfold Nf.may;rw[←HM2.out,if_neg m0,if_pos m1,HT.out]
    subst m1
    have hd:((T:Int)==16384)=decide (T=16384):=by
     by_cases e:T=16384
     · subst e;rfl
     rw[decide_eq_false e];simp;omega
    generalize decide (T=16384)=d at*
    go_wp2_with fail
    go_ret
    exact⟨by rw[HF.out];rfl,rfl⟩
  have m1i:¬(m:Int)=1:=by omega
  have HF:Hid (Nf.may zs b=decide (T=32768)):=by show _=_;unfold Nf.may;rw[←HM2.out,if_neg m0,if_neg m1,HT.out]
  have hd:((T:Int)==32768)=decide (T=32768):=by
   by_cases e:T=32768
   · subst e;rfl
   rw[decide_eq_false e];simp;omega
  generalize decide (T=32768)=d at*
  go_wp2_with fail
  go_ret
  exact⟨by rw[HF.out];rfl,rfl⟩

def BlkEnd (w:World) (R base:Nat) (s:ByteArray) (lim:Nat) (vk fx:Value) (ANS:Except Nat (List UInt8×Nat)) (e:Ending) (w':World):Prop:=
 (∃L q,ANS=.ok (L,q)∧(∃r,e=.returned r)∧In w' R base s q L lim vk fx∧InF R base w w'∧q≤8*s.size∧L.length≤lim)∨Fails ANS R base w e w'
theorem byte_wrap (v:Nat) (h:v<256):IntKind.u8.wrap (v:Int)=(((UInt8.ofNat v).toNat:Nat):Int):=by
 have:(UInt8.ofNat v).toNat=v:=by simp;omega
 rw[this]
 simp[IntKind.wrap,IntKind.bits,IntKind.signed];omega

theorem size_bound {s:ByteArray} {k p n q:Nat} (h:Nf.size s k p=.ok (n,q)) (hk:k<29):n≤1000∧q≤8*s.size∧p≤q:=by
 have hb:=Df.szN_all k hk
 unfold Nf.size at h
 split at h
 · cases h
 rename_i v hv
 have:=Nf.nxt_ok hv
 have h2:2^(Df.szN k).2≤2^5:=Nat.pow_le_pow_right (by omega) hb.2.2
 cases h
 omega
theorem dist_bound {s:ByteArray} {B:List Int} {p d q:Nat} (hg:GoodC B) (h:Nf.dist s B p=.ok (d,q)):1≤d∧d≤100000∧q≤8*s.size∧p<q:=by
 unfold Nf.dist at h
 split at h
 · cases h
 rename_i y q1 hy
 have hs:=Nf.sym_ok hg hy
 split at h
 · rename_i h30
   have hb:=Df.dsN_all y h30
   split at h
   · cases h
   rename_i v hv
   have:=Nf.nxt_ok hv
   have h2:2^(Df.dsN y).2≤2^13:=Nat.pow_le_pow_right (by omega) hb.2.2
   cases h
   omega
 cases h

set_option maxHeartbeats 4000000 in
set_option maxRecDepth 20000 in
theorem nfBody_any (R base p lim BA BB:Nat) (l:List UInt8) (vk fx:Value) (s:ByteArray) (A B:List Int) (w:World) (h:In w R base s p l lim vk fx) (hb:base≤w.heap.size) (hs:s.size≤9000) (hp:p≤8*s.size) (hl:l.length≤lim) (hlim:lim≤5000) (ta:Tree w R BA A) (tb:Tree w R BB B) (ga:GoodC A) (gb:GoodC B) (ha:A.length≤300):
 Calls Tryz.prog 110 #[.pointer (some ⟨R,0,none⟩),.agg #[.pointer (some ⟨BA,0,none⟩),.pointer (some ⟨BB,0,none⟩)]] w (BlkEnd w R base s lim vk fx (Nf.body s lim A B Nf.fuel p l)):=by
 obtain⟨ANS,hANS⟩:∃r,r=Nf.body s lim A B Nf.fuel p l:=⟨_,rfl⟩
 rw[←hANS]
 obtain⟨W0,hW0⟩:∃W0,W0=w.alloc (.cells #[.pointer (some ⟨BA,0,none⟩),.pointer (some ⟨BB,0,none⟩)] 152):=⟨_,rfl⟩
 obtain⟨C,hC⟩:∃C,C=w.heap.size:=⟨_,rfl⟩
 have b0:Below w.heap.size w W0:=by rw[hW0];exact (Below.refl _ _).alloc (Nat.le_refl _) _
 have HC:Hid (W0.heap[C]?=some (.cells #[.pointer (some ⟨BA,0,none⟩),.pointer (some ⟨BB,0,none⟩)] 152 (0,0))∧C≠R∧base≤W0.heap.size):=⟨by rw[hW0,hC];exact heap_alloc_new _ _,by have:=h.lt;omega,Nat.le_trans hb b0.size⟩
 have HT:Hid (Tree W0 R BA A∧Tree W0 R BB B∧GoodC A∧GoodC B∧InF R base w W0):=⟨ta.kept b0,tb.kept b0,ga,gb,InF.of_below b0⟩
 have HX0:Hid (In W0 R base s p l lim vk fx∧InF R base W0 W0∧ANS=Nf.body s lim A B Nf.fuel p l):=⟨h.kept b0,InF.refl _ _ _,hANS⟩
 have hf0:8*s.size-p<Nf.fuel:=by unfold Nf.fuel;omega
 clear h hb ta tb ga gb hANS b0
 go_enter Tryz.func110,Tryz.ntmps110
 go_wp2_with fail
 rw[←hW0,←hC]
 clear hW0 hC
 go_loopw [4] (fun _ wr=>∃(f q:Nat) (L:List UInt8),q≤8*s.size∧8*s.size-q<f∧L.length≤lim∧Hid (In wr R base s q L lim vk fx∧InF R base W0 wr∧ANS=Nf.body s lim A B f q L)) (fun _ wr=>8*s.size-atOf R wr)
 case atStart=>exact⟨_,p,l,hp,hf0,hl,HX0⟩
 case round=>
  obtain⟨f,q,L,hq,hf,hL,HX⟩:=hrel
  clear HX0 hf0 hp hl
  obtain⟨f2,rfl⟩:∃f2,f=f2+1:=⟨f-1,by omega⟩
  have hcc:wr.heap[C]?=some (.cells #[.pointer (some ⟨BA,0,none⟩),.pointer (some ⟨BB,0,none⟩)] 152 (0,0)):=HX.out.2.1.block HC.out.1 HC.out.2.1 (by decide)
  have cA:wr.cell? ⟨C,0,none⟩=some (.pointer (some ⟨BA,0,none⟩)):=by simp[World.cell?,hcc]
  have HSY:Hid (Calls Tryz.prog 120 #[.pointer (some ⟨R,0,none⟩),.pointer (some ⟨BA,0,none⟩)] wr (SymEnd wr R base s q L lim vk fx A)):=nfSymbol_any R base q lim BA L vk fx s A wr HX.out.1 hs hq (HT.out.1.inF HX.out.2.1) HT.out.2.2.1
  have HAT:Hid (atOf R wr=q):=atOf_in HX.out.1
  clear hcc
  go_wp2_with fail
  refine HSY.out.mono ?_
  rintro e w1 (⟨y,q1,hy,rfl,h2,h3⟩|⟨c,hc,hc0,rfl,h3⟩)
  · have hsy:=Nf.sym_ok HT.out.2.2.1 hy
    have hq1:=hsy.1
    have hq2:=hsy.2.1
    have HY:Hid (Nf.sym s A q=.ok (y,q1)∧ANS=Nf.body s lim A B (f2+1) q L):=⟨hy,HX.out.2.2⟩
    have HW:Hid (In w1 R base s q1 L lim vk fx∧InF R base W0 w1):=⟨h2,HX.out.2.1.trans h3⟩
    have hylen:y<300:=by have:=hsy.2.2;omega
    clear hy h2 h3 hsy HX HSY cA
    by_cases hb256:y<256
    · have hyi:(y:Int)<256:=by omega
      have hcv:=byte_wrap y hb256
      obtain⟨ch,hch⟩:∃ch,ch=UInt8.ofNat y:=⟨_,rfl⟩
      rw[←hch] at hcv
      have HPE:Hid (Calls Tryz.prog 108 #[.pointer (some ⟨R,3,none⟩),.int .u8 ((ch.toNat:Nat):Int)] w1 (PutEnd w1 R base s q1 L lim vk fx ch)):=nfPut_any R base q1 lim L vk fx s ch w1 HW.out.1 (Nat.le_trans HC.out.2.2 HW.out.2.size) hlim
      obtain⟨z,hz⟩:∃z:Int,z=((ch.toNat:Nat):Int):=⟨_,rfl⟩
      rw[←hz] at hcv HPE
      have HCH:Hid (ch=UInt8.ofNat y):=hch
      clear hz hch
      go_wp2_with fail
      refine HPE.out.mono ?_
      rintro e w2 (⟨p1,rfl,p2,p3⟩|⟨p1,rfl,p3⟩)
      · have HF:Hid (In w2 R base s q1 (L++[ch]) lim vk fx∧InF R base W0 w2∧ANS=Nf.body s lim A B f2 q1 (L++[ch])):=⟨p2,HW.out.2.trans p3,by rw[HY.out.2,Nf.body_byte HY.out.1 hb256 p1,HCH.out]⟩
        have hl2:(L++[ch]).length≤lim:=by rw[List.length_append];exact p1
        clear p2 p3 HPE HW HY HCH
        go_wp2_with fail
        go_roundw
        case rel=>exact⟨f2,q1,_,hq2,by omega,hl2,HF⟩
        case measure=>rw[HAT.out,atOf_in HF.out.1];omega
      have HF:Hid (BlkEnd w R base s lim vk fx ANS (fault 3) w2):=.inr (Fails.mk (c:=3) (by rw[HY.out.2,Nf.body_full HY.out.1 hb256 p1]) (by decide) (HT.out.2.2.2.2.trans (HW.out.2.trans p3)))
      clear p3 HPE HW HY HCH
      unfold fault
      go_wp2_with fail
      exact⟨rfl,HF.out⟩
    have hyi:¬(y:Int)<256:=by omega
    by_cases he:y=256
    · have HF:Hid (BlkEnd w R base s lim vk fx ANS (.returned (.tuple #[])) w1):=.inl ⟨L,q1,by rw[HY.out.2,Nf.body_end HY.out.1 he],⟨_,rfl⟩,HW.out.1,HT.out.2.2.2.2.trans HW.out.2,hq2,hL⟩
      subst he
      clear HY HW
      go_wp2_with fail
      go_end0
      exact HF.out
    have hei:¬(y:Int)=256:=by omega
    by_cases h286:y<286
    · have h286i:(y:Int)<286:=by omega
      have HSZ:Hid (Calls Tryz.prog 121 #[.pointer (some ⟨R,0,none⟩),.int .i64 (y:Int)] w1 (ValEnd (Nf.size s (y-257) q1) w1 R base s L lim vk fx)):=nfSize_any R base q1 lim (y-257) y L vk fx s w1 HW.out.1 hs hq2 (by omega) (by omega)
      have hgt:256<y:=by omega
      go_wp2_with fail
      refine (insist_of _ 1 _ (by first|rfl|simp<;>omega)).mono ?_
      rintro e w2 ⟨rfl,hw2⟩
      replace hw2:=hw2.symm
      subst hw2
      go_wp2_with fail
      refine HSZ.out.mono ?_
      rintro e w2 (⟨S,q3,hsz,rfl,h2,h3⟩|⟨c,hc,hc0,rfl,h3⟩)
      · have hszb:=size_bound hsz (by omega)
        have hq3:q3≤8*s.size:=hszb.2.1
        have hS:S≤1000:=hszb.1
        have hq13:q1≤q3:=hszb.2.2
        have HS:Hid (Nf.size s (y-257) q1=.ok (S,q3)∧In w2 R base s q3 L lim vk fx∧InF R base W0 w2):=⟨hsz,h2,HW.out.2.trans h3⟩
        have hcc2:w2.heap[C]?=some (.cells #[.pointer (some ⟨BA,0,none⟩),.pointer (some ⟨BB,0,none⟩)] 152 (0,0)):=HS.out.2.2.block HC.out.1 HC.out.2.1 (by decide)
        have cB:w2.cell? ⟨C,1,none⟩=some (.pointer (some ⟨BB,0,none⟩)):=by simp[World.cell?,hcc2]
        have HDS:Hid (Calls Tryz.prog 122 #[.pointer (some ⟨R,0,none⟩),.pointer (some ⟨BB,0,none⟩)] w2 (ValEnd (Nf.dist s B q3) w2 R base s L lim vk fx)):=nfDist_any R base q3 lim BB L vk fx s B w2 h2 hs hq3 (HT.out.2.1.inF HS.out.2.2) HT.out.2.2.2.1
        clear hsz h2 h3 hszb hcc2 HSZ HW
        go_wp2_with fail
        refine HDS.out.mono ?_
        rintro e w3 (⟨D,q4,hds,rfl,h2,h3⟩|⟨c,hc,hc0,rfl,h3⟩)
        · have hdsb:=dist_bound HT.out.2.2.2.1 hds
          have hq4:q4≤8*s.size:=hdsb.2.2.1
          have hD1:1≤D:=hdsb.1
          have hD2:D≤100000:=hdsb.2.1
          have hq34:q3<q4:=hdsb.2.2.2
          have HD:Hid (Nf.dist s B q3=.ok (D,q4)∧InF R base W0 w3):=⟨hds,HS.out.2.2.trans h3⟩
          have HAG:Hid (Calls Tryz.prog 123 #[.pointer (some ⟨R,3,none⟩),.int .i64 (S:Int),.int .i64 (D:Int)] w3 (AgnEnd w3 R base s q4 L lim vk fx S D)):=nfAgain_any R base q4 lim S D L vk fx s w3 h2 (Nat.le_trans HC.out.2.2 HD.out.2.size) hlim hL hD1 hD2 hS
          clear hds h2 h3 hdsb HDS
          go_wp2_with fail
          refine HAG.out.mono ?_
          rintro e w4 (⟨L2,hrp,rfl,h2,h3,h4⟩|⟨c,hc,hc0,rfl,h3⟩)
          · have HF:Hid (In w4 R base s q4 L2 lim vk fx∧InF R base W0 w4∧ANS=Nf.body s lim A B f2 q4 L2):=⟨h2,HD.out.2.trans h3,by rw[HY.out.2,Nf.body_copy HY.out.1 hgt h286 (Nf.copy_ok HS.out.1 HD.out.1 hrp)]⟩
            clear hrp h2 h3 HAG HS HD HY
            go_wp2_with fail
            go_roundw
            case rel=>exact⟨f2,q4,L2,hq4,by omega,h4,HF⟩
            case measure=>rw[HAT.out,atOf_in HF.out.1];omega
          have HF:Hid (BlkEnd w R base s lim vk fx ANS (fault (c:Int)) w4):=.inr (Fails.mk (by rw[HY.out.2,Nf.body_stop HY.out.1 hgt h286 (Nf.copy_rep HS.out.1 HD.out.1 hc)]) hc0 (HT.out.2.2.2.2.trans (HD.out.2.trans h3)))
          clear hc h3 HAG HS HD HY
          unfold fault
          go_wp2_with fail
          exact⟨rfl,HF.out⟩
        have HF:Hid (BlkEnd w R base s lim vk fx ANS (fault (c:Int)) w3):=.inr (Fails.mk (by rw[HY.out.2,Nf.body_stop HY.out.1 hgt h286 (Nf.copy_dist HS.out.1 hc)]) hc0 (HT.out.2.2.2.2.trans (HS.out.2.2.trans h3)))
        clear hc h3 HDS HS HY
        unfold fault
        go_wp2_with fail
        exact⟨rfl,HF.out⟩
      have HF:Hid (BlkEnd w R base s lim vk fx ANS (fault (c:Int)) w2):=.inr (Fails.mk (by rw[HY.out.2,Nf.body_stop HY.out.1 hgt h286 (Nf.copy_size hc)]) hc0 (HT.out.2.2.2.2.trans (HW.out.2.trans h3)))
      clear hc h3 HSZ HW HY
      unfold fault
      go_wp2_with fail
      exact⟨rfl,HF.out⟩
    have h286i:¬(y:Int)<286:=by omega
    have HF:Hid (BlkEnd w R base s lim vk fx ANS (fault 1) w1):=.inr (Fails.mk (c:=1) (by rw[HY.out.2,Nf.body_bad HY.out.1 (by omega)]) (by decide) (HT.out.2.2.2.2.trans HW.out.2))
    clear HW HY
    go_wp2_with fail
    refine (insist_not _ 1 _ (by first|rfl|simp<;>omega)).mono ?_
    rintro e w2 ⟨rfl,hw2⟩
    replace hw2:=hw2.symm
    subst hw2
    unfold fault
    go_wp2_with fail
    exact⟨rfl,HF.out⟩
  have HF:Hid (BlkEnd w R base s lim vk fx ANS (fault (c:Int)) w1):=.inr (Fails.mk (by rw[HX.out.2.2,Nf.body_no hc]) hc0 (HT.out.2.2.2.2.trans (HX.out.2.1.trans h3)))
  clear hc h3 HX HSY cA
  unfold fault
  go_wp2_with fail
  exact⟨rfl,HF.out⟩

set_option maxHeartbeats 1000000 in
theorem nfUsed_any (R base p lim:Nat) (l:List UInt8) (vk fx:Value) (s:ByteArray) (w:World) (h:In w R base s p l lim vk fx) (hp:p≤100000):
 Calls Tryz.prog 26 #[.pointer (some ⟨R,0,none⟩)] w fun e w'=>e=.returned (.int .i64 (((p+7) / 8:Nat):Int))∧w'=w:=by
 have c2:=h.cells.2.2.1
 obtain⟨u,hu⟩:∃u,u=(p+7) / 8:=⟨_,rfl⟩
 have e1:((p:Int)+7) / 8=(u:Int):=by omega
 have e2:((p:Int)+7).tdiv 8=(u:Int):=by rw[Int.tdiv_eq_ediv_of_nonneg (by omega)];exact e1
 have e3:=wrap_i64_nat u (by omega)
 have e4:IntKind.i64.wrap ((p:Int)+7)=(p:Int)+7:=by have:=wrap_i64_nat (p+7) (by omega);rw[show ((p+7:Nat):Int)=(p:Int)+7 by omega] at this;exact this
 rw[←hu]
 clear h hu
 go_enter Tryz.func26,Tryz.ntmps26
 go_wp2_with fail
 go_ret
 exact⟨rfl,rfl⟩

set_option linter.unusedSimpArgs false in
set_option maxHeartbeats 4000000 in
set_option maxRecDepth 20000 in
theorem nfPlain_any (R base p lim:Nat) (l:List UInt8) (vk fx:Value) (s:ByteArray) (w:World) (h:In w R base s p l lim vk fx) (hb:base≤w.heap.size) (hs:s.size≤9000) (hp:p≤8*s.size) (hl:l.length≤lim) (hlim:lim≤5000):
 Calls Tryz.prog 83 #[.pointer (some ⟨R,0,none⟩)] w (BlkEnd w R base s lim vk fx (Nf.plain s lim p l)):=by
 have HUS:Hid (Calls Tryz.prog 26 #[.pointer (some ⟨R,0,none⟩)] w fun e w'=>e=.returned (.int .i64 (((p+7) / 8:Nat):Int))∧w'=w):=nfUsed_any R base p lim l vk fx s w h (by omega)
 obtain⟨P,hP⟩:∃P,P=8*((p+7) / 8):=⟨_,rfl⟩
 obtain⟨u,hu⟩:∃u,u=(p+7) / 8:=⟨_,rfl⟩
 have hPu:8*(u:Int)=(P:Int):=by omega
 have hPw:IntKind.i64.wrap (8*(u:Int))=(P:Int):=by rw[hPu];exact wrap_i64_nat P (by omega)
 have hPl:P≤8*s.size:=by omega
 have HPP:Hid (P=8*((p+7) / 8)):=hP
 rw[←hu] at HUS
 have c2:=h.cells.2.2.1
 have f2:=h.froz 2
 obtain⟨ANS,hANS⟩:∃r,r=Nf.plain s lim p l:=⟨_,rfl⟩
 obtain⟨w1,hw1⟩:∃w1,w1=w.setCell ⟨R,2,none⟩ (.int .i64 (P:Int)):=⟨_,rfl⟩
 have HI1:Hid (In w1 R base s P l lim vk fx∧InF R base w w1):=by rw[hw1];exact⟨(h.move P).1,InF.of_only (h.move P).2⟩
 have HANS:Hid (ANS=Nf.plain s lim p l):=hANS
 have HB:Hid (base≤w.heap.size):=hb
 rw[←hANS]
 clear h hP hu hANS hb
 go_enter Tryz.func83,Tryz.ntmps83
 go_wp2_with fail
 refine HUS.out.mono ?_
 rintro e w0 ⟨rfl,hw0⟩
 replace hw0:=hw0.symm
 subst hw0
 go_upto_region 1 with fail
 rw[←hw1]
 have HN1:Hid (Calls Tryz.prog 87 #[.pointer (some ⟨R,0,none⟩),.int .i64 16] w1 (NumEnd w1 R base s P 16 l lim vk fx)):=nfNumber_any R P 16 base lim l vk fx s w1 HI1.out.1 hs hPl (by omega)
 clear hw1 c2 f2 HUS hPu hPw
 go_wp2_with fail
 refine HN1.out.mono ?_
 rintro e w2 (⟨N,hN,rfl,h2,h3⟩|⟨hN,rfl,h3⟩)
 · have hNb:=(Nf.nxt_ok hN).2.2
   have hP2:=(Nf.nxt_ok hN).1
   have HN2:Hid (Calls Tryz.prog 87 #[.pointer (some ⟨R,0,none⟩),.int .i64 16] w2 (NumEnd w2 R base s (P+16) 16 l lim vk fx)):=nfNumber_any R (P+16) 16 base lim l vk fx s w2 h2 hs hP2 (by omega)
   have HW:Hid (Nf.nxt s 16 (8*((p+7) / 8))=.ok N∧InF R base w w2):=⟨by rw[←HPP.out];exact hN,HI1.out.2.trans (InF.of_only h3)⟩
   clear hN h2 h3 HN1
   go_wp2_with fail
   refine HN2.out.mono ?_
   rintro e w3 (⟨M,hM,rfl,h2,h3⟩|⟨hM,rfl,h3⟩)
   · have hMb:=(Nf.nxt_ok hM).2.2
     have hP3:=(Nf.nxt_ok hM).1
     have HM:Hid (Nf.nxt s 16 (8*((p+7) / 8)+16)=.ok M):=by rw[←HPP.out];exact hM
     have HW3:Hid (In w3 R base s (P+16+16) l lim vk fx∧InF R base w w3):=⟨h2,HW.out.2.trans (InF.of_only h3)⟩
     clear hM h2 h3 HN2
     by_cases hsum:N+M=65535
     · have hsi:(N:Int)+(M:Int)=65535:=by omega
       have HX0:Hid (In w3 R base s (P+32) l lim vk fx∧InF R base w w3∧ANS=Nf.take s lim (N-0) (P+32) l∧P+32≤8*s.size∧l.length≤lim):=⟨HW3.out.1,HW3.out.2,by rw[HANS.out,Nf.plain_ok HW.out.1 HM.out hsum,←HPP.out];rfl,by omega,hl⟩
       clear HW HW3 HM HANS HI1
       go_wp2_with fail
       refine (insist_of _ 1 _ (by first|rfl|simp<;>omega)).mono ?_
       rintro e w4 ⟨rfl,hw4⟩
       replace hw4:=hw4.symm
       subst hw4
       clear hsi hsum hP3 hP2 hMb
       go_wp2_with fail
       go_loopw [23] (fun i wr=>∃(c q:Nat) (L:List UInt8),c≤N∧i=.int .i64 (c:Int)∧Hid (In wr R base s q L lim vk fx∧InF R base w wr∧ANS=Nf.take s lim (N-c) q L∧q≤8*s.size∧L.length≤lim)) (fun i _=>N-(intOf i).toNat)
       case atStart=>exact⟨0,P+32,l,Nat.zero_le _,rfl,HX0⟩
       case round=>
        obtain⟨c,q,L,hc,rfl,HX⟩:=hrel
        clear HX0
        by_cases hlt:c<N
        · have hci:(c:Int)<(N:Int):=by omega
          have HNM:Hid (Calls Tryz.prog 87 #[.pointer (some ⟨R,0,none⟩),.int .i64 8] wr.drew (NumEnd wr.drew R base s q 8 L lim vk fx)):=nfNumber_any R q 8 base lim L vk fx s wr.drew HX.out.1.drew hs HX.out.2.2.2.1 (by omega)
          go_upto_region 5 with fail
          refine wp_region_held_drew (S:=fun _=>True) (by kernel_rfl) trivial (fun hHeld=>?_)
          refine tkI (i:=0) (v:=.pointer (some ⟨R,0,none⟩)) rfl (Or.inl ⟨by rfl,?_⟩) hHeld ?_
          · intro w' _
            go_simp
          try simp only[Act.put,litE]
          refine tkI (i:=1) (v:=.pointer (some ⟨R,0,none⟩)) rfl (Or.inl ⟨by rfl,?_⟩) hHeld ?_
          · intro w' _
            go_simp
          try simp only[Act.put,litE]
          refine tkI (i:=2) (v:=.pointer (some ⟨R,3,none⟩)) rfl (Or.inl ⟨by rfl,?_⟩) hHeld ?_
          · intro w' _
            go_simp
          try simp only[Act.put,litE]
          refine tkI (i:=3) (v:=.pointer (some ⟨R,0,none⟩)) rfl (Or.inl ⟨by rfl,?_⟩) hHeld ?_
          · intro w' _
            go_simp
          try simp only[Act.put,litE]
          refine tkI (i:=4) (v:=.pointer (some ⟨R,0,none⟩)) rfl (Or.inl ⟨by rfl,?_⟩) hHeld ?_
          · intro w' _
            go_simp
          try simp only[Act.put,litE]
          refine tkI (i:=5) (v:=.pointer (some ⟨R,0,none⟩)) rfl (Or.inl ⟨by rfl,?_⟩) hHeld ?_
          · intro w' _
            go_simp
          try simp only[Act.put,litE]
          refine wpAnyH_ready (rs:=[6]) (by kernel_rfl) (by simp) ?_
          refine AllReadyH.cons rfl (fun K hK=>?_) AllReadyH.nil
          go_simp
          refine (HNM.out).mono ?_
          rintro e w2 (⟨v,hv,rfl,h2,h3⟩|⟨hv,rfl,h3⟩)
          · have hvb:=(Nf.nxt_ok hv).2.2
            have hq8:=(Nf.nxt_ok hv).1
            obtain⟨ch,hch⟩:∃ch,ch=UInt8.ofNat v:=⟨_,rfl⟩
            have hcv:=byte_wrap v (by omega)
            rw[←hch] at hcv
            have HV:Hid (Nf.nxt s 8 q=.ok v∧ch=UInt8.ofNat v∧InF R base w w2):=⟨hv,hch,(HX.out.2.1.drewN 1).trans (InF.of_only h3)⟩
            have HPE:Hid (Calls Tryz.prog 108 #[.pointer (some ⟨R,3,none⟩),.int .u8 ((ch.toNat:Nat):Int)] w2 (PutEnd w2 R base s (q+8) L lim vk fx ch)):=nfPut_any R base (q+8) lim L vk fx s ch w2 h2 (Nat.le_trans HB.out HV.out.2.2.size) hlim
            obtain⟨z,hz⟩:∃z:Int,z=((ch.toNat:Nat):Int):=⟨_,rfl⟩
            rw[←hz] at hcv HPE
            clear hz hch hv h2 h3 HNM
            refine hK.out _ _ trivial (fun hHeld=>?_)
            clear hK K
            try simp only[Act.put,litE]
            refine tkI (i:=7) (v:=.int .u8 z) rfl (Or.inl ⟨by rfl,?_⟩) hHeld ?_
            · intro w' _
              go_simp
            try simp only[Act.put,litE]
            refine wpAnyH_ready (rs:=[8]) (by kernel_rfl) (by simp) ?_
            refine AllReadyH.cons rfl (fun K hK=>?_) AllReadyH.nil
            go_simp
            refine (HPE.out).mono ?_
            rintro e w4 (⟨p1,rfl,p2,p3⟩|⟨p1,rfl,p3⟩)
            · have HF:Hid (In w4 R base s (q+8) (L++[ch]) lim vk fx∧InF R base w w4∧ANS=Nf.take s lim (N-(c+1)) (q+8) (L++[ch])∧q+8≤8*s.size∧(L++[ch]).length≤lim):=
               ⟨p2,HV.out.2.2.trans p3,by rw[HX.out.2.2.1,show N-c=N-(c+1)+1 by omega,Nf.take_ok HV.out.1 p1,HV.out.2.1],hq8,by rw[List.length_append];exact p1⟩
              clear p2 p3 HPE HV HX
              refine hK.out _ _ trivial (fun hHeld=>?_)
              clear hK K
              try simp only[Act.put,litE]
              refine wpAnyH_done (by kernel_rfl) ?_ _
              try simp only[Act.put,litE]
              go_wp2_with fail
              go_roundw
              case rel=>exact⟨c+1,q+8,_,by omega,by go_num,HF⟩
              case measure=>simp[intOf];omega
            have HF:Hid (BlkEnd w R base s lim vk fx ANS (fault 3) w4):=.inr (Fails.mk (c:=3) (by rw[HX.out.2.2.1,show N-c=N-(c+1)+1 by omega,Nf.take_full HV.out.1 p1]) (by decide) (HV.out.2.2.trans p3))
            clear p3 HPE HV HX
            unfold fault
            go_wp2_with fail
            exact⟨rfl,HF.out⟩
          have HF:Hid (BlkEnd w R base s lim vk fx ANS (fault 2) w2):=.inr (Fails.mk (c:=2) (by rw[HX.out.2.2.1,show N-c=N-(c+1)+1 by omega,Nf.take_no hv]) (by decide) ((HX.out.2.1.drewN 1).trans h3))
          clear hv h3 HNM HX
          unfold fault
          go_wp2_with fail
          exact⟨rfl,HF.out⟩
        have hci:¬(c:Int)<(N:Int):=by omega
        have HF:Hid (BlkEnd w R base s lim vk fx ANS (.returned (.tuple #[])) wr):=.inl ⟨L,q,by rw[HX.out.2.2.1,show N-c=0 by omega];rfl,⟨_,rfl⟩,HX.out.1,HX.out.2.1,HX.out.2.2.2.1,HX.out.2.2.2.2⟩
        clear HX
        go_wp2_with fail
        go_end0
        exact HF.out
     have hsi:¬(N:Int)+(M:Int)=65535:=by omega
     have HF:Hid (BlkEnd w R base s lim vk fx ANS (fault 1) w3):=.inr (Fails.mk (c:=1) (by rw[HANS.out,Nf.plain_bad HW.out.1 HM.out hsum]) (by decide) HW3.out.2)
     clear HW HW3 HM HANS HI1
     go_wp2_with fail
     refine (insist_not _ 1 _ (by first|rfl|simp<;>omega)).mono ?_
     rintro e w4 ⟨rfl,hw4⟩
     replace hw4:=hw4.symm
     subst hw4
     unfold fault
     go_wp2_with fail
     exact⟨rfl,HF.out⟩
   have HF:Hid (BlkEnd w R base s lim vk fx ANS (fault 2) w3):=.inr (Fails.mk (c:=2) (by rw[HANS.out,Nf.plain_no2 HW.out.1 (by rw[←HPP.out];exact hM)]) (by decide) (HW.out.2.trans h3))
   clear hM h3 HN2
   unfold fault
   go_wp2_with fail
   exact⟨rfl,HF.out⟩
 have HF:Hid (BlkEnd w R base s lim vk fx ANS (fault 2) w2):=.inr (Fails.mk (c:=2) (by rw[HANS.out,Nf.plain_no1 (by rw[←HPP.out];exact hN)]) (by decide) (HI1.out.2.trans h3))
 clear hN h3 HN1
 unfold fault
 go_wp2_with fail
 exact⟨rfl,HF.out⟩

def Fixd (w:World) (R:Nat) (fx:Value):Prop:=
 fx=.pointer none∨∃F BA BB,fx=.pointer (some ⟨F,0,none⟩)∧w.heap[F]?=some (.cells #[.pointer (some ⟨BA,0,none⟩),.pointer (some ⟨BB,0,none⟩)] 152 (0,0))∧F≠R∧Tree w R BA Df.fixS∧Tree w R BB Df.fixD
theorem Fixd.inF {w w':World} {R base:Nat} {fx:Value} (h:Fixd w R fx) (hf:InF R base w w'):Fixd w' R fx:=by
 rcases h with h|⟨F,BA,BB,h1,h2,h3,h4,h5⟩
 · exact .inl h
 exact .inr ⟨F,BA,BB,h1,hf.block h2 h3 (by decide),h3,h4.inF hf,h5.inF hf⟩
def BlkX (w:World) (R base:Nat) (s:ByteArray) (lim:Nat) (vk:Value) (ANS:Except Nat (List UInt8×Nat)) (e:Ending) (w':World):Prop:=
 (∃L q fx,ANS=.ok (L,q)∧(∃r,e=.returned r)∧In w' R base s q L lim vk fx∧Fixd w' R fx∧InF R base w w'∧q≤8*s.size∧L.length≤lim)∨Fails ANS R base w e w'
theorem BlkEnd.x {w w':World} {R base lim:Nat} {s:ByteArray} {vk fx:Value} {ANS:Except Nat (List UInt8×Nat)} {e:Ending} (h:BlkEnd w R base s lim vk fx ANS e w') (hx:Fixd w R fx):BlkX w R base s lim vk ANS e w':=by
 rcases h with⟨L,q,h1,h2,h3,h4,h5,h6⟩|h
 · exact .inl ⟨L,q,fx,h1,h2,h3,hx.inF h4,h4,h5,h6⟩
 exact .inr h
theorem fixS_good:GoodC Df.fixS:=goodC Df.fixS_ok
theorem fixD_good:GoodC Df.fixD:=goodC Df.fixD_ok
theorem Treed.tree {w w':World} {zs:List Int} {e:Ending} {R:Nat} (h:Treed w zs e w') (hR:R<w.heap.size):e=.returned (.pointer (some ⟨w.heap.size,0,none⟩))∧Tree w' R w.heap.size zs∧Below w.heap.size w w':=by
 obtain⟨h1,⟨N,h2,h3⟩,h4⟩:=h
 exact⟨h1,⟨w.heap.size,N,hR,h2,h3⟩,h4⟩
theorem DRow.ints' {w:World} {g:Nat} {l:List Int} (h:DRow w g l):Ints w (some ⟨g,0,none⟩) l:=.inr ⟨g,0,rfl,h.lt,fun i hi=>by rw[Nat.zero_add];exact h.cell i hi⟩
theorem In.setFx {w:World} {R base p lim:Nat} {s:ByteArray} {l:List UInt8} {vk fx:Value} (h:In w R base s p l lim vk fx) (v:Value):In (w.setCell ⟨R,6,none⟩ v) R base s p l lim vk v∧InF R base w (w.setCell ⟨R,6,none⟩ v):=⟨(h.setFixed v).1,InF.of_only (h.setFixed v).2⟩

set_option maxHeartbeats 4000000 in
set_option maxRecDepth 20000 in
theorem nfFixed_any (R base p lim:Nat) (l:List UInt8) (vk fx:Value) (s:ByteArray) (w:World) (h:In w R base s p l lim vk fx) (hx:Fixd w R fx) (hb:base≤w.heap.size) (hs:s.size≤9000) (hp:p≤8*s.size) (hl:l.length≤lim) (hlim:lim≤5000):
 Calls Tryz.prog 84 #[.pointer (some ⟨R,0,none⟩)] w (BlkX w R base s lim vk (Nf.body s lim Df.fixS Df.fixD Nf.fuel p l)):=by
 have f6:=h.froz 6
 have c6:=h.cells.2.2.2.2.2
 have HI:Hid (In w R base s p l lim vk fx∧base≤w.heap.size):=⟨h,hb⟩
 obtain⟨ANS,hANS⟩:∃r,r=Nf.body s lim Df.fixS Df.fixD Nf.fuel p l:=⟨_,rfl⟩
 have HBD:Hid (∀(W:World) (F BA BB:Nat),In W R base s p l lim vk (.pointer (some ⟨F,0,none⟩))→base≤W.heap.size→W.heap[F]?=some (.cells #[.pointer (some ⟨BA,0,none⟩),.pointer (some ⟨BB,0,none⟩)] 152 (0,0))→F≠R→Tree W R BA Df.fixS→Tree W R BB Df.fixD→InF R base w W→
  Calls Tryz.prog 110 #[.pointer (some ⟨R,0,none⟩),.agg #[.pointer (some ⟨BA,0,none⟩),.pointer (some ⟨BB,0,none⟩)]] W (BlkX w R base s lim vk ANS)):=fun W F BA BB k1 k2 k3 k4 k5 k6 k7=>by
  rw[hANS]
  refine (nfBody_any R base p lim BA BB l vk _ s Df.fixS Df.fixD W k1 k2 hs hp hl hlim k5 k6 fixS_good fixD_good (by rw[Df.fixS_len];omega)).mono ?_
  intro e w' g
  rcases g.x (.inr ⟨F,BA,BB,rfl,k3,k4,k5,k6⟩) with⟨L,q,fx,h1,h2,h3,h4,h5,h6⟩|⟨c,h1,h2,h3,h4⟩
  · exact .inl ⟨L,q,fx,h1,h2,h3,h4,k7.trans h5,h6⟩
  exact .inr ⟨c,h1,h2,h3,k7.trans h4⟩
 rw[←hANS]
 clear hANS h hb
 rcases hx with rfl|⟨F,BA,BB,rfl,k1,k2,k3,k4⟩
 · clear hp hl
   go_enter Tryz.func84,Tryz.ntmps84
   go_wp2_with fail
   refine (fixedLengths_any w).mono ?_
   rintro e w1 ⟨⟨b1,b2,rfl,h1,h2,d1,d2⟩,bl1⟩
   have HD:Hid (DRow w1 b1 Df.fixS∧DRow w1 b2 Df.fixD∧Below w.heap.size w w1∧R<w1.heap.size):=⟨d1,d2,bl1,Nat.lt_of_lt_of_le HI.out.1.lt bl1.size⟩
   have HT1:Hid (Calls Tryz.prog 109 #[.slice (some ⟨b1,0,none⟩) 288 288] w1 (Treed w1 Df.fixS)):=numberTree_any _ 288 288 Df.fixS w1 d1.ints' Df.fixS_len fixS_good
   clear h1 h2 d1 d2 bl1 c6
   go_wp2_with fail
   refine HT1.out.mono ?_
   intro e w2 ht
   obtain⟨rfl,t1,bl2⟩:=ht.tree HD.out.2.2.2
   have HT2:Hid (Calls Tryz.prog 109 #[.slice (some ⟨b2,0,none⟩) 32 32] w2 (Treed w2 Df.fixD)):=numberTree_any _ 32 32 Df.fixD w2 (HD.out.2.1.kept (bl2.block b2 HD.out.2.1.lt)).ints' Df.fixD_len fixD_good
   have HE:Hid (Tree w2 R w1.heap.size Df.fixS∧Below w.heap.size w w2∧R<w2.heap.size):=⟨t1,HD.out.2.2.1.trans (bl2.mono HD.out.2.2.1.size),Nat.lt_of_lt_of_le HD.out.2.2.2 bl2.size⟩
   obtain⟨BA,hBA⟩:∃BA,BA=w1.heap.size:=⟨_,rfl⟩
   rw[←hBA] at HE ⊢
   clear ht t1 bl2 HT1 hBA HD
   go_wp2_with fail
   refine HT2.out.mono ?_
   intro e w3 ht
   obtain⟨rfl,t2,bl3⟩:=ht.tree HE.out.2.2
   obtain⟨BB,hBB⟩:∃BB,BB=w2.heap.size:=⟨_,rfl⟩
   rw[←hBB] at t2 ⊢
   obtain⟨F,hF⟩:∃F,F=w3.heap.size:=⟨_,rfl⟩
   obtain⟨W4,hW4⟩:∃W4,W4=w3.alloc (.cells #[.pointer (some ⟨BA,0,none⟩),.pointer (some ⟨BB,0,none⟩)] 152):=⟨_,rfl⟩
   have b4:Below w3.heap.size w3 W4:=by rw[hW4];exact (Below.refl _ _).alloc (Nat.le_refl _) _
   have bw3:Below w.heap.size w w3:=HE.out.2.1.trans (bl3.mono HE.out.2.1.size)
   have bw4:Below w.heap.size w W4:=bw3.trans (b4.mono bw3.size)
   have hI4:In W4 R base s p l lim vk (.pointer none):=HI.out.1.kept bw4
   have hc4:W4.heap[F]?=some (.cells #[.pointer (some ⟨BA,0,none⟩),.pointer (some ⟨BB,0,none⟩)] 152 (0,0)):=by rw[hW4,hF];exact heap_alloc_new _ _
   have hFR:F≠R:=by have:=HE.out.2.2;have:=bl3.size;omega
   obtain⟨W5,hW5⟩:∃W5,W5=W4.setCell ⟨R,6,none⟩ (.pointer (some ⟨F,0,none⟩)):=⟨_,rfl⟩
   have hI5:In W5 R base s p l lim vk (.pointer (some ⟨F,0,none⟩))∧InF R base W4 W5:=by rw[hW5];exact hI4.setFx _
   have hI3:=HI.out.1.kept bw3
   have g6:=hI3.froz 6
   have d6:=hI3.cells.2.2.2.2.2
   have hR3:=hI3.lt
   have g6':=hI4.froz 6
   have d6':=hI4.cells.2.2.2.2.2
   rw[hW4] at g6' d6'
   have HF5:Hid (Calls Tryz.prog 110 #[.pointer (some ⟨R,0,none⟩),.agg #[.pointer (some ⟨BA,0,none⟩),.pointer (some ⟨BB,0,none⟩)]] W5 (BlkX w R base s lim vk ANS)):=
    HBD.out W5 F BA BB hI5.1 (Nat.le_trans HI.out.2 (Nat.le_trans bw4.size hI5.2.size)) (hI5.2.block hc4 hFR (by decide)) hFR (((HE.out.1.kept bl3).kept b4).inF hI5.2) ((t2.kept b4).inF hI5.2) ((InF.of_below bw4).trans hI5.2)
   have q6:=hI5.1.cells.2.2.2.2.2
   have hc5:=hI5.2.block hc4 hFR (by decide)
   have q0:W5.cell? ⟨F,0,none⟩=some (.pointer (some ⟨BA,0,none⟩)):=by simp[World.cell?,hc5]
   have q1:W5.cell? ⟨F,1,none⟩=some (.pointer (some ⟨BB,0,none⟩)):=by simp[World.cell?,hc5]
   have hW5':W5=(w3.setCell ⟨R,6,none⟩ (.pointer (some ⟨F,0,none⟩))).alloc (.cells #[.pointer (some ⟨BA,0,none⟩),.pointer (some ⟨BB,0,none⟩)] 152):=by
    rw[hW5,hW4,World.setCell_alloc_past _ _ _ _ (by first|exact hR3|(simp;omega))]
   clear hI5 hI4 hI3 bw4 bw3 b4 hc4 hc5 t2 bl3 ht HT2 HE hBB
   go_upto_region 3 with fail
   rw[←hF,←hW5']
   clear hF hW4 hW5 hW5' g6 d6 g6' d6' hR3
   go_wp2_with fail
   refine HF5.out.mono ?_
   rintro e w6 (⟨L,q,fx,h1,⟨r,rfl⟩,h3⟩|⟨c,h1,h2,rfl,h3⟩)
   · have HF:Hid (BlkX w R base s lim vk ANS (.returned (.tuple #[])) w6):=.inl ⟨L,q,fx,h1,⟨_,rfl⟩,h3⟩
     clear h1 h3 HF5 q0 q1 q6
     go_wp2_with fail
     go_end0
     exact HF.out
   have HF:Hid (BlkX w R base s lim vk ANS (fault (c:Int)) w6):=.inr ⟨c,h1,h2,rfl,h3⟩
   clear h1 h3 HF5 q0 q1 q6
   unfold fault
   go_wp2_with fail
   exact⟨rfl,HF.out⟩
 have HF5:Hid (Calls Tryz.prog 110 #[.pointer (some ⟨R,0,none⟩),.agg #[.pointer (some ⟨BA,0,none⟩),.pointer (some ⟨BB,0,none⟩)]] w (BlkX w R base s lim vk ANS)):=
  HBD.out w F BA BB HI.out.1 HI.out.2 k1 k2 k3 k4 (InF.refl _ _ _)
 have q0:w.cell? ⟨F,0,none⟩=some (.pointer (some ⟨BA,0,none⟩)):=by simp[World.cell?,k1]
 have q1:w.cell? ⟨F,1,none⟩=some (.pointer (some ⟨BB,0,none⟩)):=by simp[World.cell?,k1]
 clear k1 k2 k3 k4 hp hl
 go_enter Tryz.func84,Tryz.ntmps84
 go_wp2_with fail
 refine HF5.out.mono ?_
 rintro e w6 (⟨L,q,fx,h1,⟨r,rfl⟩,h3⟩|⟨c,h1,h2,rfl,h3⟩)
 · have HF:Hid (BlkX w R base s lim vk ANS (.returned (.tuple #[])) w6):=.inl ⟨L,q,fx,h1,⟨_,rfl⟩,h3⟩
   clear h1 h3 HF5 q0 q1 c6
   go_wp2_with fail
   go_end0
   exact HF.out
 have HF:Hid (BlkX w R base s lim vk ANS (fault (c:Int)) w6):=.inr ⟨c,h1,h2,rfl,h3⟩
 clear h1 h3 HF5 q0 q1 c6
 unfold fault
 go_wp2_with fail
 exact⟨rfl,HF.out⟩

theorem nfNo_any (R:Nat) (w:World):
 Calls Tryz.prog 86 #[.pointer (some ⟨R,0,none⟩)] w fun e w'=>e=fault 1∧w'=w:=by
 go_enter Tryz.func86,Tryz.ntmps86
 go_wp2_with fail
 refine (insist_no 1 _).mono ?_
 rintro e w1 ⟨rfl,hw1⟩
 subst hw1
 unfold fault
 go_wp2_with fail
 exact⟨rfl,rfl,rfl⟩
end Go.Proofs.YtejebodgfoihkaaGreat
