/- The iterator over the tokens of a text: each one that is handed out can be told. -/
import Derived.Test.YtejebodgfoihkaaGreatKFInflateTwox1
import Derived.Test.YtejebodgfoihkaaGreatKFInflateTwox6
namespace Go.Proofs.YtejebodgfoihkaaGreat
open Go.RowKit Go.Shelf Go.Maps

attribute [local go_sem] Oper.semAt_some

set_option maxRecDepth 100000 in
set_option maxHeartbeats 4000000 in
theorem tokensIn1_ok (n:Nat) (hn:1≤n) (l Bt:Nat) (s:ByteArray) (hs:s.size≤5000) (J:List Tk→Nat→World→Prop) (W:World)
 (hJT:∀pre m X Y,J pre m X→Tn W.heap.size X Y→J pre m Y)
 (hY:∀pre x m W1,Df.TkOk x→J pre m W1→m≤W1.heap.size→pre.length<5000→YieldAt Fence.wide (n-1) Tryz.prog l #[tkV x] W1 fun e W'=>e=.returned (.bool true)∧J (pre++[x]) W'.heap.size W'∧KpT Bt m W1 W')
 (hbt:Bt<W.heap.size) (hc:W.cell? ⟨Bt,0,none⟩=some (.string s)) (h0:J [] W.heap.size W):
 CallsIn Fence.wide n Tryz.prog 30 #[.func (.yield l) #[] #[],.pointer (some ⟨Bt,0,none⟩)] W fun e W'=>(∃v,e=.returned v)∧∃m,J (Ty.from_ s 0) m W':=by
 have hro:Fence.wide.round=none:=rfl
 have HY:Hid (∀(pre:List Tk) (x:Tk) (m:Nat) (W1:World),Df.TkOk x→J pre m W1→m≤W1.heap.size→pre.length<5000→YieldAt Fence.wide (n-1) Tryz.prog l #[tkV x] W1 fun e W'=>e=.returned (.bool true)∧J (pre++[x]) W'.heap.size W'∧KpT Bt m W1 W'):=hY
 have HJ:Hid (∀(pre:List Tk) (m:Nat) (X Y:World),J pre m X→Tn W.heap.size X Y→J pre m Y):=hJT
 have HTK:Hid (∀(A:Nat) (w:World),A<s.size→Seen s W.heap.size A w→Calls Tryz.prog 31 #[.map (some W.heap.size),.string s,.int .i64 (A:Int)] w (TokEnd s A w)):=fun A w hA hS=>by
  by_cases h3:A+3≤s.size
  · exact token_yes s _ A w (by omega) h3 hS
  exact token_no s _ A w (by omega) hA h3
 have HAD:Hid (∀(A:Nat) (w:World),A<s.size→Seen s W.heap.size A w→Calls Tryz.prog 32 #[.map (some W.heap.size),.string s,.int .i64 (A:Int)] w (AddEnd s W.heap.size A w)):=fun A w hA hS=>add_any s _ A w (by omega) hA hS
 have HS0:Hid (Seen s W.heap.size 0 (W.alloc (.map #[] 0))):=seen_start s W
 have hb0:Below W.heap.size W (W.alloc (.map #[] 0)):=(Below.refl _ _).alloc (Nat.le_refl _) _
 have HJ0:Hid (J [] W.heap.size (W.alloc (.map #[] 0))):=hJT _ _ _ _ h0 (Tn.below hb0 (Nat.le_refl _) (Nat.le_refl _))
 have hc0:(W.alloc (.map #[] 0)).cell? ⟨Bt,0,none⟩=some (.string s):=(hb0.cell (p:=⟨Bt,0,none⟩) hbt).trans hc
 have hmm:=@run_makeMap Tryz.prog
 clear hY hJT h0
 refine callsIn_of_wp Tryz.func30 rfl trivial ?_ hro
 simp only[Tryz.ntmps30,List.size_toArray,List.length_cons,List.length_nil,Nat.reduceAdd,Nat.reduceSub,Array.replicate_succ,Array.replicate_zero,List.push_toArray,List.append_toArray,List.nil_append,List.cons_append]
 gi_wp2
 gi_loopw [4] (fun i wr=>∃(A m:Nat) (pre:List Tk),A≤s.size∧pre.length≤A∧i=.int .i64 (A:Int)∧Hid (Ty.from_ s 0=pre++Ty.from_ s A)∧Hid (J pre m wr)∧m≤wr.heap.size∧Hid (Seen s W.heap.size A wr)∧W.heap.size+1≤wr.heap.size∧wr.cell? ⟨Bt,0,none⟩=some (.string s))
  (fun i _=>s.size-(intOf i).toNat)
 case atStart=>exact⟨0,W.heap.size,[],Nat.zero_le _,Nat.zero_le _,rfl,rfl,HJ0,by simp,HS0,by simp,hc0⟩
 case round=>
  obtain⟨A,m,pre,hA,hpre,rfl,HX,HJk,hm,HSk,hBw,hck⟩:=hrel
  clear HS0 hb0 HJ0 hc0 hmm
  by_cases hlt:A<s.size
  · have hlti:(A:Int)<(s.size:Int):=by omega
    obtain⟨t0,t2,k,htok,hadv,hk⟩:=tok_parts s A
    have HX2:Hid (Ty.from_ s 0=(pre++[Ty.tok s A])++Ty.from_ s (A+Ty.adv s A)):=by
     show _=_
     rw[HX.out,Ty.from_step hlt,List.append_assoc];rfl
    have hin:=Ty.adv_in hlt
    have hav:=Ty.adv_pos s A
    have HTKc:Hid (Calls Tryz.prog 31 #[.map (some W.heap.size),.string s,.int .i64 (A:Int)] wr fun e w'=>e=.returned (.agg #[.int .i64 t0,.int .i64 (k:Int),.int .i64 t2])∧Below wr.heap.size wr w'):=by
     have h:=HTK.out A wr hlt HSk.out
     unfold TokEnd at h
     rw[htok] at h
     exact h
    rw[htok] at HX2
    have HTO:Hid (Df.TkOk (t0,(k:Int),t2)):=by
     show Df.TkOk _
     rw[←htok]
     exact Ty.tok_ok hs hlt
    generalize Ty.adv s A=av at*
    clear htok HX
    gi_wp2
    refine⟨trivial,?_⟩
    gi_wp2
    refine (callsIn_wide.2 HTKc.out).mono ?_
    rintro e w1 ⟨rfl,b1⟩
    obtain⟨w2,hw2⟩:∃w2,w2=w1.alloc (.cells #[.int .i64 t0,.int .i64 (k:Int),.int .i64 t2] 53):=⟨_,rfl⟩
    have b2:Below wr.heap.size wr w2:=by rw[hw2];exact b1.alloc b1.size _
    have HJ2:J pre m w2:=HJ.out _ _ _ _ HJk.out (Tn.below b2 (by omega) (Nat.le_refl _))
    have hs2:w2.heap.size=w1.heap.size+1:=by rw[hw2];simp
    have hS2:Seen s W.heap.size A w2:=HSk.out.below b2 (Nat.le_refl _)
    have htv:w2.heap[w1.heap.size]?=some (.cells #[.int .i64 t0,.int .i64 (k:Int),.int .i64 t2] 53 (0,0)):=by rw[hw2];exact heap_alloc_new _ _
    have hc2:w2.cell? ⟨Bt,0,none⟩=some (.string s):=(b2.cell (p:=⟨Bt,0,none⟩) (by show Bt<_;omega)).trans hck
    have hs1:=b1.size
    obtain⟨fn,tmps,assign,body,hy,hR⟩:=HY.out pre (t0,(k:Int),t2) m w2 HTO.out HJ2 (by omega) (by omega)
    dsimp only[tkV] at hy
    rw[hw2] at hy
    gi_wp2
    rw[←hw2]
    refine hR.mono ?_
    rintro e W3 ⟨rfl,hJ3,hk3⟩
    have hS3:=hS2.keptT hk3
    have htv3:=(hk3.late w1.heap.size (by omega) (by omega)).trans htv
    have hc3:W3.cell? ⟨Bt,0,none⟩=some (.string s):=(World.cell?_of_block (w:=w2) (a:=⟨Bt,0,none⟩) hk3.text).trans hc2
    have cz:W3.cell? ⟨w1.heap.size,1,none⟩=some (.int .i64 (k:Int)):=by simp[World.cell?,htv3]
    have hs3:W.heap.size+1≤W3.heap.size:=by have:=hk3.size;omega
    obtain⟨E,hE⟩:∃E,E=A+av:=⟨_,rfl⟩
    have hEb:E≤s.size:=by omega
    by_cases h1k:(1:Int)>(k:Int)
    · have eE:(A:Int)+1=(E:Int):=by rw[if_neg (by omega)] at hadv;omega
      have HJ3:Hid (J (pre++[(t0,(k:Int),t2)]) W3.heap.size W3):=hJ3
      have HS3:Hid (Seen s W.heap.size A W3):=hS3
      have hpl:(pre++[(t0,(k:Int),t2)]).length≤A+1:=by rw[List.length_append];show pre.length+1≤_;omega
      have HE:Hid (E=A+av):=hE
      have hAE:A+1≤E:=by omega
      clear hE hadv hin hav hJ3 hS3 hk3 htv htv3 hS2 HJ2 HTKc HTK HY b1 b2 hR hy HSk HJk hw2
      generalize pre++[(t0,(k:Int),t2)]=pre2 at*
      gi_wp2
      gi_loopw [4] (fun i wr2=>∃a:Nat,A≤a∧a≤E∧i=.int .i64 (a:Int)∧Hid (J pre2 W3.heap.size wr2)∧W3.heap.size≤wr2.heap.size∧Hid (Seen s W.heap.size a wr2)∧wr2.cell? ⟨Bt,0,none⟩=some (.string s)) (fun i _=>E-(intOf i).toNat)
      case atStart=>exact⟨A,Nat.le_refl _,by omega,rfl,HJ3,Nat.le_refl _,HS3,hc3⟩
      case round=>
       obtain⟨a,ha1,ha2,rfl,HJa,hsa,HSa,hca⟩:=hrel
       by_cases haE:a<E
       · have haEi:(a:Int)<(E:Int):=by omega
         have HADa:Hid (Calls Tryz.prog 32 #[.map (some W.heap.size),.string s,.int .i64 (a:Int)] wr (AddEnd s W.heap.size a wr)):=HAD.out a wr (by omega) HSa.out
         gi_wp2
         refine⟨trivial,?_⟩
         gi_wp2
         refine (callsIn_wide.2 HADa.out).mono ?_
         rintro e w5 ⟨⟨v5,rfl⟩,hS5,hT5⟩
         have HS5:Hid (Seen s W.heap.size (a+1) w5):=hS5
         have HJ5:Hid (J pre2 W3.heap.size w5):=HJ.out _ _ _ _ HJa.out hT5
         have hs5:=hT5.size
         have hc5:w5.cell? ⟨Bt,0,none⟩=some (.string s):=(World.cell?_of_block (w:=wr) (a:=⟨Bt,0,none⟩) (hT5.low.block Bt hbt)).trans hca
         clear hS5 hT5 HADa
         gi_wp2
         go_roundw
         case rel=>exact⟨a+1,by omega,by omega,by go_num,HJ5,by omega,HS5,hc5⟩
         case measure=>simp[intOf];omega
       have haEi:¬(a:Int)<(E:Int):=by omega
       have haE2:a=E:=by omega
       subst haE2
       gi_wp2
       go_roundw
       case rel=>exact⟨a,W3.heap.size,pre2,by omega,by omega,rfl,by rw[HE.out];exact HX2,HJa,by omega,HSa,by omega,hca⟩
       case measure=>simp[intOf];omega
    have eE:(A:Int)+(k:Int)=(E:Int):=by
     by_cases h2:1<k
     · rw[if_pos h2] at hadv;omega
     rw[if_neg h2] at hadv;omega
    have HJ3:Hid (J (pre++[(t0,(k:Int),t2)]) W3.heap.size W3):=hJ3
    have HS3:Hid (Seen s W.heap.size A W3):=hS3
    have hpl:(pre++[(t0,(k:Int),t2)]).length≤A+1:=by rw[List.length_append];show pre.length+1≤_;omega
    have HE:Hid (E=A+av):=hE
    have hAE:A+1≤E:=by omega
    clear hE hadv hin hav hJ3 hS3 hk3 htv htv3 hS2 HJ2 HTKc HTK HY b1 b2 hR hy HSk HJk hw2
    generalize pre++[(t0,(k:Int),t2)]=pre2 at*
    gi_wp2
    gi_loopw [4] (fun i wr2=>∃a:Nat,A≤a∧a≤E∧i=.int .i64 (a:Int)∧Hid (J pre2 W3.heap.size wr2)∧W3.heap.size≤wr2.heap.size∧Hid (Seen s W.heap.size a wr2)∧wr2.cell? ⟨Bt,0,none⟩=some (.string s)) (fun i _=>E-(intOf i).toNat)
    case atStart=>exact⟨A,Nat.le_refl _,by omega,rfl,HJ3,Nat.le_refl _,HS3,hc3⟩
    case round=>
     obtain⟨a,ha1,ha2,rfl,HJa,hsa,HSa,hca⟩:=hrel
     by_cases haE:a<E
     · have haEi:(a:Int)<(E:Int):=by omega
       have HADa:Hid (Calls Tryz.prog 32 #[.map (some W.heap.size),.string s,.int .i64 (a:Int)] wr (AddEnd s W.heap.size a wr)):=HAD.out a wr (by omega) HSa.out
       gi_wp2
       refine⟨trivial,?_⟩
       gi_wp2
       refine (callsIn_wide.2 HADa.out).mono ?_
       rintro e w5 ⟨⟨v5,rfl⟩,hS5,hT5⟩
       have HS5:Hid (Seen s W.heap.size (a+1) w5):=hS5
       have HJ5:Hid (J pre2 W3.heap.size w5):=HJ.out _ _ _ _ HJa.out hT5
       have hs5:=hT5.size
       have hc5:w5.cell? ⟨Bt,0,none⟩=some (.string s):=(World.cell?_of_block (w:=wr) (a:=⟨Bt,0,none⟩) (hT5.low.block Bt hbt)).trans hca
       clear hS5 hT5 HADa
       gi_wp2
       go_roundw
       case rel=>exact⟨a+1,by omega,by omega,by go_num,HJ5,by omega,HS5,hc5⟩
       case measure=>simp[intOf];omega
     have haEi:¬(a:Int)<(E:Int):=by omega
     have haE2:a=E:=by omega
     subst haE2
     gi_wp2
     go_roundw
     case rel=>exact⟨a,W3.heap.size,pre2,by omega,by omega,rfl,by rw[HE.out];exact HX2,HJa,by omega,HSa,by omega,hca⟩
     case measure=>simp[intOf];omega
  have hlti:¬(A:Int)<(s.size:Int):=by omega
  have HE:Hid (∃m,J (Ty.from_ s 0) m wr):=⟨m,by rw[HX.out,Ty.from_end hlt,List.append_nil];exact HJk.out⟩
  gi_wp2
  go_end0
  exact⟨⟨_,rfl⟩,HE.out⟩
end Go.Proofs.YtejebodgfoihkaaGreat
