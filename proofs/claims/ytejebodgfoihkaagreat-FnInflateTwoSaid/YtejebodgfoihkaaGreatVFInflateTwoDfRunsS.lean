/- Lengths as symbols, as the specification has them. -/
import Derived.Test.YtejebodgfoihkaaGreatKFInflateTwox0a
import Derived.Deep.RegionHeld
import Derived.Test.YtejebodgfoihkaaGreatKFInflateTwox0
namespace Go.Proofs.YtejebodgfoihkaaGreat
open Go.RowKit

theorem info_run3:(Tryz.prog.info? 129).map (fun i=>(i.zero,i.size,i.bytes))=some (some (.agg #[.int .i64 0,.int .i64 0,.int .i64 0]),3,24):=by kernel_rfl
theorem hbw_cell {w w':World} {b off:Nat} {l:List Int} (h:Ints w (some ⟨b,off,none⟩) l) (hb:Below w.heap.size w w') {i:Nat} (hi:i<l.length):w'.cell? ⟨b,off+i,none⟩=some (.int .i64 l[i]):=by
 obtain⟨b',off',e,hlt,hc⟩:=h.at hi
 cases e
 exact (hb.cell (p:=⟨b,off+i,none⟩) hlt).trans hc
theorem below_drewN (B:Nat) (w:World) (q:Nat):Below B w (w.drewN q):=⟨rfl,rfl,rfl,Nat.le_refl _,fun _ _=>rfl⟩
def RunsEnd (w:World) (l:List Tk) (e:Ending) (w':World):Prop:=(∃a n cap,e=.returned (.slice a n cap)∧Own3 129 w' w.heap.size (.slice a n cap) n l)∧Below w.heap.size w w'

set_option linter.unusedSimpArgs false in
set_option maxHeartbeats 4000000 in
set_option maxRecDepth 20000 in
theorem l5Runs_any (a:Option Addr) (L cap:Nat) (l:List Int) (w:World) (h:Ints w a l) (hL:l.length=L) (hLb:L≤1000):
 Calls Tryz.prog 80 #[.slice a L cap] w (RunsEnd w (Df.runs l)):=by
 have HI:Hid (Ints w a l):=h
 have HL:Hid (l.length=L):=hL
 have HAL:Hid (∀(w':World) (p:Nat),Below w.heap.size w w'→p<L→Calls Tryz.prog 105 #[.slice a L cap,.int .i64 (p:Int)] w' fun e w''=>e=.returned (.int .i64 ((Df.alike l p:Nat):Int))∧∃q,w''=w'.drewN q):=fun w' p b hp=>l5Alike_any a L cap p l w' (h.kept b) hL hLb hp
 clear h hL
 obtain⟨base,hbase⟩:∃base,base=w.heap.size:=⟨_,rfl⟩
 obtain⟨wb,hwb⟩:∃wb,wb=w:=⟨_,rfl⟩
 have HO0:Hid (Own3 129 (w.alloc (.cells #[] 129)) base (.slice (some ⟨w.heap.size,0,none⟩) 0 0) 0 []∧Below base wb (w.alloc (.cells #[] 129))):=by
  rw[hbase,hwb]
  exact⟨World.ownsRow_lit w #[] 0 (Nat.le_refl _) (by decide) rfl,(Below.refl _ _).alloc (Nat.le_refl _) _⟩
 have HBB:Hid (base=w.heap.size∧wb=w):=⟨hbase,hwb⟩
 clear hbase hwb
 go_enter Tryz.func80,Tryz.ntmps80
 go_wp2_with fail
 go_loopw [3,4] (fun o i wr=>∃(p m:Nat) (xs:List Tk) (ao:Option Addr) (c:Nat),p≤L∧m≤p∧i=.int .i64 (p:Int)∧o=.slice ao m c∧Hid (Df.runs l=xs++Df.runsFrom l p)∧Hid (Own3 129 wr base (.slice ao m c) m xs∧Below base wb wr)) (fun _ i _=>L-(intOf i).toNat)
 case atStart=>exact⟨0,0,[],_,_,Nat.zero_le _,Nat.le_refl _,rfl,rfl,rfl,HO0⟩
 case round=>
  obtain⟨p,m,xs,ao,c,hp,hmp,rfl,rfl,HR,HO⟩:=hrel
  clear HO0
  by_cases hlt:p<L
  · have hpi:(p:Int)<(L:Int):=by omega
    have hpl:p<l.length:=by rw[HL.out];exact hlt
    have HBW:Hid (Below w.heap.size w wr):=by have h:=HO.out.2;rw[HBB.out.1,HBB.out.2] at h;exact h
    have hA1:=Df.alike_pos l p
    have hA2:=Df.alike_le hpl
    have HA:=HAL.out wr p HBW.out hlt
    obtain⟨A,hAe⟩:∃A,A=Df.alike l p:=⟨_,rfl⟩
    rw[←hAe] at HA hA1 hA2
    rw[HL.out] at hA2
    have HAE:Hid (A=Df.alike l p):=hAe
    have HAH:Hid _:=HA
    obtain⟨b,off,rfl,hbw,hcp⟩:=HI.out.at hpl
    have hv:l[p]=l.getD p 0:=by rw[List.getD_eq_getElem?_getD,List.getElem?_eq_getElem hpl];rfl
    rw[hv] at hcp
    obtain⟨v,hve⟩:∃v,v=l.getD p 0:=⟨_,rfl⟩
    rw[←hve] at hcp
    have HV:Hid (v=l.getD p 0):=hve
    have hcr:=(HBW.out.cell (p:=⟨b,off+p,none⟩) hbw).trans hcp
    have HBS:Hid (base≤wr.heap.size):=by show _≤_;rw[HBB.out.1];exact HBW.out.size
    have HPR:Hid (0<p→∃u,u=l.getD (p-1) 0∧wr.cell? ⟨b,off+(p-1),none⟩=some (.int .i64 u)):=fun h0=>by
     refine⟨_,rfl,?_⟩
     have h1:p-1<l.length:=by omega
     rw[hbw_cell HI.out HBW.out h1,List.getD_eq_getElem?_getD,List.getElem?_eq_getElem h1]
     rfl
    clear HA hAe hv hve hcp
    go_wp2_with fail
    refine (show Calls _ _ _ _ _ from HAH.out).mono ?_
    rintro e w1 ⟨rfl,qd,hw1⟩
    have HO1:Hid (Own3 129 w1 base (.slice ao m c) m xs∧Below base wb w1):=by
     rw[hw1]
     exact⟨HO.out.1,HO.out.2.trans (below_drewN base wr qd)⟩
    have hb1:base≤w1.heap.size:=by rw[hw1];exact HBS.out
    have hc1:w1.cell? ⟨b,off+p,none⟩=some (.int .i64 v):=by rw[hw1];exact hcr
    have HP1:Hid (0<p→∃u,u=l.getD (p-1) 0∧w1.cell? ⟨b,off+(p-1),none⟩=some (.int .i64 u)):=by rw[hw1];exact HPR.out
    clear hw1 HO hcr HPR HAH HBS HBW
    by_cases hv0:v=0
    · have hvb:(v==0)=true:=by simp[hv0]
      by_cases h11:11≤A
      · have h11i:(11:Int)≤(A:Int):=by omega
        obtain⟨M,hM⟩:∃M,M=min A 138:=⟨_,rfl⟩
        have hMb:11≤M∧M≤A:=by omega
        have HLS:Hid (∀w:World,Calls Tryz.prog 106 #[.int .i64 (A:Int),.int .i64 138] w fun e w'=>e=.returned (.int .i64 (M:Int))∧w'=w):=fun w=>by rw[hM];exact l5Least_any A 138 w
        obtain⟨E,hE⟩:∃E,E=M-11:=⟨_,rfl⟩
        have eE:(M:Int)-11=(E:Int):=by omega
        obtain⟨P2,hP2⟩:∃P2,P2=p+M:=⟨_,rfl⟩
        have eP2:(p:Int)+(M:Int)=(P2:Int):=by omega
        have hP2L:P2≤L:=by omega
        have hP2p:p<P2:=by omega
        have HRN:Hid ((Df.run l p).1::Df.runsFrom l (p+(Df.run l p).2)=(18,(E:Int),7)::Df.runsFrom l P2):=by
         show _=_
         have e:Df.run l p=((18,(E:Int),7),M):=by
          unfold Df.run
          rw[if_pos ⟨by rw[←HV.out];exact hv0,by rw[←HAE.out];exact h11⟩,←HAE.out,←hM,←hE]
         rw[e,hP2]
        subst hv0
        clear hM hE hP2 HAE HV
        go_wp2_with fail
        refine (HLS.out _).mono ?_
        rintro e w2 ⟨rfl,hw2⟩
        replace hw2:=hw2.symm
        subst hw2
        go_wp2_with (at_builtin;refine wpList_app3 info_run3 Tryz.underlying126 w1 (by rfl) _ _ (by rfl) base _ m xs 18 (E:Int) 7 (by rfl) HO1.out.1 (by rfl) (by omega) hb1 ?_)
        intro g7 cap7 w7 hown7 hb7
        have HF:Hid (Own3 129 w7 base (.slice (some ⟨g7,0,none⟩) (m+1) cap7) (m+1) (xs++[(18,(E:Int),7)])∧Below base wb w7):=⟨hown7,HO1.out.2.trans hb7⟩
        have HR2:Hid (Df.runs l=xs++[(18,(E:Int),7)]++Df.runsFrom l P2):=by
         show _=_
         rw[HR.out,Df.runs_step hpl,HRN.out,List.append_assoc]
         rfl
        clear hown7 hb7 HO1 HR HRN
        go_wp2_with fail
        go_roundw
        case rel=>exact⟨P2,m+1,_,_,_,by omega,by omega,by go_num,rfl,HR2,HF⟩
        case measure=>simp[intOf];omega
      have h11i:¬(11:Int)≤(A:Int):=by omega
      by_cases h3:3≤A
      · have h3i:(3:Int)≤(A:Int):=by omega
        obtain⟨E,hE⟩:∃E,E=A-3:=⟨_,rfl⟩
        have eE:(A:Int)-3=(E:Int):=by omega
        obtain⟨P2,hP2⟩:∃P2,P2=p+A:=⟨_,rfl⟩
        have eP2:(p:Int)+(A:Int)=(P2:Int):=by omega
        have hP2L:P2≤L:=by omega
        have hP2p:p<P2:=by omega
        have HRN:Hid ((Df.run l p).1::Df.runsFrom l (p+(Df.run l p).2)=(17,(E:Int),3)::Df.runsFrom l P2):=by
         show _=_
         have e:Df.run l p=((17,(E:Int),3),A):=by
          unfold Df.run
          rw[if_neg (fun h=>h11 (by rw[HAE.out];exact h.2)),if_pos ⟨by rw[←HV.out];exact hv0,by rw[←HAE.out];exact h3⟩,←HAE.out,←hE]
         rw[e,hP2]
        subst hv0
        clear hE hP2 HAE HV
        go_wp2_with (at_builtin;refine wpList_app3 info_run3 Tryz.underlying126 w1 (by rfl) _ _ (by rfl) base _ m xs 17 (E:Int) 3 (by rfl) HO1.out.1 (by rfl) (by omega) hb1 ?_)
        intro g7 cap7 w7 hown7 hb7
        have HF:Hid (Own3 129 w7 base (.slice (some ⟨g7,0,none⟩) (m+1) cap7) (m+1) (xs++[(17,(E:Int),3)])∧Below base wb w7):=⟨hown7,HO1.out.2.trans hb7⟩
        have HR2:Hid (Df.runs l=xs++[(17,(E:Int),3)]++Df.runsFrom l P2):=by
         show _=_
         rw[HR.out,Df.runs_step hpl,HRN.out,List.append_assoc]
         rfl
        clear hown7 hb7 HO1 HR HRN
        go_wp2_with fail
        go_roundw
        case rel=>exact⟨P2,m+1,_,_,_,by omega,by omega,by go_num,rfl,HR2,HF⟩
        case measure=>simp[intOf];omega
      have h3i:¬(3:Int)≤(A:Int):=by omega
      subst hv0
      by_cases hp0:0<p
      · obtain⟨u,hue,hcu⟩:=HP1.out hp0
        have HUE:Hid (u=l.getD (p-1) 0):=hue
        have d0:decide ((p:Int)>0)=true:=decide_eq_true (by omega)
        have h0i:(0:Int)<(p:Int):=by omega
        have em:(p:Int)-1=((p-1:Nat):Int):=by omega
        obtain⟨pm,hpm⟩:∃pm,pm=p-1:=⟨_,rfl⟩
        rw[←hpm] at em hcu HUE
        have HPM:Hid (pm=p-1):=hpm
        have wpm:=wrap_i64_nat pm (by omega)
        have hpmi:(pm:Int)<(L:Int):=by omega
        clear hue hpm HP1
        by_cases huv:u=0
        · subst huv
          have d3:((0:Int)==0)=true:=rfl
          have h3j:decide ((3:Int)≤(A:Int))=false:=decide_eq_false h3i
          obtain⟨P2,hP2⟩:∃P2,P2=p+1:=⟨_,rfl⟩
          have eP2:(p:Int)+(1:Int)=(P2:Int):=by omega
          have hP2L:P2≤L:=by omega
          have hP2p:p<P2:=by omega
          have HRN:Hid ((Df.run l p).1::Df.runsFrom l (p+(Df.run l p).2)=(0,0,0)::Df.runsFrom l P2):=by
           show _=_
           have e:Df.run l p=((0,0,0),1):=by
            unfold Df.run
            rw[if_neg (fun h=>h11 (by rw[HAE.out];exact h.2)),if_neg (fun h=>h3 (by rw[HAE.out];exact h.2)),if_neg (fun h=>h3 (by rw[HAE.out];exact h.2.2)),←HV.out]
           rw[e,hP2]
          clear hP2 HAE HV
          go_wp2_with fail
          refine wp_region_held_drew (S:=fun w2=>w2.cell? ⟨b,off+p,none⟩=some (.int .i64 0)∧w2.cell? ⟨b,off+pm,none⟩=some (.int .i64 0)) (by kernel_rfl) ⟨hc1,hcu⟩ (fun hHeld=>?_)
          refine tkI (i:=0) (v:=(.int .i64 (p:Int))) rfl (Or.inl ⟨by rfl,?_⟩) hHeld ?_
          · intro w2 hSw
            obtain⟨q1,q2⟩:=hSw
            go_simp
          try simp only[Act.put,litE]
          refine tkI (i:=1) (v:=(.bool true)) rfl (Or.inl ⟨by rfl,?_⟩) hHeld ?_
          · intro w2 hSw
            obtain⟨q1,q2⟩:=hSw
            go_simp
          try simp only[Act.put,litE]
          refine tkI (i:=2) (v:=(.bool true)) rfl (Or.inl ⟨by rfl,?_⟩) hHeld ?_
          · intro w2 hSw
            obtain⟨q1,q2⟩:=hSw
            go_simp
          try simp only[Act.put,litE]
          refine tkI (i:=3) (v:=(.slice (some ⟨b,off,none⟩) L cap)) rfl (Or.inl ⟨by rfl,?_⟩) hHeld ?_
          · intro w2 hSw
            obtain⟨q1,q2⟩:=hSw
            go_simp
          try simp only[Act.put,litE]
          refine tkI (i:=4) (v:=(.int .i64 (p:Int))) rfl (Or.inl ⟨by rfl,?_⟩) hHeld ?_
          · intro w2 hSw
            obtain⟨q1,q2⟩:=hSw
            go_simp
          try simp only[Act.put,litE]
          refine tkI (i:=5) (v:=(.pointer (some ⟨b,off+p,none⟩))) rfl (Or.inl ⟨by rfl,?_⟩) hHeld ?_
          · intro w2 hSw
            obtain⟨q1,q2⟩:=hSw
            go_simp
          try simp only[Act.put,litE]
          refine tkI (i:=6) (v:=(.int .i64 0)) rfl (Or.inl ⟨by rfl,?_⟩) hHeld ?_
          · intro w2 hSw
            obtain⟨q1,q2⟩:=hSw
            go_simp
          try simp only[Act.put,litE]
          refine tkI (i:=7) (v:=(.slice (some ⟨b,off,none⟩) L cap)) rfl (Or.inl ⟨by rfl,?_⟩) hHeld ?_
          · intro w2 hSw
            obtain⟨q1,q2⟩:=hSw
            go_simp
          try simp only[Act.put,litE]
          refine tkI (i:=8) (v:=(.int .i64 (p:Int))) rfl (Or.inl ⟨by rfl,?_⟩) hHeld ?_
          · intro w2 hSw
            obtain⟨q1,q2⟩:=hSw
            go_simp
          try simp only[Act.put,litE]
          refine tkI (i:=9) (v:=(.int .i64 (pm:Int))) rfl (Or.inl ⟨by rfl,?_⟩) hHeld ?_
          · intro w2 hSw
            obtain⟨q1,q2⟩:=hSw
            go_simp
          try simp only[Act.put,litE]
          refine tkI (i:=10) (v:=(.pointer (some ⟨b,off+pm,none⟩))) rfl (Or.inl ⟨by rfl,?_⟩) hHeld ?_
          · intro w2 hSw
            obtain⟨q1,q2⟩:=hSw
            go_simp
          try simp only[Act.put,litE]
          refine tkI (i:=11) (v:=(.int .i64 0)) rfl (Or.inl ⟨by rfl,?_⟩) hHeld ?_
          · intro w2 hSw
            obtain⟨q1,q2⟩:=hSw
            go_simp
          try simp only[Act.put,litE]
          refine tkI (i:=12) (v:=(.bool true)) rfl (Or.inl ⟨by rfl,?_⟩) hHeld ?_
          · intro w2 hSw
            obtain⟨q1,q2⟩:=hSw
            go_simp
          try simp only[Act.put,litE]
          refine tkI (i:=13) (v:=(.bool true)) rfl (Or.inl ⟨by rfl,?_⟩) hHeld ?_
          · intro w2 hSw
            obtain⟨q1,q2⟩:=hSw
            go_simp
          try simp only[Act.put,litE]
          refine tkI (i:=14) (v:=(.bool true)) rfl (Or.inl ⟨by rfl,?_⟩) hHeld ?_
          · intro w2 hSw
            obtain⟨q1,q2⟩:=hSw
            go_simp
          try simp only[Act.put,litE]
          refine tkI (i:=15) (v:=(.int .i64 (A:Int))) rfl (Or.inl ⟨by rfl,?_⟩) hHeld ?_
          · intro w2 hSw
            obtain⟨q1,q2⟩:=hSw
            go_simp
          try simp only[Act.put,litE]
          refine tkI (i:=16) (v:=(.bool false)) rfl (Or.inl ⟨by rfl,?_⟩) hHeld ?_
          · intro w2 hSw
            obtain⟨q1,q2⟩:=hSw
            go_simp
          try simp only[Act.put,litE]
          refine tkI (i:=17) (v:=(.bool false)) rfl (Or.inl ⟨by rfl,?_⟩) hHeld ?_
          · intro w2 hSw
            obtain⟨q1,q2⟩:=hSw
            go_simp
          try simp only[Act.put,litE]
          refine tkI (i:=18) (v:=(.bool false)) rfl (Or.inl ⟨by rfl,?_⟩) hHeld ?_
          · intro w2 hSw
            obtain⟨q1,q2⟩:=hSw
            go_simp
          try simp only[Act.put,litE]
          refine wpAnyH_done (by kernel_rfl) ?_ _
          try simp only[Act.put,litE]
          have HOD:Hid (Own3 129 w1.drew base (.slice ao m c) m xs∧Below base wb w1.drew):=⟨HO1.out.1,HO1.out.2.trans (below_drewN base w1 1)⟩
          clear HO1
          go_wp2_with (at_builtin;refine wpList_app3 info_run3 Tryz.underlying126 w1.drew (by rfl) _ _ (by rfl) base _ m xs 0 0 0 (by rfl) HOD.out.1 (by rfl) (by omega) (show base≤w1.drew.heap.size from hb1) ?_)
          intro g7 cap7 w7 hown7 hb7
          have HF:Hid (Own3 129 w7 base (.slice (some ⟨g7,0,none⟩) (m+1) cap7) (m+1) (xs++[(0,0,0)])∧Below base wb w7):=⟨hown7,HOD.out.2.trans hb7⟩
          have HR2:Hid (Df.runs l=xs++[(0,0,0)]++Df.runsFrom l P2):=by
           show _=_
           rw[HR.out,Df.runs_step hpl,HRN.out,List.append_assoc]
           rfl
          clear hown7 hb7 HOD HR HRN
          go_wp2_with fail
          go_roundw
          case rel=>exact⟨P2,m+1,_,_,_,by omega,by omega,by go_num,rfl,HR2,HF⟩
          case measure=>simp[intOf];omega
        have d3:((0:Int)==u)=false:=beq_eq_false_iff_ne.2 (fun h=>huv h.symm)
        obtain⟨P2,hP2⟩:∃P2,P2=p+1:=⟨_,rfl⟩
        have eP2:(p:Int)+(1:Int)=(P2:Int):=by omega
        have hP2L:P2≤L:=by omega
        have hP2p:p<P2:=by omega
        have HRN:Hid ((Df.run l p).1::Df.runsFrom l (p+(Df.run l p).2)=(0,0,0)::Df.runsFrom l P2):=by
         show _=_
         have e:Df.run l p=((0,0,0),1):=by
          unfold Df.run
          rw[if_neg (fun h=>h11 (by rw[HAE.out];exact h.2)),if_neg (fun h=>h3 (by rw[HAE.out];exact h.2)),if_neg (fun h=>h3 (by rw[HAE.out];exact h.2.2)),←HV.out]
         rw[e,hP2]
        clear hP2 HAE HV
        go_wp2_with fail
        refine wp_region_held_drew (S:=fun w2=>w2.cell? ⟨b,off+p,none⟩=some (.int .i64 0)∧w2.cell? ⟨b,off+pm,none⟩=some (.int .i64 u)) (by kernel_rfl) ⟨hc1,hcu⟩ (fun hHeld=>?_)
        refine tkI (i:=0) (v:=(.int .i64 (p:Int))) rfl (Or.inl ⟨by rfl,?_⟩) hHeld ?_
        · intro w2 hSw
          obtain⟨q1,q2⟩:=hSw
          go_simp
        try simp only[Act.put,litE]
        refine tkI (i:=1) (v:=(.bool true)) rfl (Or.inl ⟨by rfl,?_⟩) hHeld ?_
        · intro w2 hSw
          obtain⟨q1,q2⟩:=hSw
          go_simp
        try simp only[Act.put,litE]
        refine tkI (i:=2) (v:=(.bool true)) rfl (Or.inl ⟨by rfl,?_⟩) hHeld ?_
        · intro w2 hSw
          obtain⟨q1,q2⟩:=hSw
          go_simp
        try simp only[Act.put,litE]
        refine tkI (i:=3) (v:=(.slice (some ⟨b,off,none⟩) L cap)) rfl (Or.inl ⟨by rfl,?_⟩) hHeld ?_
        · intro w2 hSw
          obtain⟨q1,q2⟩:=hSw
          go_simp
        try simp only[Act.put,litE]
        refine tkI (i:=4) (v:=(.int .i64 (p:Int))) rfl (Or.inl ⟨by rfl,?_⟩) hHeld ?_
        · intro w2 hSw
          obtain⟨q1,q2⟩:=hSw
          go_simp
        try simp only[Act.put,litE]
        refine tkI (i:=5) (v:=(.pointer (some ⟨b,off+p,none⟩))) rfl (Or.inl ⟨by rfl,?_⟩) hHeld ?_
        · intro w2 hSw
          obtain⟨q1,q2⟩:=hSw
          go_simp
        try simp only[Act.put,litE]
        refine tkI (i:=6) (v:=(.int .i64 0)) rfl (Or.inl ⟨by rfl,?_⟩) hHeld ?_
        · intro w2 hSw
          obtain⟨q1,q2⟩:=hSw
          go_simp
        try simp only[Act.put,litE]
        refine tkI (i:=7) (v:=(.slice (some ⟨b,off,none⟩) L cap)) rfl (Or.inl ⟨by rfl,?_⟩) hHeld ?_
        · intro w2 hSw
          obtain⟨q1,q2⟩:=hSw
          go_simp
        try simp only[Act.put,litE]
        refine tkI (i:=8) (v:=(.int .i64 (p:Int))) rfl (Or.inl ⟨by rfl,?_⟩) hHeld ?_
        · intro w2 hSw
          obtain⟨q1,q2⟩:=hSw
          go_simp
        try simp only[Act.put,litE]
        refine tkI (i:=9) (v:=(.int .i64 (pm:Int))) rfl (Or.inl ⟨by rfl,?_⟩) hHeld ?_
        · intro w2 hSw
          obtain⟨q1,q2⟩:=hSw
          go_simp
        try simp only[Act.put,litE]
        refine tkI (i:=10) (v:=(.pointer (some ⟨b,off+pm,none⟩))) rfl (Or.inl ⟨by rfl,?_⟩) hHeld ?_
        · intro w2 hSw
          obtain⟨q1,q2⟩:=hSw
          go_simp
        try simp only[Act.put,litE]
        refine tkI (i:=11) (v:=(.int .i64 u)) rfl (Or.inl ⟨by rfl,?_⟩) hHeld ?_
        · intro w2 hSw
          obtain⟨q1,q2⟩:=hSw
          go_simp
        try simp only[Act.put,litE]
        refine tkI (i:=12) (v:=(.bool false)) rfl (Or.inl ⟨by rfl,?_⟩) hHeld ?_
        · intro w2 hSw
          obtain⟨q1,q2⟩:=hSw
          go_simp
        try simp only[Act.put,litE]
        refine tkI (i:=13) (v:=(.bool false)) rfl (Or.inl ⟨by rfl,?_⟩) hHeld ?_
        · intro w2 hSw
          obtain⟨q1,q2⟩:=hSw
          go_simp
        try simp only[Act.put,litE]
        refine tkI (i:=14) (v:=(.bool false)) rfl (Or.inl ⟨by rfl,?_⟩) hHeld ?_
        · intro w2 hSw
          obtain⟨q1,q2⟩:=hSw
          go_simp
        try simp only[Act.put,litE]
        refine tkI (i:=15) (v:=undef) rfl (Or.inr ⟨by kernel_rfl,rfl⟩) hHeld ?_
        try simp only[Act.put,litE]
        refine tkI (i:=16) (v:=undef) rfl (Or.inr ⟨by kernel_rfl,rfl⟩) hHeld ?_
        try simp only[Act.put,litE]
        refine tkI (i:=17) (v:=(.bool false)) rfl (Or.inl ⟨by rfl,?_⟩) hHeld ?_
        · intro w2 hSw
          obtain⟨q1,q2⟩:=hSw
          go_simp
        try simp only[Act.put,litE]
        refine tkI (i:=18) (v:=(.bool false)) rfl (Or.inl ⟨by rfl,?_⟩) hHeld ?_
        · intro w2 hSw
          obtain⟨q1,q2⟩:=hSw
          go_simp
        try simp only[Act.put,litE]
        refine wpAnyH_done (by kernel_rfl) ?_ _
        try simp only[Act.put,litE]
        have HOD:Hid (Own3 129 w1.drew base (.slice ao m c) m xs∧Below base wb w1.drew):=⟨HO1.out.1,HO1.out.2.trans (below_drewN base w1 1)⟩
        clear HO1
        go_wp2_with (at_builtin;refine wpList_app3 info_run3 Tryz.underlying126 w1.drew (by rfl) _ _ (by rfl) base _ m xs 0 0 0 (by rfl) HOD.out.1 (by rfl) (by omega) (show base≤w1.drew.heap.size from hb1) ?_)
        intro g7 cap7 w7 hown7 hb7
        have HF:Hid (Own3 129 w7 base (.slice (some ⟨g7,0,none⟩) (m+1) cap7) (m+1) (xs++[(0,0,0)])∧Below base wb w7):=⟨hown7,HOD.out.2.trans hb7⟩
        have HR2:Hid (Df.runs l=xs++[(0,0,0)]++Df.runsFrom l P2):=by
         show _=_
         rw[HR.out,Df.runs_step hpl,HRN.out,List.append_assoc]
         rfl
        clear hown7 hb7 HOD HR HRN
        go_wp2_with fail
        go_roundw
        case rel=>exact⟨P2,m+1,_,_,_,by omega,by omega,by go_num,rfl,HR2,HF⟩
        case measure=>simp[intOf];omega
      have d0:decide ((p:Int)>0)=false:=decide_eq_false (by omega)
      have h0i:¬(0:Int)<(p:Int):=by omega
      clear HP1
      obtain⟨P2,hP2⟩:∃P2,P2=p+1:=⟨_,rfl⟩
      have eP2:(p:Int)+(1:Int)=(P2:Int):=by omega
      have hP2L:P2≤L:=by omega
      have hP2p:p<P2:=by omega
      have HRN:Hid ((Df.run l p).1::Df.runsFrom l (p+(Df.run l p).2)=(0,0,0)::Df.runsFrom l P2):=by
       show _=_
       have e:Df.run l p=((0,0,0),1):=by
        unfold Df.run
        rw[if_neg (fun h=>h11 (by rw[HAE.out];exact h.2)),if_neg (fun h=>h3 (by rw[HAE.out];exact h.2)),if_neg (fun h=>hp0 h.1),←HV.out]
       rw[e,hP2]
      clear hP2 HAE HV
      go_wp2_with fail
      refine wp_region_held_drew (S:=fun w2=>True) (by kernel_rfl) trivial (fun hHeld=>?_)
      refine tkI (i:=0) (v:=(.int .i64 (p:Int))) rfl (Or.inl ⟨by rfl,?_⟩) hHeld ?_
      · intro w2 hSw
        go_simp
      try simp only[Act.put,litE]
      refine tkI (i:=1) (v:=(.bool false)) rfl (Or.inl ⟨by rfl,?_⟩) hHeld ?_
      · intro w2 hSw
        go_simp
      try simp only[Act.put,litE]
      refine tkI (i:=2) (v:=(.bool false)) rfl (Or.inl ⟨by rfl,?_⟩) hHeld ?_
      · intro w2 hSw
        go_simp
      try simp only[Act.put,litE]
      refine tkI (i:=3) (v:=undef) rfl (Or.inr ⟨by kernel_rfl,rfl⟩) hHeld ?_
      try simp only[Act.put,litE]
      refine tkI (i:=4) (v:=undef) rfl (Or.inr ⟨by kernel_rfl,rfl⟩) hHeld ?_
      try simp only[Act.put,litE]
      refine tkI (i:=5) (v:=undef) rfl (Or.inr ⟨by kernel_rfl,rfl⟩) hHeld ?_
      try simp only[Act.put,litE]
      refine tkI (i:=6) (v:=undef) rfl (Or.inr ⟨by kernel_rfl,rfl⟩) hHeld ?_
      try simp only[Act.put,litE]
      refine tkI (i:=7) (v:=undef) rfl (Or.inr ⟨by kernel_rfl,rfl⟩) hHeld ?_
      try simp only[Act.put,litE]
      refine tkI (i:=8) (v:=undef) rfl (Or.inr ⟨by kernel_rfl,rfl⟩) hHeld ?_
      try simp only[Act.put,litE]
      refine tkI (i:=9) (v:=undef) rfl (Or.inr ⟨by kernel_rfl,rfl⟩) hHeld ?_
      try simp only[Act.put,litE]
      refine tkI (i:=10) (v:=undef) rfl (Or.inr ⟨by kernel_rfl,rfl⟩) hHeld ?_
      try simp only[Act.put,litE]
      refine tkI (i:=11) (v:=undef) rfl (Or.inr ⟨by kernel_rfl,rfl⟩) hHeld ?_
      try simp only[Act.put,litE]
      refine tkI (i:=12) (v:=undef) rfl (Or.inr ⟨by kernel_rfl,rfl⟩) hHeld ?_
      try simp only[Act.put,litE]
      refine tkI (i:=13) (v:=(.bool false)) rfl (Or.inl ⟨by rfl,?_⟩) hHeld ?_
      · intro w2 hSw
        go_simp
      try simp only[Act.put,litE]
      refine tkI (i:=14) (v:=(.bool false)) rfl (Or.inl ⟨by rfl,?_⟩) hHeld ?_
      · intro w2 hSw
        go_simp
      try simp only[Act.put,litE]
      refine tkI (i:=15) (v:=undef) rfl (Or.inr ⟨by kernel_rfl,rfl⟩) hHeld ?_
      try simp only[Act.put,litE]
      refine tkI (i:=16) (v:=undef) rfl (Or.inr ⟨by kernel_rfl,rfl⟩) hHeld ?_
      try simp only[Act.put,litE]
      refine tkI (i:=17) (v:=(.bool false)) rfl (Or.inl ⟨by rfl,?_⟩) hHeld ?_
      · intro w2 hSw
        go_simp
      try simp only[Act.put,litE]
      refine tkI (i:=18) (v:=(.bool false)) rfl (Or.inl ⟨by rfl,?_⟩) hHeld ?_
      · intro w2 hSw
        go_simp
      try simp only[Act.put,litE]
      refine wpAnyH_done (by kernel_rfl) ?_ _
      try simp only[Act.put,litE]
      have HOD:Hid (Own3 129 w1.drew base (.slice ao m c) m xs∧Below base wb w1.drew):=⟨HO1.out.1,HO1.out.2.trans (below_drewN base w1 1)⟩
      clear HO1
      go_wp2_with (at_builtin;refine wpList_app3 info_run3 Tryz.underlying126 w1.drew (by rfl) _ _ (by rfl) base _ m xs 0 0 0 (by rfl) HOD.out.1 (by rfl) (by omega) (show base≤w1.drew.heap.size from hb1) ?_)
      intro g7 cap7 w7 hown7 hb7
      have HF:Hid (Own3 129 w7 base (.slice (some ⟨g7,0,none⟩) (m+1) cap7) (m+1) (xs++[(0,0,0)])∧Below base wb w7):=⟨hown7,HOD.out.2.trans hb7⟩
      have HR2:Hid (Df.runs l=xs++[(0,0,0)]++Df.runsFrom l P2):=by
       show _=_
       rw[HR.out,Df.runs_step hpl,HRN.out,List.append_assoc]
       rfl
      clear hown7 hb7 HOD HR HRN
      go_wp2_with fail
      go_roundw
      case rel=>exact⟨P2,m+1,_,_,_,by omega,by omega,by go_num,rfl,HR2,HF⟩
      case measure=>simp[intOf];omega
    have hvb:(v==0)=false:=beq_eq_false_iff_ne.2 hv0
    by_cases hp0:0<p
    · obtain⟨u,hue,hcu⟩:=HP1.out hp0
      have HUE:Hid (u=l.getD (p-1) 0):=hue
      have d0:decide ((p:Int)>0)=true:=decide_eq_true (by omega)
      have h0i:(0:Int)<(p:Int):=by omega
      have em:(p:Int)-1=((p-1:Nat):Int):=by omega
      obtain⟨pm,hpm⟩:∃pm,pm=p-1:=⟨_,rfl⟩
      rw[←hpm] at em hcu HUE
      have HPM:Hid (pm=p-1):=hpm
      have wpm:=wrap_i64_nat pm (by omega)
      have hpmi:(pm:Int)<(L:Int):=by omega
      clear hue hpm HP1
      by_cases huv:u=v
      · subst huv
        have d3:(u==u)=true:=beq_self_eq_true u
        by_cases h3:3≤A
        · have h3i:(3:Int)≤(A:Int):=by omega
          obtain⟨M,hM⟩:∃M,M=min A 6:=⟨_,rfl⟩
          have hMb:3≤M∧M≤A:=by omega
          have HLS:Hid (∀w:World,Calls Tryz.prog 106 #[.int .i64 (A:Int),.int .i64 6] w fun e w'=>e=.returned (.int .i64 (M:Int))∧w'=w):=fun w=>by rw[hM];exact l5Least_any A 6 w
          obtain⟨E,hE⟩:∃E,E=M-3:=⟨_,rfl⟩
          have eE:(M:Int)-3=(E:Int):=by omega
          obtain⟨P2,hP2⟩:∃P2,P2=p+M:=⟨_,rfl⟩
          have eP2:(p:Int)+(M:Int)=(P2:Int):=by omega
          have hP2L:P2≤L:=by omega
          have hP2p:p<P2:=by omega
          have HRN:Hid ((Df.run l p).1::Df.runsFrom l (p+(Df.run l p).2)=(16,(E:Int),2)::Df.runsFrom l P2):=by
           show _=_
           have e:Df.run l p=((16,(E:Int),2),M):=by
            unfold Df.run
            rw[if_neg (fun h=>hv0 (by rw[HV.out];exact h.1)),if_neg (fun h=>hv0 (by rw[HV.out];exact h.1)),if_pos ⟨hp0,by rw[←HV.out,←HPM.out,←HUE.out],by rw[←HAE.out];exact h3⟩,←HAE.out,←hM,←hE]
           rw[e,hP2]
          clear hM hE hP2 HAE HV
          go_wp2_with fail
          refine wp_region_held_drew (S:=fun w2=>w2.cell? ⟨b,off+p,none⟩=some (.int .i64 u)∧w2.cell? ⟨b,off+pm,none⟩=some (.int .i64 u)) (by kernel_rfl) ⟨hc1,hcu⟩ (fun hHeld=>?_)
          refine tkI (i:=0) (v:=(.int .i64 (p:Int))) rfl (Or.inl ⟨by rfl,?_⟩) hHeld ?_
          · intro w2 hSw
            obtain⟨q1,q2⟩:=hSw
            go_simp
          try simp only[Act.put,litE]
          refine tkI (i:=1) (v:=(.bool true)) rfl (Or.inl ⟨by rfl,?_⟩) hHeld ?_
          · intro w2 hSw
            obtain⟨q1,q2⟩:=hSw
            go_simp
          try simp only[Act.put,litE]
          refine tkI (i:=2) (v:=(.bool true)) rfl (Or.inl ⟨by rfl,?_⟩) hHeld ?_
          · intro w2 hSw
            obtain⟨q1,q2⟩:=hSw
            go_simp
          try simp only[Act.put,litE]
          refine tkI (i:=3) (v:=(.slice (some ⟨b,off,none⟩) L cap)) rfl (Or.inl ⟨by rfl,?_⟩) hHeld ?_
          · intro w2 hSw
            obtain⟨q1,q2⟩:=hSw
            go_simp
          try simp only[Act.put,litE]
          refine tkI (i:=4) (v:=(.int .i64 (p:Int))) rfl (Or.inl ⟨by rfl,?_⟩) hHeld ?_
          · intro w2 hSw
            obtain⟨q1,q2⟩:=hSw
            go_simp
          try simp only[Act.put,litE]
          refine tkI (i:=5) (v:=(.pointer (some ⟨b,off+p,none⟩))) rfl (Or.inl ⟨by rfl,?_⟩) hHeld ?_
          · intro w2 hSw
            obtain⟨q1,q2⟩:=hSw
            go_simp
          try simp only[Act.put,litE]
          refine tkI (i:=6) (v:=(.int .i64 u)) rfl (Or.inl ⟨by rfl,?_⟩) hHeld ?_
          · intro w2 hSw
            obtain⟨q1,q2⟩:=hSw
            go_simp
          try simp only[Act.put,litE]
          refine tkI (i:=7) (v:=(.slice (some ⟨b,off,none⟩) L cap)) rfl (Or.inl ⟨by rfl,?_⟩) hHeld ?_
          · intro w2 hSw
            obtain⟨q1,q2⟩:=hSw
            go_simp
          try simp only[Act.put,litE]
          refine tkI (i:=8) (v:=(.int .i64 (p:Int))) rfl (Or.inl ⟨by rfl,?_⟩) hHeld ?_
          · intro w2 hSw
            obtain⟨q1,q2⟩:=hSw
            go_simp
          try simp only[Act.put,litE]
          refine tkI (i:=9) (v:=(.int .i64 (pm:Int))) rfl (Or.inl ⟨by rfl,?_⟩) hHeld ?_
          · intro w2 hSw
            obtain⟨q1,q2⟩:=hSw
            go_simp
          try simp only[Act.put,litE]
          refine tkI (i:=10) (v:=(.pointer (some ⟨b,off+pm,none⟩))) rfl (Or.inl ⟨by rfl,?_⟩) hHeld ?_
          · intro w2 hSw
            obtain⟨q1,q2⟩:=hSw
            go_simp
          try simp only[Act.put,litE]
          refine tkI (i:=11) (v:=(.int .i64 u)) rfl (Or.inl ⟨by rfl,?_⟩) hHeld ?_
          · intro w2 hSw
            obtain⟨q1,q2⟩:=hSw
            go_simp
          try simp only[Act.put,litE]
          refine tkI (i:=12) (v:=(.bool true)) rfl (Or.inl ⟨by rfl,?_⟩) hHeld ?_
          · intro w2 hSw
            obtain⟨q1,q2⟩:=hSw
            go_simp
          try simp only[Act.put,litE]
          refine tkI (i:=13) (v:=(.bool true)) rfl (Or.inl ⟨by rfl,?_⟩) hHeld ?_
          · intro w2 hSw
            obtain⟨q1,q2⟩:=hSw
            go_simp
          try simp only[Act.put,litE]
          refine tkI (i:=14) (v:=(.bool true)) rfl (Or.inl ⟨by rfl,?_⟩) hHeld ?_
          · intro w2 hSw
            obtain⟨q1,q2⟩:=hSw
            go_simp
          try simp only[Act.put,litE]
          refine tkI (i:=15) (v:=(.int .i64 (A:Int))) rfl (Or.inl ⟨by rfl,?_⟩) hHeld ?_
          · intro w2 hSw
            obtain⟨q1,q2⟩:=hSw
            go_simp
          try simp only[Act.put,litE]
          refine tkI (i:=16) (v:=(.bool true)) rfl (Or.inl ⟨by rfl,?_⟩) hHeld ?_
          · intro w2 hSw
            obtain⟨q1,q2⟩:=hSw
            go_simp
          try simp only[Act.put,litE]
          refine tkI (i:=17) (v:=(.bool true)) rfl (Or.inl ⟨by rfl,?_⟩) hHeld ?_
          · intro w2 hSw
            obtain⟨q1,q2⟩:=hSw
            go_simp
          try simp only[Act.put,litE]
          refine tkI (i:=18) (v:=(.bool true)) rfl (Or.inl ⟨by rfl,?_⟩) hHeld ?_
          · intro w2 hSw
            obtain⟨q1,q2⟩:=hSw
            go_simp
          try simp only[Act.put,litE]
          refine wpAnyH_done (by kernel_rfl) ?_ _
          try simp only[Act.put,litE]
          go_wp2_with fail
          refine (HLS.out _).mono ?_
          rintro e w2 ⟨rfl,hw2⟩
          subst hw2
          have HOD:Hid (Own3 129 w1.drew base (.slice ao m c) m xs∧Below base wb w1.drew):=⟨HO1.out.1,HO1.out.2.trans (below_drewN base w1 1)⟩
          clear HO1
          go_wp2_with (at_builtin;refine wpList_app3 info_run3 Tryz.underlying126 w1.drew (by rfl) _ _ (by rfl) base _ m xs 16 (E:Int) 2 (by rfl) HOD.out.1 (by rfl) (by omega) (show base≤w1.drew.heap.size from hb1) ?_)
          intro g7 cap7 w7 hown7 hb7
          have HF:Hid (Own3 129 w7 base (.slice (some ⟨g7,0,none⟩) (m+1) cap7) (m+1) (xs++[(16,(E:Int),2)])∧Below base wb w7):=⟨hown7,HOD.out.2.trans hb7⟩
          have HR2:Hid (Df.runs l=xs++[(16,(E:Int),2)]++Df.runsFrom l P2):=by
           show _=_
           rw[HR.out,Df.runs_step hpl,HRN.out,List.append_assoc]
           rfl
          clear hown7 hb7 HOD HR HRN
          go_wp2_with fail
          go_roundw
          case rel=>exact⟨P2,m+1,_,_,_,by omega,by omega,by go_num,rfl,HR2,HF⟩
          case measure=>simp[intOf];omega
        have h3i:¬(3:Int)≤(A:Int):=by omega
        have h3j:decide ((3:Int)≤(A:Int))=false:=decide_eq_false h3i
        obtain⟨P2,hP2⟩:∃P2,P2=p+1:=⟨_,rfl⟩
        have eP2:(p:Int)+(1:Int)=(P2:Int):=by omega
        have hP2L:P2≤L:=by omega
        have hP2p:p<P2:=by omega
        have HRN:Hid ((Df.run l p).1::Df.runsFrom l (p+(Df.run l p).2)=(u,0,0)::Df.runsFrom l P2):=by
         show _=_
         have e:Df.run l p=((u,0,0),1):=by
          unfold Df.run
          rw[if_neg (fun h=>hv0 (by rw[HV.out];exact h.1)),if_neg (fun h=>hv0 (by rw[HV.out];exact h.1)),if_neg (fun h=>h3 (by rw[HAE.out];exact h.2.2)),←HV.out]
         rw[e,hP2]
        clear hP2 HAE HV
        go_wp2_with fail
        refine wp_region_held_drew (S:=fun w2=>w2.cell? ⟨b,off+p,none⟩=some (.int .i64 u)∧w2.cell? ⟨b,off+pm,none⟩=some (.int .i64 u)) (by kernel_rfl) ⟨hc1,hcu⟩ (fun hHeld=>?_)
        refine tkI (i:=0) (v:=(.int .i64 (p:Int))) rfl (Or.inl ⟨by rfl,?_⟩) hHeld ?_
        · intro w2 hSw
          obtain⟨q1,q2⟩:=hSw
          go_simp
        try simp only[Act.put,litE]
        refine tkI (i:=1) (v:=(.bool true)) rfl (Or.inl ⟨by rfl,?_⟩) hHeld ?_
        · intro w2 hSw
          obtain⟨q1,q2⟩:=hSw
          go_simp
        try simp only[Act.put,litE]
        refine tkI (i:=2) (v:=(.bool true)) rfl (Or.inl ⟨by rfl,?_⟩) hHeld ?_
        · intro w2 hSw
          obtain⟨q1,q2⟩:=hSw
          go_simp
        try simp only[Act.put,litE]
        refine tkI (i:=3) (v:=(.slice (some ⟨b,off,none⟩) L cap)) rfl (Or.inl ⟨by rfl,?_⟩) hHeld ?_
        · intro w2 hSw
          obtain⟨q1,q2⟩:=hSw
          go_simp
        try simp only[Act.put,litE]
        refine tkI (i:=4) (v:=(.int .i64 (p:Int))) rfl (Or.inl ⟨by rfl,?_⟩) hHeld ?_
        · intro w2 hSw
          obtain⟨q1,q2⟩:=hSw
          go_simp
        try simp only[Act.put,litE]
        refine tkI (i:=5) (v:=(.pointer (some ⟨b,off+p,none⟩))) rfl (Or.inl ⟨by rfl,?_⟩) hHeld ?_
        · intro w2 hSw
          obtain⟨q1,q2⟩:=hSw
          go_simp
        try simp only[Act.put,litE]
        refine tkI (i:=6) (v:=(.int .i64 u)) rfl (Or.inl ⟨by rfl,?_⟩) hHeld ?_
        · intro w2 hSw
          obtain⟨q1,q2⟩:=hSw
          go_simp
        try simp only[Act.put,litE]
        refine tkI (i:=7) (v:=(.slice (some ⟨b,off,none⟩) L cap)) rfl (Or.inl ⟨by rfl,?_⟩) hHeld ?_
        · intro w2 hSw
          obtain⟨q1,q2⟩:=hSw
          go_simp
        try simp only[Act.put,litE]
        refine tkI (i:=8) (v:=(.int .i64 (p:Int))) rfl (Or.inl ⟨by rfl,?_⟩) hHeld ?_
        · intro w2 hSw
          obtain⟨q1,q2⟩:=hSw
          go_simp
        try simp only[Act.put,litE]
        refine tkI (i:=9) (v:=(.int .i64 (pm:Int))) rfl (Or.inl ⟨by rfl,?_⟩) hHeld ?_
        · intro w2 hSw
          obtain⟨q1,q2⟩:=hSw
          go_simp
        try simp only[Act.put,litE]
        refine tkI (i:=10) (v:=(.pointer (some ⟨b,off+pm,none⟩))) rfl (Or.inl ⟨by rfl,?_⟩) hHeld ?_
        · intro w2 hSw
          obtain⟨q1,q2⟩:=hSw
          go_simp
        try simp only[Act.put,litE]
        refine tkI (i:=11) (v:=(.int .i64 u)) rfl (Or.inl ⟨by rfl,?_⟩) hHeld ?_
        · intro w2 hSw
          obtain⟨q1,q2⟩:=hSw
          go_simp
        try simp only[Act.put,litE]
        refine tkI (i:=12) (v:=(.bool true)) rfl (Or.inl ⟨by rfl,?_⟩) hHeld ?_
        · intro w2 hSw
          obtain⟨q1,q2⟩:=hSw
          go_simp
        try simp only[Act.put,litE]
        refine tkI (i:=13) (v:=(.bool true)) rfl (Or.inl ⟨by rfl,?_⟩) hHeld ?_
        · intro w2 hSw
          obtain⟨q1,q2⟩:=hSw
          go_simp
        try simp only[Act.put,litE]
        refine tkI (i:=14) (v:=(.bool true)) rfl (Or.inl ⟨by rfl,?_⟩) hHeld ?_
        · intro w2 hSw
          obtain⟨q1,q2⟩:=hSw
          go_simp
        try simp only[Act.put,litE]
        refine tkI (i:=15) (v:=(.int .i64 (A:Int))) rfl (Or.inl ⟨by rfl,?_⟩) hHeld ?_
        · intro w2 hSw
          obtain⟨q1,q2⟩:=hSw
          go_simp
        try simp only[Act.put,litE]
        refine tkI (i:=16) (v:=(.bool false)) rfl (Or.inl ⟨by rfl,?_⟩) hHeld ?_
        · intro w2 hSw
          obtain⟨q1,q2⟩:=hSw
          go_simp
        try simp only[Act.put,litE]
        refine tkI (i:=17) (v:=(.bool false)) rfl (Or.inl ⟨by rfl,?_⟩) hHeld ?_
        · intro w2 hSw
          obtain⟨q1,q2⟩:=hSw
          go_simp
        try simp only[Act.put,litE]
        refine tkI (i:=18) (v:=(.bool false)) rfl (Or.inl ⟨by rfl,?_⟩) hHeld ?_
        · intro w2 hSw
          obtain⟨q1,q2⟩:=hSw
          go_simp
        try simp only[Act.put,litE]
        refine wpAnyH_done (by kernel_rfl) ?_ _
        try simp only[Act.put,litE]
        have HOD:Hid (Own3 129 w1.drew base (.slice ao m c) m xs∧Below base wb w1.drew):=⟨HO1.out.1,HO1.out.2.trans (below_drewN base w1 1)⟩
        clear HO1
        go_wp2_with (at_builtin;refine wpList_app3 info_run3 Tryz.underlying126 w1.drew (by rfl) _ _ (by rfl) base _ m xs u 0 0 (by rfl) HOD.out.1 (by rfl) (by omega) (show base≤w1.drew.heap.size from hb1) ?_)
        intro g7 cap7 w7 hown7 hb7
        have HF:Hid (Own3 129 w7 base (.slice (some ⟨g7,0,none⟩) (m+1) cap7) (m+1) (xs++[(u,0,0)])∧Below base wb w7):=⟨hown7,HOD.out.2.trans hb7⟩
        have HR2:Hid (Df.runs l=xs++[(u,0,0)]++Df.runsFrom l P2):=by
         show _=_
         rw[HR.out,Df.runs_step hpl,HRN.out,List.append_assoc]
         rfl
        clear hown7 hb7 HOD HR HRN
        go_wp2_with fail
        go_roundw
        case rel=>exact⟨P2,m+1,_,_,_,by omega,by omega,by go_num,rfl,HR2,HF⟩
        case measure=>simp[intOf];omega
      have d3:(v==u)=false:=beq_eq_false_iff_ne.2 (fun h=>huv h.symm)
      obtain⟨P2,hP2⟩:∃P2,P2=p+1:=⟨_,rfl⟩
      have eP2:(p:Int)+(1:Int)=(P2:Int):=by omega
      have hP2L:P2≤L:=by omega
      have hP2p:p<P2:=by omega
      have HRN:Hid ((Df.run l p).1::Df.runsFrom l (p+(Df.run l p).2)=(v,0,0)::Df.runsFrom l P2):=by
       show _=_
       have e:Df.run l p=((v,0,0),1):=by
        unfold Df.run
        rw[if_neg (fun h=>hv0 (by rw[HV.out];exact h.1)),if_neg (fun h=>hv0 (by rw[HV.out];exact h.1)),if_neg (fun h=>huv (by rw[HUE.out,HPM.out,←h.2.1,←HV.out])),←HV.out]
       rw[e,hP2]
      clear hP2 HAE HV
      go_wp2_with fail
      refine wp_region_held_drew (S:=fun w2=>w2.cell? ⟨b,off+p,none⟩=some (.int .i64 v)∧w2.cell? ⟨b,off+pm,none⟩=some (.int .i64 u)) (by kernel_rfl) ⟨hc1,hcu⟩ (fun hHeld=>?_)
      refine tkI (i:=0) (v:=(.int .i64 (p:Int))) rfl (Or.inl ⟨by rfl,?_⟩) hHeld ?_
      · intro w2 hSw
        obtain⟨q1,q2⟩:=hSw
        go_simp
      try simp only[Act.put,litE]
      refine tkI (i:=1) (v:=(.bool true)) rfl (Or.inl ⟨by rfl,?_⟩) hHeld ?_
      · intro w2 hSw
        obtain⟨q1,q2⟩:=hSw
        go_simp
      try simp only[Act.put,litE]
      refine tkI (i:=2) (v:=(.bool true)) rfl (Or.inl ⟨by rfl,?_⟩) hHeld ?_
      · intro w2 hSw
        obtain⟨q1,q2⟩:=hSw
        go_simp
      try simp only[Act.put,litE]
      refine tkI (i:=3) (v:=(.slice (some ⟨b,off,none⟩) L cap)) rfl (Or.inl ⟨by rfl,?_⟩) hHeld ?_
      · intro w2 hSw
        obtain⟨q1,q2⟩:=hSw
        go_simp
      try simp only[Act.put,litE]
      refine tkI (i:=4) (v:=(.int .i64 (p:Int))) rfl (Or.inl ⟨by rfl,?_⟩) hHeld ?_
      · intro w2 hSw
        obtain⟨q1,q2⟩:=hSw
        go_simp
      try simp only[Act.put,litE]
      refine tkI (i:=5) (v:=(.pointer (some ⟨b,off+p,none⟩))) rfl (Or.inl ⟨by rfl,?_⟩) hHeld ?_
      · intro w2 hSw
        obtain⟨q1,q2⟩:=hSw
        go_simp
      try simp only[Act.put,litE]
      refine tkI (i:=6) (v:=(.int .i64 v)) rfl (Or.inl ⟨by rfl,?_⟩) hHeld ?_
      · intro w2 hSw
        obtain⟨q1,q2⟩:=hSw
        go_simp
      try simp only[Act.put,litE]
      refine tkI (i:=7) (v:=(.slice (some ⟨b,off,none⟩) L cap)) rfl (Or.inl ⟨by rfl,?_⟩) hHeld ?_
      · intro w2 hSw
        obtain⟨q1,q2⟩:=hSw
        go_simp
      try simp only[Act.put,litE]
      refine tkI (i:=8) (v:=(.int .i64 (p:Int))) rfl (Or.inl ⟨by rfl,?_⟩) hHeld ?_
      · intro w2 hSw
        obtain⟨q1,q2⟩:=hSw
        go_simp
      try simp only[Act.put,litE]
      refine tkI (i:=9) (v:=(.int .i64 (pm:Int))) rfl (Or.inl ⟨by rfl,?_⟩) hHeld ?_
      · intro w2 hSw
        obtain⟨q1,q2⟩:=hSw
        go_simp
      try simp only[Act.put,litE]
      refine tkI (i:=10) (v:=(.pointer (some ⟨b,off+pm,none⟩))) rfl (Or.inl ⟨by rfl,?_⟩) hHeld ?_
      · intro w2 hSw
        obtain⟨q1,q2⟩:=hSw
        go_simp
      try simp only[Act.put,litE]
      refine tkI (i:=11) (v:=(.int .i64 u)) rfl (Or.inl ⟨by rfl,?_⟩) hHeld ?_
      · intro w2 hSw
        obtain⟨q1,q2⟩:=hSw
        go_simp
      try simp only[Act.put,litE]
      refine tkI (i:=12) (v:=(.bool false)) rfl (Or.inl ⟨by rfl,?_⟩) hHeld ?_
      · intro w2 hSw
        obtain⟨q1,q2⟩:=hSw
        go_simp
      try simp only[Act.put,litE]
      refine tkI (i:=13) (v:=(.bool false)) rfl (Or.inl ⟨by rfl,?_⟩) hHeld ?_
      · intro w2 hSw
        obtain⟨q1,q2⟩:=hSw
        go_simp
      try simp only[Act.put,litE]
      refine tkI (i:=14) (v:=(.bool false)) rfl (Or.inl ⟨by rfl,?_⟩) hHeld ?_
      · intro w2 hSw
        obtain⟨q1,q2⟩:=hSw
        go_simp
      try simp only[Act.put,litE]
      refine tkI (i:=15) (v:=undef) rfl (Or.inr ⟨by kernel_rfl,rfl⟩) hHeld ?_
      try simp only[Act.put,litE]
      refine tkI (i:=16) (v:=undef) rfl (Or.inr ⟨by kernel_rfl,rfl⟩) hHeld ?_
      try simp only[Act.put,litE]
      refine tkI (i:=17) (v:=(.bool false)) rfl (Or.inl ⟨by rfl,?_⟩) hHeld ?_
      · intro w2 hSw
        obtain⟨q1,q2⟩:=hSw
        go_simp
      try simp only[Act.put,litE]
      refine tkI (i:=18) (v:=(.bool false)) rfl (Or.inl ⟨by rfl,?_⟩) hHeld ?_
      · intro w2 hSw
        obtain⟨q1,q2⟩:=hSw
        go_simp
      try simp only[Act.put,litE]
      refine wpAnyH_done (by kernel_rfl) ?_ _
      try simp only[Act.put,litE]
      have HOD:Hid (Own3 129 w1.drew base (.slice ao m c) m xs∧Below base wb w1.drew):=⟨HO1.out.1,HO1.out.2.trans (below_drewN base w1 1)⟩
      clear HO1
      go_wp2_with (at_builtin;refine wpList_app3 info_run3 Tryz.underlying126 w1.drew (by rfl) _ _ (by rfl) base _ m xs v 0 0 (by rfl) HOD.out.1 (by rfl) (by omega) (show base≤w1.drew.heap.size from hb1) ?_)
      intro g7 cap7 w7 hown7 hb7
      have HF:Hid (Own3 129 w7 base (.slice (some ⟨g7,0,none⟩) (m+1) cap7) (m+1) (xs++[(v,0,0)])∧Below base wb w7):=⟨hown7,HOD.out.2.trans hb7⟩
      have HR2:Hid (Df.runs l=xs++[(v,0,0)]++Df.runsFrom l P2):=by
       show _=_
       rw[HR.out,Df.runs_step hpl,HRN.out,List.append_assoc]
       rfl
      clear hown7 hb7 HOD HR HRN
      go_wp2_with fail
      go_roundw
      case rel=>exact⟨P2,m+1,_,_,_,by omega,by omega,by go_num,rfl,HR2,HF⟩
      case measure=>simp[intOf];omega
    have d0:decide ((p:Int)>0)=false:=decide_eq_false (by omega)
    have h0i:¬(0:Int)<(p:Int):=by omega
    clear HP1
    obtain⟨P2,hP2⟩:∃P2,P2=p+1:=⟨_,rfl⟩
    have eP2:(p:Int)+(1:Int)=(P2:Int):=by omega
    have hP2L:P2≤L:=by omega
    have hP2p:p<P2:=by omega
    have HRN:Hid ((Df.run l p).1::Df.runsFrom l (p+(Df.run l p).2)=(v,0,0)::Df.runsFrom l P2):=by
     show _=_
     have e:Df.run l p=((v,0,0),1):=by
      unfold Df.run
      rw[if_neg (fun h=>hv0 (by rw[HV.out];exact h.1)),if_neg (fun h=>hv0 (by rw[HV.out];exact h.1)),if_neg (fun h=>hp0 h.1),←HV.out]
     rw[e,hP2]
    clear hP2 HAE HV
    go_wp2_with fail
    refine wp_region_held_drew (S:=fun w2=>True) (by kernel_rfl) trivial (fun hHeld=>?_)
    refine tkI (i:=0) (v:=(.int .i64 (p:Int))) rfl (Or.inl ⟨by rfl,?_⟩) hHeld ?_
    · intro w2 hSw
      go_simp
    try simp only[Act.put,litE]
    refine tkI (i:=1) (v:=(.bool false)) rfl (Or.inl ⟨by rfl,?_⟩) hHeld ?_
    · intro w2 hSw
      go_simp
    try simp only[Act.put,litE]
    refine tkI (i:=2) (v:=(.bool false)) rfl (Or.inl ⟨by rfl,?_⟩) hHeld ?_
    · intro w2 hSw
      go_simp
    try simp only[Act.put,litE]
    refine tkI (i:=3) (v:=undef) rfl (Or.inr ⟨by kernel_rfl,rfl⟩) hHeld ?_
    try simp only[Act.put,litE]
    refine tkI (i:=4) (v:=undef) rfl (Or.inr ⟨by kernel_rfl,rfl⟩) hHeld ?_
    try simp only[Act.put,litE]
    refine tkI (i:=5) (v:=undef) rfl (Or.inr ⟨by kernel_rfl,rfl⟩) hHeld ?_
    try simp only[Act.put,litE]
    refine tkI (i:=6) (v:=undef) rfl (Or.inr ⟨by kernel_rfl,rfl⟩) hHeld ?_
    try simp only[Act.put,litE]
    refine tkI (i:=7) (v:=undef) rfl (Or.inr ⟨by kernel_rfl,rfl⟩) hHeld ?_
    try simp only[Act.put,litE]
    refine tkI (i:=8) (v:=undef) rfl (Or.inr ⟨by kernel_rfl,rfl⟩) hHeld ?_
    try simp only[Act.put,litE]
    refine tkI (i:=9) (v:=undef) rfl (Or.inr ⟨by kernel_rfl,rfl⟩) hHeld ?_
    try simp only[Act.put,litE]
    refine tkI (i:=10) (v:=undef) rfl (Or.inr ⟨by kernel_rfl,rfl⟩) hHeld ?_
    try simp only[Act.put,litE]
    refine tkI (i:=11) (v:=undef) rfl (Or.inr ⟨by kernel_rfl,rfl⟩) hHeld ?_
    try simp only[Act.put,litE]
    refine tkI (i:=12) (v:=undef) rfl (Or.inr ⟨by kernel_rfl,rfl⟩) hHeld ?_
    try simp only[Act.put,litE]
    refine tkI (i:=13) (v:=(.bool false)) rfl (Or.inl ⟨by rfl,?_⟩) hHeld ?_
    · intro w2 hSw
      go_simp
    try simp only[Act.put,litE]
    refine tkI (i:=14) (v:=(.bool false)) rfl (Or.inl ⟨by rfl,?_⟩) hHeld ?_
    · intro w2 hSw
      go_simp
    try simp only[Act.put,litE]
    refine tkI (i:=15) (v:=undef) rfl (Or.inr ⟨by kernel_rfl,rfl⟩) hHeld ?_
    try simp only[Act.put,litE]
    refine tkI (i:=16) (v:=undef) rfl (Or.inr ⟨by kernel_rfl,rfl⟩) hHeld ?_
    try simp only[Act.put,litE]
    refine tkI (i:=17) (v:=(.bool false)) rfl (Or.inl ⟨by rfl,?_⟩) hHeld ?_
    · intro w2 hSw
      go_simp
    try simp only[Act.put,litE]
    refine tkI (i:=18) (v:=(.bool false)) rfl (Or.inl ⟨by rfl,?_⟩) hHeld ?_
    · intro w2 hSw
      go_simp
    try simp only[Act.put,litE]
    refine wpAnyH_done (by kernel_rfl) ?_ _
    try simp only[Act.put,litE]
    have HOD:Hid (Own3 129 w1.drew base (.slice ao m c) m xs∧Below base wb w1.drew):=⟨HO1.out.1,HO1.out.2.trans (below_drewN base w1 1)⟩
    clear HO1
    go_wp2_with (at_builtin;refine wpList_app3 info_run3 Tryz.underlying126 w1.drew (by rfl) _ _ (by rfl) base _ m xs v 0 0 (by rfl) HOD.out.1 (by rfl) (by omega) (show base≤w1.drew.heap.size from hb1) ?_)
    intro g7 cap7 w7 hown7 hb7
    have HF:Hid (Own3 129 w7 base (.slice (some ⟨g7,0,none⟩) (m+1) cap7) (m+1) (xs++[(v,0,0)])∧Below base wb w7):=⟨hown7,HOD.out.2.trans hb7⟩
    have HR2:Hid (Df.runs l=xs++[(v,0,0)]++Df.runsFrom l P2):=by
     show _=_
     rw[HR.out,Df.runs_step hpl,HRN.out,List.append_assoc]
     rfl
    clear hown7 hb7 HOD HR HRN
    go_wp2_with fail
    go_roundw
    case rel=>exact⟨P2,m+1,_,_,_,by omega,by omega,by go_num,rfl,HR2,HF⟩
    case measure=>simp[intOf];omega
  have hpi:¬(p:Int)<(L:Int):=by omega
  have hpl:¬p<l.length:=by rw[HL.out];exact hlt
  have HE:Hid (RunsEnd w (Df.runs l) (.returned (.slice ao m c)) wr):=by
   show RunsEnd _ _ _ _
   have h1:=HR.out
   rw[Df.runs_end hpl,List.append_nil] at h1
   have h2:=HO.out
   rw[HBB.out.1,HBB.out.2] at h2
   exact⟨⟨_,_,_,rfl,by rw[h1];exact h2.1⟩,h2.2⟩
  clear HO HR
  go_wp2_with fail
  go_ret
  exact HE.out
end Go.Proofs.YtejebodgfoihkaaGreat
