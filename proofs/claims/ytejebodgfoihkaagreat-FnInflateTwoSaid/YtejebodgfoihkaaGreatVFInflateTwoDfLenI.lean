/- Lengths as symbols, as the program has them; a list without the noughts at its end. -/
import Derived.Test.YtejebodgfoihkaaGreatKFInflateTwox0
namespace Go.Proofs.YtejebodgfoihkaaGreat
open Go.RowKit

set_option maxHeartbeats 2000000 in
set_option maxRecDepth 20000 in
theorem trimmed_any (b off L cap least:Nat) (l:List Int) (w:World) (h:Ints w (some ⟨b,off,none⟩) l) (hL:l.length=L) (hLb:L≤1000) (hcap:L≤cap) (hl0:1≤least) (hle:least≤1000):
 Calls Tryz.prog 63 #[.slice (some ⟨b,off,none⟩) L cap,.int .i64 (least:Int)] w fun e w'=>e=.returned (.slice (some ⟨b,off,none⟩) (Df.used l least) cap)∧w'=w:=by
 have HC:Hid (∀i (hi:i<l.length),w.cell? ⟨b,off+i,none⟩=some (.int .i64 l[i])):=by
  rcases h with e|⟨b',off',e',_,h3⟩
  · exact fun i hi=>by rw[e] at hi;simp at hi
  cases e';exact h3
 have HL:Hid (l.length=L):=hL
 clear h hL
 go_enter Tryz.func63,Tryz.ntmps63
 go_wp2_with fail
 go_loopw [0] (fun s wr=>∃n:Nat,n≤L∧s=.slice (some ⟨b,off,none⟩) n cap∧Hid (Df.used l least=Df.usedF l least n)∧wr=w) (fun s _=>(match s with|.slice _ n _=>n|_=>0))
 case atStart=>exact⟨L,Nat.le_refl _,rfl,by show _=_;unfold Df.used;rw[HL.out],rfl⟩
 case round=>
  obtain⟨n,hn,rfl,HM,hwr⟩:=hrel
  subst hwr
  by_cases h2:least<n
  · obtain⟨n',rfl⟩:∃n',n=n'+1:=⟨n-1,by omega⟩
    obtain⟨n1,hn1⟩:∃n1,n1=n'+1:=⟨_,rfl⟩
    rw[←hn1] at h2 hn HM ⊢
    have h2i:(least:Int)<(n1:Int):=by omega
    have em:(n1:Int)-1=(n':Int):=by omega
    have hnl:n'<l.length:=by rw[HL.out];omega
    have hni:(n':Int)<(n1:Int):=by omega
    have hnc:n'≤cap:=by omega
    have wn:IntKind.i64.wrap (n':Int)=(n':Int):=wrap_i64_nat n' (by omega)
    have cP:wr.cell? ⟨b,off+n',none⟩=some (.int .i64 l[n']):=HC.out n' hnl
    have hg:l.getD n' 0=l[n']:=by rw[List.getD_eq_getElem?_getD,List.getElem?_eq_getElem hnl];rfl
    have hlt1:n'<n1:=by omega
    by_cases h3:l[n']=0
    · have HM2:Hid (Df.used l least=Df.usedF l least n'):=by
       show _=_
       rw[HM.out,hn1]
       show (if least<n'+1∧l.getD n' 0=0 then _ else _)=_
       rw[if_pos ⟨by omega,by rw[hg];exact h3⟩]
      rw[h3] at cP
      clear h3 HM hg hn1
      go_wp2_with fail
      go_roundw
      case rel=>exact⟨n',by omega,rfl,HM2,trivial⟩
      case measure=>simp;omega
    have HM2:Hid (Df.used l least=n1):=by
     show _=_
     rw[HM.out,hn1]
     show (if least<n'+1∧l.getD n' 0=0 then _ else _)=_
     rw[if_neg (fun h=>h3 (by rw[←hg];exact h.2))]
    obtain⟨u,hu⟩:∃u,u=l[n']:=⟨_,rfl⟩
    rw[←hu] at cP h3
    have d3:(u==0)=false:=beq_eq_false_iff_ne.2 h3
    clear HM hg hn1 hu
    go_wp2_with fail
    go_ret
    exact⟨by rw[HM2.out];rfl,rfl⟩
  have h2i:¬(least:Int)<(n:Int):=by omega
  have HM2:Hid (Df.used l least=n):=by
   show _=_
   rw[HM.out]
   cases n with
   | zero=>rfl
   | succ n'=>
    show (if least<n'+1∧l.getD n' 0=0 then _ else _)=_
    rw[if_neg (fun h=>h2 h.1)]
  clear HM
  go_wp2_with fail
  go_ret
  exact⟨by rw[HM2.out];rfl,rfl⟩

def RunIs (l:List Int) (p:Nat) (w:World) (e:Ending) (w':World):Prop:=e=.returned (.tuple #[.agg #[.int .i64 (Df.run l p).1.1,.int .i64 (Df.run l p).1.2.1,.int .i64 (Df.run l p).1.2.2],.int .i64 (((Df.run l p).2:Nat):Int)])∧Below w.heap.size w w'
set_option maxHeartbeats 4000000 in
set_option maxRecDepth 20000 in
theorem lengthSign_any (a:Option Addr) (L cap p:Nat) (l:List Int) (w:World) (h:Ints w a l) (hL:l.length=L) (hLb:L≤1000) (hp:p<L):
 Calls Tryz.prog 96 #[.slice a L cap,.int .i64 (p:Int)] w (RunIs l p w):=by
 obtain⟨b,off,rfl,hb,hcp⟩:=h.at (show p<l.length by omega)
 have HC:Hid (∀i (hi:i<l.length),w.cell? ⟨b,off+i,none⟩=some (.int .i64 l[i])):=by
  rcases h with e|⟨b',off',e',_,h3⟩
  · rw[e] at hL;simp at hL;omega
  cases e';exact h3
 have HL:Hid (l.length=L):=hL
 have hpi:(p:Int)<(L:Int):=by omega
 have hv:l[p]=l.getD p 0:=by rw[List.getD_eq_getElem?_getD,List.getElem?_eq_getElem (by omega)];rfl
 rw[hv] at hcp
 obtain⟨v,hve⟩:∃v,v=l.getD p 0:=⟨_,rfl⟩
 rw[←hve] at hcp
 have HV:Hid (v=l.getD p 0):=hve
 have hA2:=Df.alike_le (l:=l) (p:=p) (by omega)
 rw[hL] at hA2
 clear h hL hv hve
 go_enter Tryz.func96,Tryz.ntmps96
 go_wp2_with fail
 have HCZ:Hid (∀i (hi:i<l.length),(w.alloc (.cells #[.int .i64 0,.int .i64 0,.int .i64 0] 102)).cell? ⟨b,off+i,none⟩=some (.int .i64 l[i])):=fun i hi=>(((Below.refl w.heap.size w).alloc (Nat.le_refl _) _).cell (p:=⟨b,off+i,none⟩) hb).trans (HC.out i hi)
 clear hcp HC
 go_loopw [7] (fun i wr=>∃n:Nat,1≤n∧p+n≤L∧i=.int .i64 (n:Int)∧Hid (Df.alike l p=n+((l.drop (p+n)).takeWhile (fun z=>z==l.getD p 0)).length)∧wr=w.alloc (.cells #[.int .i64 0,.int .i64 0,.int .i64 0] 102)) (fun i _=>L-(intOf i).toNat)
 case atStart=>exact⟨1,by omega,by omega,rfl,rfl,rfl⟩
 case round=>
  obtain⟨n,hn1,hpn,rfl,HM,hwr⟩:=hrel
  subst hwr
  have HPR:Hid (0<p→∃u,u=l.getD (p-1) 0∧(w.alloc (.cells #[.int .i64 0,.int .i64 0,.int .i64 0] 102)).cell? ⟨b,off+(p-1),none⟩=some (.int .i64 u)):=fun h0=>by
   have h1:p-1<l.length:=by rw[HL.out];omega
   refine⟨_,rfl,?_⟩
   rw[HCZ.out (p-1) h1,List.getD_eq_getElem?_getD,List.getElem?_eq_getElem h1]
   rfl
  obtain⟨P,hP⟩:∃P,P=p+n:=⟨_,rfl⟩
  have eP:(p:Int)+(n:Int)=(P:Int):=by omega
  have fP:=wrap_i64_nat P (by omega)
  by_cases h2:P<L
  · have hPi:(P:Int)<(L:Int):=by omega
    have hPl:P<l.length:=by rw[HL.out];exact h2
    have cP:=HCZ.out P hPl
    have hPn:p+(n+1)≤L:=by omega
    by_cases h3:l[P]=v
    · have HM2:Hid (Df.alike l p=(n+1)+((l.drop (p+(n+1))).takeWhile (fun z=>z==l.getD p 0)).length):=by
       show _=_
       subst hP
       rw[HM.out,Df.alike_step hPl (by rw[h3,HV.out])]
       omega
      rw[h3] at cP
      have d3:(v==v)=true:=beq_self_eq_true v
      clear h3 hP HM HPR
      go_wp2_with fail
      go_roundw
      case rel=>exact⟨n+1,by omega,by omega,by go_num,HM2,trivial⟩
      case measure=>simp[intOf];omega
    obtain⟨A,hA⟩:∃A,A=n:=⟨_,rfl⟩
    have HAE:Hid (A=Df.alike l p):=by
     show _=_
     subst hP
     rw[hA,HM.out,Df.alike_stop (fun _=>by rw[←HV.out];exact h3)]
     rfl
    obtain⟨uu,hu⟩:∃uu,uu=l[P]:=⟨_,rfl⟩
    rw[←hu] at cP h3
    have d9:(uu==v)=false:=beq_eq_false_iff_ne.2 h3
    subst hA
    clear h3 hP HM hu
    by_cases hv0:v=0
    · have hvb:(v==0)=true:=by simp[hv0]
      by_cases h11:11≤A
      · have h11i:(11:Int)≤(A:Int):=by omega
        obtain⟨M,hM⟩:∃M,M=min A 138:=⟨_,rfl⟩
        have hMb:11≤M∧M≤A:=by omega
        obtain⟨E,hE⟩:∃E,E=M-11:=⟨_,rfl⟩
        have eE:(M:Int)-11=(E:Int):=by omega
        have wE:=wrap_i64_nat E (by omega)
        have HRN:Hid (∀w',Below w.heap.size w w'→RunIs l p w (.returned (.tuple #[.agg #[.int .i64 18,.int .i64 (E:Int),.int .i64 7],.int .i64 (M:Int)])) w'):=fun w' hb=>by
         have e:Df.run l p=((18,(E:Int),7),M):=by
          unfold Df.run
          rw[if_pos ⟨by rw[←HV.out];exact hv0,by rw[←HAE.out];exact h11⟩,←HAE.out,←hM,←hE]
         unfold RunIs
         rw[e]
         exact⟨rfl,hb⟩
        have hmin:(A:Int)≤138∧M=A∨¬(A:Int)≤138∧M=138:=by omega
        subst hv0
        clear hE HAE HV hM
        rcases hmin with⟨hm1,hm2⟩|⟨hm1,hm2⟩
        · subst hm2
          go_wp2_with fail
          refine bodyPost_ret (v:=.tuple #[.agg #[.int .i64 18,.int .i64 (E:Int),.int .i64 7],.int .i64 (M:Int)]) (by simp[results,Tryz.results96,go_sem]) rfl (HRN.out _ ?_)
          first|exact Below.refl _ _|exact (Below.refl _ _).alloc (Nat.le_refl _) _
        have hm3:(M:Int)=138:=by omega
        have eE2:(138:Int)-11=(E:Int):=by omega
        subst hm2
        go_wp2_with fail
        refine bodyPost_ret (v:=.tuple #[.agg #[.int .i64 18,.int .i64 (E:Int),.int .i64 7],.int .i64 138]) (by simp[results,Tryz.results96,go_sem]) rfl (HRN.out _ ?_)
        first|exact Below.refl _ _|exact (Below.refl _ _).alloc (Nat.le_refl _) _
      have h11i:¬(11:Int)≤(A:Int):=by omega
      by_cases h3:3≤A
      · have h3i:(3:Int)≤(A:Int):=by omega
        obtain⟨E,hE⟩:∃E,E=A-3:=⟨_,rfl⟩
        have eE:(A:Int)-3=(E:Int):=by omega
        have wE:=wrap_i64_nat E (by omega)
        have HRN:Hid (∀w',Below w.heap.size w w'→RunIs l p w (.returned (.tuple #[.agg #[.int .i64 17,.int .i64 (E:Int),.int .i64 3],.int .i64 (A:Int)])) w'):=fun w' hb=>by
         have e:Df.run l p=((17,(E:Int),3),A):=by
          unfold Df.run
          rw[if_neg (fun h=>h11 (by rw[HAE.out];exact h.2)),if_pos ⟨by rw[←HV.out];exact hv0,by rw[←HAE.out];exact h3⟩,←HAE.out,←hE]
         unfold RunIs
         rw[e]
         exact⟨rfl,hb⟩
        subst hv0
        clear hE HAE HV
        go_wp2_with fail
        refine bodyPost_ret (v:=.tuple #[.agg #[.int .i64 17,.int .i64 (E:Int),.int .i64 3],.int .i64 (A:Int)]) (by simp[results,Tryz.results96,go_sem]) rfl (HRN.out _ ?_)
        first|exact Below.refl _ _|exact (Below.refl _ _).alloc (Nat.le_refl _) _
      have h3i:¬(3:Int)≤(A:Int):=by omega
      have HRN:Hid (∀w',Below w.heap.size w w'→RunIs l p w (.returned (.tuple #[.agg #[.int .i64 v,.int .i64 0,.int .i64 0],.int .i64 1])) w'):=fun w' hb=>by
       have e:Df.run l p=((v,0,0),1):=by
        unfold Df.run
        rw[if_neg (fun h=>h11 (by rw[HAE.out];exact h.2)),if_neg (fun h=>h3 (by rw[HAE.out];exact h.2)),if_neg (fun h=>h3 (by rw[HAE.out];exact h.2.2)),←HV.out]
       unfold RunIs
       rw[e]
       exact⟨rfl,hb⟩
      subst hv0
      clear HAE HV
      by_cases hp0:0<p
      · obtain⟨u,hue,hcu⟩:=HPR.out hp0
        have h0i:(0:Int)<(p:Int):=by omega
        have em:(p:Int)-1=((p-1:Nat):Int):=by omega
        obtain⟨pm,hpm⟩:∃pm,pm=p-1:=⟨_,rfl⟩
        rw[←hpm] at em hcu
        have wpm:=wrap_i64_nat pm (by omega)
        have hpmi:(pm:Int)<(L:Int):=by omega
        clear hue hpm HPR
        by_cases huv:u=0
        · subst huv
          go_wp2_with fail
          refine bodyPost_ret (v:=.tuple #[.agg #[.int .i64 0,.int .i64 0,.int .i64 0],.int .i64 1]) (by simp[results,Tryz.results96,go_sem]) rfl (HRN.out _ ?_)
          first|exact Below.refl _ _|exact (Below.refl _ _).alloc (Nat.le_refl _) _
        have d3:(u==0)=false:=beq_eq_false_iff_ne.2 huv
        go_wp2_with fail
        refine bodyPost_ret (v:=.tuple #[.agg #[.int .i64 0,.int .i64 0,.int .i64 0],.int .i64 1]) (by simp[results,Tryz.results96,go_sem]) rfl (HRN.out _ ?_)
        first|exact Below.refl _ _|exact (Below.refl _ _).alloc (Nat.le_refl _) _
      have h0i:¬(0:Int)<(p:Int):=by omega
      go_wp2_with fail
      refine bodyPost_ret (v:=.tuple #[.agg #[.int .i64 0,.int .i64 0,.int .i64 0],.int .i64 1]) (by simp[results,Tryz.results96,go_sem]) rfl (HRN.out _ ?_)
      first|exact Below.refl _ _|exact (Below.refl _ _).alloc (Nat.le_refl _) _
    have hvb:(v==0)=false:=beq_eq_false_iff_ne.2 hv0
    by_cases hp0:0<p
    · obtain⟨u,hue,hcu⟩:=HPR.out hp0
      have HUE:Hid (u=l.getD (p-1) 0):=hue
      have h0i:(0:Int)<(p:Int):=by omega
      have em:(p:Int)-1=((p-1:Nat):Int):=by omega
      obtain⟨pm,hpm⟩:∃pm,pm=p-1:=⟨_,rfl⟩
      rw[←hpm] at em hcu HUE
      have HPM:Hid (pm=p-1):=hpm
      have wpm:=wrap_i64_nat pm (by omega)
      have hpmi:(pm:Int)<(L:Int):=by omega
      clear hue hpm HPR
      by_cases huv:u=v
      · subst huv
        have d3:(u==u)=true:=beq_self_eq_true u
        by_cases h3:3≤A
        · have h3i:(3:Int)≤(A:Int):=by omega
          obtain⟨M,hM⟩:∃M,M=min A 6:=⟨_,rfl⟩
          obtain⟨E,hE⟩:∃E,E=M-3:=⟨_,rfl⟩
          have eE:(M:Int)-3=(E:Int):=by omega
          have wE:=wrap_i64_nat E (by omega)
          have HRN:Hid (∀w',Below w.heap.size w w'→RunIs l p w (.returned (.tuple #[.agg #[.int .i64 16,.int .i64 (E:Int),.int .i64 2],.int .i64 (M:Int)])) w'):=fun w' hb=>by
           have e:Df.run l p=((16,(E:Int),2),M):=by
            unfold Df.run
            rw[if_neg (fun h=>hv0 (by rw[HV.out];exact h.1)),if_neg (fun h=>hv0 (by rw[HV.out];exact h.1)),if_pos ⟨hp0,by rw[←HV.out,←HPM.out,←HUE.out],by rw[←HAE.out];exact h3⟩,←HAE.out,←hM,←hE]
           unfold RunIs
           rw[e]
           exact⟨rfl,hb⟩
          have hmin:(A:Int)≤6∧M=A∨¬(A:Int)≤6∧M=6:=by omega
          clear hE HAE HV hM HUE HPM
          rcases hmin with⟨hm1,hm2⟩|⟨hm1,hm2⟩
          · subst hm2
            go_wp2_with fail
            refine bodyPost_ret (v:=.tuple #[.agg #[.int .i64 16,.int .i64 (E:Int),.int .i64 2],.int .i64 (M:Int)]) (by simp[results,Tryz.results96,go_sem]) rfl (HRN.out _ ?_)
            first|exact Below.refl _ _|exact (Below.refl _ _).alloc (Nat.le_refl _) _
          have eE2:(6:Int)-3=(E:Int):=by omega
          subst hm2
          go_wp2_with fail
          refine bodyPost_ret (v:=.tuple #[.agg #[.int .i64 16,.int .i64 (E:Int),.int .i64 2],.int .i64 6]) (by simp[results,Tryz.results96,go_sem]) rfl (HRN.out _ ?_)
          first|exact Below.refl _ _|exact (Below.refl _ _).alloc (Nat.le_refl _) _
        have h3i:¬(3:Int)≤(A:Int):=by omega
        have HRN:Hid (∀w',Below w.heap.size w w'→RunIs l p w (.returned (.tuple #[.agg #[.int .i64 u,.int .i64 0,.int .i64 0],.int .i64 1])) w'):=fun w' hb=>by
         have e:Df.run l p=((u,0,0),1):=by
          unfold Df.run
          rw[if_neg (fun h=>hv0 (by rw[HV.out];exact h.1)),if_neg (fun h=>hv0 (by rw[HV.out];exact h.1)),if_neg (fun h=>h3 (by rw[HAE.out];exact h.2.2)),←HV.out]
         unfold RunIs
         rw[e]
         exact⟨rfl,hb⟩
        clear HAE HV HUE HPM
        go_wp2_with fail
        refine bodyPost_ret (v:=.tuple #[.agg #[.int .i64 u,.int .i64 0,.int .i64 0],.int .i64 1]) (by simp[results,Tryz.results96,go_sem]) rfl (HRN.out _ ?_)
        first|exact Below.refl _ _|exact (Below.refl _ _).alloc (Nat.le_refl _) _
      have d3:(u==v)=false:=beq_eq_false_iff_ne.2 huv
      have HRN:Hid (∀w',Below w.heap.size w w'→RunIs l p w (.returned (.tuple #[.agg #[.int .i64 v,.int .i64 0,.int .i64 0],.int .i64 1])) w'):=fun w' hb=>by
       have e:Df.run l p=((v,0,0),1):=by
        unfold Df.run
        rw[if_neg (fun h=>hv0 (by rw[HV.out];exact h.1)),if_neg (fun h=>hv0 (by rw[HV.out];exact h.1)),if_neg (fun h=>huv (by rw[HUE.out,HPM.out,←h.2.1,←HV.out])),←HV.out]
       unfold RunIs
       rw[e]
       exact⟨rfl,hb⟩
      clear HAE HV HUE HPM
      go_wp2_with fail
      refine bodyPost_ret (v:=.tuple #[.agg #[.int .i64 v,.int .i64 0,.int .i64 0],.int .i64 1]) (by simp[results,Tryz.results96,go_sem]) rfl (HRN.out _ ?_)
      first|exact Below.refl _ _|exact (Below.refl _ _).alloc (Nat.le_refl _) _
    have h0i:¬(0:Int)<(p:Int):=by omega
    have HRN:Hid (∀w',Below w.heap.size w w'→RunIs l p w (.returned (.tuple #[.agg #[.int .i64 v,.int .i64 0,.int .i64 0],.int .i64 1])) w'):=fun w' hb=>by
     have e:Df.run l p=((v,0,0),1):=by
      unfold Df.run
      rw[if_neg (fun h=>hv0 (by rw[HV.out];exact h.1)),if_neg (fun h=>hv0 (by rw[HV.out];exact h.1)),if_neg (fun h=>hp0 h.1),←HV.out]
     unfold RunIs
     rw[e]
     exact⟨rfl,hb⟩
    clear HAE HV HPR
    go_wp2_with fail
    refine bodyPost_ret (v:=.tuple #[.agg #[.int .i64 v,.int .i64 0,.int .i64 0],.int .i64 1]) (by simp[results,Tryz.results96,go_sem]) rfl (HRN.out _ ?_)
    first|exact Below.refl _ _|exact (Below.refl _ _).alloc (Nat.le_refl _) _
  have hPi:¬(P:Int)<(L:Int):=by omega
  obtain⟨A,hA⟩:∃A,A=n:=⟨_,rfl⟩
  have HAE:Hid (A=Df.alike l p):=by
   show _=_
   subst hP
   rw[hA,HM.out,Df.alike_stop (fun h=>by rw[HL.out] at h;omega)]
   rfl
  subst hA
  clear hP HM
  by_cases hv0:v=0
  · have hvb:(v==0)=true:=by simp[hv0]
    by_cases h11:11≤A
    · have h11i:(11:Int)≤(A:Int):=by omega
      obtain⟨M,hM⟩:∃M,M=min A 138:=⟨_,rfl⟩
      have hMb:11≤M∧M≤A:=by omega
      obtain⟨E,hE⟩:∃E,E=M-11:=⟨_,rfl⟩
      have eE:(M:Int)-11=(E:Int):=by omega
      have wE:=wrap_i64_nat E (by omega)
      have HRN:Hid (∀w',Below w.heap.size w w'→RunIs l p w (.returned (.tuple #[.agg #[.int .i64 18,.int .i64 (E:Int),.int .i64 7],.int .i64 (M:Int)])) w'):=fun w' hb=>by
       have e:Df.run l p=((18,(E:Int),7),M):=by
        unfold Df.run
        rw[if_pos ⟨by rw[←HV.out];exact hv0,by rw[←HAE.out];exact h11⟩,←HAE.out,←hM,←hE]
       unfold RunIs
       rw[e]
       exact⟨rfl,hb⟩
      have hmin:(A:Int)≤138∧M=A∨¬(A:Int)≤138∧M=138:=by omega
      subst hv0
      clear hE HAE HV hM
      rcases hmin with⟨hm1,hm2⟩|⟨hm1,hm2⟩
      · subst hm2
        go_wp2_with fail
        refine bodyPost_ret (v:=.tuple #[.agg #[.int .i64 18,.int .i64 (E:Int),.int .i64 7],.int .i64 (M:Int)]) (by simp[results,Tryz.results96,go_sem]) rfl (HRN.out _ ?_)
        first|exact Below.refl _ _|exact (Below.refl _ _).alloc (Nat.le_refl _) _
      have hm3:(M:Int)=138:=by omega
      have eE2:(138:Int)-11=(E:Int):=by omega
      subst hm2
      go_wp2_with fail
      refine bodyPost_ret (v:=.tuple #[.agg #[.int .i64 18,.int .i64 (E:Int),.int .i64 7],.int .i64 138]) (by simp[results,Tryz.results96,go_sem]) rfl (HRN.out _ ?_)
      first|exact Below.refl _ _|exact (Below.refl _ _).alloc (Nat.le_refl _) _
    have h11i:¬(11:Int)≤(A:Int):=by omega
    by_cases h3:3≤A
    · have h3i:(3:Int)≤(A:Int):=by omega
      obtain⟨E,hE⟩:∃E,E=A-3:=⟨_,rfl⟩
      have eE:(A:Int)-3=(E:Int):=by omega
      have wE:=wrap_i64_nat E (by omega)
      have HRN:Hid (∀w',Below w.heap.size w w'→RunIs l p w (.returned (.tuple #[.agg #[.int .i64 17,.int .i64 (E:Int),.int .i64 3],.int .i64 (A:Int)])) w'):=fun w' hb=>by
       have e:Df.run l p=((17,(E:Int),3),A):=by
        unfold Df.run
        rw[if_neg (fun h=>h11 (by rw[HAE.out];exact h.2)),if_pos ⟨by rw[←HV.out];exact hv0,by rw[←HAE.out];exact h3⟩,←HAE.out,←hE]
       unfold RunIs
       rw[e]
       exact⟨rfl,hb⟩
      subst hv0
      clear hE HAE HV
      go_wp2_with fail
      refine bodyPost_ret (v:=.tuple #[.agg #[.int .i64 17,.int .i64 (E:Int),.int .i64 3],.int .i64 (A:Int)]) (by simp[results,Tryz.results96,go_sem]) rfl (HRN.out _ ?_)
      first|exact Below.refl _ _|exact (Below.refl _ _).alloc (Nat.le_refl _) _
    have h3i:¬(3:Int)≤(A:Int):=by omega
    have HRN:Hid (∀w',Below w.heap.size w w'→RunIs l p w (.returned (.tuple #[.agg #[.int .i64 v,.int .i64 0,.int .i64 0],.int .i64 1])) w'):=fun w' hb=>by
     have e:Df.run l p=((v,0,0),1):=by
      unfold Df.run
      rw[if_neg (fun h=>h11 (by rw[HAE.out];exact h.2)),if_neg (fun h=>h3 (by rw[HAE.out];exact h.2)),if_neg (fun h=>h3 (by rw[HAE.out];exact h.2.2)),←HV.out]
     unfold RunIs
     rw[e]
     exact⟨rfl,hb⟩
    subst hv0
    clear HAE HV
    by_cases hp0:0<p
    · obtain⟨u,hue,hcu⟩:=HPR.out hp0
      have h0i:(0:Int)<(p:Int):=by omega
      have em:(p:Int)-1=((p-1:Nat):Int):=by omega
      obtain⟨pm,hpm⟩:∃pm,pm=p-1:=⟨_,rfl⟩
      rw[←hpm] at em hcu
      have wpm:=wrap_i64_nat pm (by omega)
      have hpmi:(pm:Int)<(L:Int):=by omega
      clear hue hpm HPR
      by_cases huv:u=0
      · subst huv
        go_wp2_with fail
        refine bodyPost_ret (v:=.tuple #[.agg #[.int .i64 0,.int .i64 0,.int .i64 0],.int .i64 1]) (by simp[results,Tryz.results96,go_sem]) rfl (HRN.out _ ?_)
        first|exact Below.refl _ _|exact (Below.refl _ _).alloc (Nat.le_refl _) _
      have d3:(u==0)=false:=beq_eq_false_iff_ne.2 huv
      go_wp2_with fail
      refine bodyPost_ret (v:=.tuple #[.agg #[.int .i64 0,.int .i64 0,.int .i64 0],.int .i64 1]) (by simp[results,Tryz.results96,go_sem]) rfl (HRN.out _ ?_)
      first|exact Below.refl _ _|exact (Below.refl _ _).alloc (Nat.le_refl _) _
    have h0i:¬(0:Int)<(p:Int):=by omega
    go_wp2_with fail
    refine bodyPost_ret (v:=.tuple #[.agg #[.int .i64 0,.int .i64 0,.int .i64 0],.int .i64 1]) (by simp[results,Tryz.results96,go_sem]) rfl (HRN.out _ ?_)
    first|exact Below.refl _ _|exact (Below.refl _ _).alloc (Nat.le_refl _) _
  have hvb:(v==0)=false:=beq_eq_false_iff_ne.2 hv0
  by_cases hp0:0<p
  · obtain⟨u,hue,hcu⟩:=HPR.out hp0
    have HUE:Hid (u=l.getD (p-1) 0):=hue
    have h0i:(0:Int)<(p:Int):=by omega
    have em:(p:Int)-1=((p-1:Nat):Int):=by omega
    obtain⟨pm,hpm⟩:∃pm,pm=p-1:=⟨_,rfl⟩
    rw[←hpm] at em hcu HUE
    have HPM:Hid (pm=p-1):=hpm
    have wpm:=wrap_i64_nat pm (by omega)
    have hpmi:(pm:Int)<(L:Int):=by omega
    clear hue hpm HPR
    by_cases huv:u=v
    · subst huv
      have d3:(u==u)=true:=beq_self_eq_true u
      by_cases h3:3≤A
      · have h3i:(3:Int)≤(A:Int):=by omega
        obtain⟨M,hM⟩:∃M,M=min A 6:=⟨_,rfl⟩
        obtain⟨E,hE⟩:∃E,E=M-3:=⟨_,rfl⟩
        have eE:(M:Int)-3=(E:Int):=by omega
        have wE:=wrap_i64_nat E (by omega)
        have HRN:Hid (∀w',Below w.heap.size w w'→RunIs l p w (.returned (.tuple #[.agg #[.int .i64 16,.int .i64 (E:Int),.int .i64 2],.int .i64 (M:Int)])) w'):=fun w' hb=>by
         have e:Df.run l p=((16,(E:Int),2),M):=by
          unfold Df.run
          rw[if_neg (fun h=>hv0 (by rw[HV.out];exact h.1)),if_neg (fun h=>hv0 (by rw[HV.out];exact h.1)),if_pos ⟨hp0,by rw[←HV.out,←HPM.out,←HUE.out],by rw[←HAE.out];exact h3⟩,←HAE.out,←hM,←hE]
         unfold RunIs
         rw[e]
         exact⟨rfl,hb⟩
        have hmin:(A:Int)≤6∧M=A∨¬(A:Int)≤6∧M=6:=by omega
        clear hE HAE HV hM HUE HPM
        rcases hmin with⟨hm1,hm2⟩|⟨hm1,hm2⟩
        · subst hm2
          go_wp2_with fail
          refine bodyPost_ret (v:=.tuple #[.agg #[.int .i64 16,.int .i64 (E:Int),.int .i64 2],.int .i64 (M:Int)]) (by simp[results,Tryz.results96,go_sem]) rfl (HRN.out _ ?_)
          first|exact Below.refl _ _|exact (Below.refl _ _).alloc (Nat.le_refl _) _
        have eE2:(6:Int)-3=(E:Int):=by omega
        subst hm2
        go_wp2_with fail
        refine bodyPost_ret (v:=.tuple #[.agg #[.int .i64 16,.int .i64 (E:Int),.int .i64 2],.int .i64 6]) (by simp[results,Tryz.results96,go_sem]) rfl (HRN.out _ ?_)
        first|exact Below.refl _ _|exact (Below.refl _ _).alloc (Nat.le_refl _) _
      have h3i:¬(3:Int)≤(A:Int):=by omega
      have HRN:Hid (∀w',Below w.heap.size w w'→RunIs l p w (.returned (.tuple #[.agg #[.int .i64 u,.int .i64 0,.int .i64 0],.int .i64 1])) w'):=fun w' hb=>by
       have e:Df.run l p=((u,0,0),1):=by
        unfold Df.run
        rw[if_neg (fun h=>hv0 (by rw[HV.out];exact h.1)),if_neg (fun h=>hv0 (by rw[HV.out];exact h.1)),if_neg (fun h=>h3 (by rw[HAE.out];exact h.2.2)),←HV.out]
       unfold RunIs
       rw[e]
       exact⟨rfl,hb⟩
      clear HAE HV HUE HPM
      go_wp2_with fail
      refine bodyPost_ret (v:=.tuple #[.agg #[.int .i64 u,.int .i64 0,.int .i64 0],.int .i64 1]) (by simp[results,Tryz.results96,go_sem]) rfl (HRN.out _ ?_)
      first|exact Below.refl _ _|exact (Below.refl _ _).alloc (Nat.le_refl _) _
    have d3:(u==v)=false:=beq_eq_false_iff_ne.2 huv
    have HRN:Hid (∀w',Below w.heap.size w w'→RunIs l p w (.returned (.tuple #[.agg #[.int .i64 v,.int .i64 0,.int .i64 0],.int .i64 1])) w'):=fun w' hb=>by
     have e:Df.run l p=((v,0,0),1):=by
      unfold Df.run
      rw[if_neg (fun h=>hv0 (by rw[HV.out];exact h.1)),if_neg (fun h=>hv0 (by rw[HV.out];exact h.1)),if_neg (fun h=>huv (by rw[HUE.out,HPM.out,←h.2.1,←HV.out])),←HV.out]
     unfold RunIs
     rw[e]
     exact⟨rfl,hb⟩
    clear HAE HV HUE HPM
    go_wp2_with fail
    refine bodyPost_ret (v:=.tuple #[.agg #[.int .i64 v,.int .i64 0,.int .i64 0],.int .i64 1]) (by simp[results,Tryz.results96,go_sem]) rfl (HRN.out _ ?_)
    first|exact Below.refl _ _|exact (Below.refl _ _).alloc (Nat.le_refl _) _
  have h0i:¬(0:Int)<(p:Int):=by omega
  have HRN:Hid (∀w',Below w.heap.size w w'→RunIs l p w (.returned (.tuple #[.agg #[.int .i64 v,.int .i64 0,.int .i64 0],.int .i64 1])) w'):=fun w' hb=>by
   have e:Df.run l p=((v,0,0),1):=by
    unfold Df.run
    rw[if_neg (fun h=>hv0 (by rw[HV.out];exact h.1)),if_neg (fun h=>hv0 (by rw[HV.out];exact h.1)),if_neg (fun h=>hp0 h.1),←HV.out]
   unfold RunIs
   rw[e]
   exact⟨rfl,hb⟩
  clear HAE HV HPR
  go_wp2_with fail
  refine bodyPost_ret (v:=.tuple #[.agg #[.int .i64 v,.int .i64 0,.int .i64 0],.int .i64 1]) (by simp[results,Tryz.results96,go_sem]) rfl (HRN.out _ ?_)
  first|exact Below.refl _ _|exact (Below.refl _ _).alloc (Nat.le_refl _) _
end Go.Proofs.YtejebodgfoihkaaGreat
