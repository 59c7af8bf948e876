/- A heap of nodes in memory: one goes down. -/
import Derived.Test.YtejebodgfoihkaaGreatVFInflateTwoHpOps
namespace Go.Proofs.YtejebodgfoihkaaGreat
open Go.RowKit

structure HpT (K:Nat→Hp.Key) (L Hb lo g cap N:Nat) (l l0:List Nat) (w W:World):Prop where
 perm:l.Perm l0
 len:l.length=N
 hep:Hep W Hb lo l
 box:Boxed W Hb 161 (.slice (some ⟨g,0,none⟩) N cap)
 row:RowN W g N l
 own:W.ownsRow lo 137 1 (.slice (some ⟨g,0,none⟩) N cap) N (l.map ptN)
 at_:lo≤g
 keys:KeysAt W K l
 grow:HpG L Hb w W
theorem HpT.drewN {K:Nat→Hp.Key} {L Hb lo g cap N:Nat} {l l0:List Nat} {w W:World} (h:HpT K L Hb lo g cap N l l0 w W) (q:Nat):HpT K L Hb lo g cap N l l0 w (W.drewN q):=
 ⟨h.perm,h.len,h.hep.drewN q,h.box,h.row,h.own,h.at_,h.keys,h.grow.trans (HpG.drewN _ _ _ q)⟩
theorem HpT.swap {K:Nat→Hp.Key} {L Hb lo g cap N i j:Nat} {l l0:List Nat} {w W:World} (h:HpT K L Hb lo g cap N l l0 w W) (hL:L≤lo) (hi:i<N) (hj:j<N) (q:Nat):HpT K L Hb lo g cap N (Hp.sw l i j) l0 w (((W.setCell ⟨g,i,none⟩ (ptN (l.getD j 0))).setCell ⟨g,j,none⟩ (ptN (l.getD i 0))).drewN q):=by
 obtain⟨h1,h2,h3,h4,h5,h6,h7,h8,h9⟩:=h
 have hg:=HpG.swap (L:=L) (Hb:=Hb) (i:=i) (j:=j) (u:=ptN (l.getD j 0)) (v:=ptN (l.getD i 0)) h6 hL h7 q
 have hhep:=Hep.swap (i:=i) (j:=j) (l:=l) (by rw[h2];exact h4) (by rw[h2];exact h6) q
 have hne:=h4.not_row (by decide) h6
 have hbx:Boxed (((W.setCell ⟨g,i,none⟩ (ptN (l.getD j 0))).setCell ⟨g,j,none⟩ (ptN (l.getD i 0))).drewN q) Hb 161 (.slice (some ⟨g,0,none⟩) N cap):=by
  have hne':Hb≠g:=fun e=>hne (by rw[e];rfl)
  exact ((Below.heap_setCell _ ⟨g,j,none⟩ _ Hb hne').trans (Below.heap_setCell _ ⟨g,i,none⟩ _ Hb hne')).trans h4
 have hsl:(Hp.sw l i j).length=N:=by rw[Hp.sw_len,h2]
 obtain⟨g',cap',hg',hB',hRN',hOR',_⟩:=hhep.row (by omega)
 have e:Value.slice (some ⟨g',0,none⟩) (Hp.sw l i j).length cap'=Value.slice (some ⟨g,0,none⟩) N cap:=by
  have h10:=hbx
  unfold Boxed at hB' h10
  rw[hB'] at h10
  simpa using h10
 rw[hsl] at e hRN' hOR'
 injection e with e1 e2 e3
 injection e1 with e4
 injection e4 with e5
 subst e5
 subst e3
 exact⟨(Hp.sw_perm (by omega) (by omega)).trans h1,hsl,hhep,hbx,hRN',hOR',h7,hg.keys (fun k hk=>h8 k ((Hp.sw_perm (by omega) (by omega)).mem_iff.1 hk)) ⟨_,h4⟩,h9.trans hg⟩
def DownEnd (K:Nat→Hp.Key) (L Hb lo g cap n:Nat) (l:List Nat) (w:World) (e:Ending) (w':World):Prop:=(∃v,e=.returned v)∧∃l',Hp.Heap K l' n∧l'.getD n 0=l.getD n 0∧HpT K L Hb lo g cap (n+1) l' l w w'
theorem kids {i c:Nat} (h0:0<c) (h:(c-1) / 2=i):c=2*i+1∨c=2*i+1+1:=by omega
set_option maxHeartbeats 8000000 in
set_option maxRecDepth 20000 in
theorem hpDown (K:Nat→Hp.Key) (L Hb lo g cap n:Nat) (l:List Nat) (w:World) (hL:L≤lo) (hn:n≤1000) (hT:HpT K L Hb lo g cap (n+1) l l w w) (hKb:∀k∈l,(K k).1≤100000000∧(K k).2≤100000000) (hD:Hp.Down K l n 0):
 Calls Tryz.prog 126 #[.iface 159 (.pointer (some ⟨Hb,0,none⟩)),.int .i64 0,.int .i64 (n:Int)] w (DownEnd K L Hb lo g cap n l w):=by
 obtain⟨N,hN⟩:∃N,N=n+1:=⟨_,rfl⟩
 have HNN:Hid (N=n+1):=hN
 have hnN:n<N:=by omega
 have HS:Hid (HpT K L Hb lo g cap N l l w w∧Hp.Down K l n 0):=⟨by rw[hN];exact hT,hD⟩
 have HE0:Hid (∀(l':List Nat) (W:World) (v:Value),Hp.Heap K l' n→l'.getD n 0=l.getD n 0→HpT K L Hb lo g cap N l' l w W→DownEnd K L Hb lo g cap n l w (.returned v) W):=fun l' W v h1 h2 h3=>⟨⟨v,rfl⟩,l',h1,h2,by rw[←hN];exact h3⟩
 have HB:Hid (∀l':List Nat,l'.Perm l→∀k∈l',(K k).1≤100000000∧(K k).2≤100000000):=fun l' hp k hk=>hKb k (hp.mem_iff.1 hk)
 clear hT hKb hD hN
 go_enter Tryz.func126,Tryz.ntmps126
 go_wp2_with fail
 go_loopw [7] (fun x wr=>∃(i:Nat) (l':List Nat),i≤n∧x=.int .i64 (i:Int)∧Hid (HpT K L Hb lo g cap N l' l w wr∧Hp.Down K l' n i∧l'.getD n 0=l.getD n 0)) (fun x _=>n+1-(intOf x).toNat)
 case atStart=>exact⟨0,l,Nat.zero_le _,rfl,HS.out.1,HS.out.2,rfl⟩
 case round=>
  obtain⟨i,l',hi,rfl,HR⟩:=hrel
  obtain⟨J,hJ⟩:∃J,J=2*i+1:=⟨_,rfl⟩
  have eJ:2*(i:Int)+1=(J:Int):=by omega
  have hJi:i<J:=by omega
  by_cases hJn:J<n
  · have dge:decide ((J:Int)≥(n:Int))=false:=by simp;omega
    have dlt0:decide ((J:Int)<0)=false:=by simp
    obtain⟨J2,hJ2⟩:∃J2,J2=J+1:=⟨_,rfl⟩
    have eJ2:(J:Int)+1=(J2:Int):=by omega
    have hJ2b:J2≤n:=by omega
    have HJJ:Hid (J=2*i+1∧J2=J+1):=⟨hJ,hJ2⟩
    have hbc:=HR.out.1.box.cell
    clear HS hJ hJ2
    by_cases hJ2n:J2<n
    · have dj2:decide ((J2:Int)<(n:Int))=true:=by simp;omega
      have HLS:Hid (Calls Tryz.prog 148 #[.slice (some ⟨g,0,none⟩) N cap,.int .i64 (J2:Int),.int .i64 (J:Int)] wr fun e w'=>e=.returned (.bool (decide (Hp.klt (K (l'.getD J2 0)) (K (l'.getD J 0)))))∧∃q,w'=wr.drewN q):=hpLess g N cap l' K J2 J wr (by omega) (by omega) HR.out.1.row HR.out.1.keys (HB.out l' HR.out.1.perm)
      have m0:=m_less Hb (some ⟨g,0,none⟩) N cap wr hbc
      by_cases hcl:Hp.klt (K (l'.getD J2 0)) (K (l'.getD J 0))
      · rw[decide_eq_true hcl] at HLS
        have HBEST:Hid (∀c,0<c→c<n→(c-1) / 2=i→¬Hp.klt (K (l'.getD c 0)) (K (l'.getD J2 0))):=fun c h1 h2 h3=>by
         rcases kids h1 h3 with e|e
         · rw[e,←HJJ.out.1];exact Hp.klt_nlt hcl
         rw[e,←HJJ.out.1,←HJJ.out.2];exact Hp.klt_self _
        have HPAR:Hid ((J2-1) / 2=i):=by show _=_;have:=HJJ.out;omega
        have hiJ:i<J2:=by have:=HJJ.out;omega
        clear hcl
        go_wp2_with fail
        refine HLS.out.mono ?_
        rintro e w2 ⟨rfl,q,hw2⟩
        have HR2:Hid (HpT K L Hb lo g cap N l' l w w2∧Hp.Down K l' n i∧l'.getD n 0=l.getD n 0):=by rw[hw2];exact⟨HR.out.1.drewN q,HR.out.2⟩
        have hbc2:=HR2.out.1.box.cell
        clear HLS m0 hw2 HR hbc
        have HL2:Hid (Calls Tryz.prog 148 #[.slice (some ⟨g,0,none⟩) N cap,.int .i64 (J2:Int),.int .i64 (i:Int)] w2 fun e w'=>e=.returned (.bool (decide (Hp.klt (K (l'.getD J2 0)) (K (l'.getD i 0)))))∧∃q,w'=(w2).drewN q):=hpLess g N cap l' K J2 i w2 (by omega) (by omega) HR2.out.1.row HR2.out.1.keys (HB.out l' HR2.out.1.perm)
        have m5:=m_less Hb (some ⟨g,0,none⟩) N cap w2 hbc2
        by_cases hdl:Hp.klt (K (l'.getD J2 0)) (K (l'.getD i 0))
        · rw[decide_eq_true hdl] at HL2
          have HSW:Hid (∀q,Calls Tryz.prog 151 #[.slice (some ⟨g,0,none⟩) N cap,.int .i64 (i:Int),.int .i64 (J2:Int)] ((w2).drewN q) (SwapEnd g l' i J2 ((w2).drewN q))):=fun q=>hpSwap g N cap l' i J2 ((w2).drewN q) (by omega) (by omega) HR2.out.1.row
          have m6 : ∀ q, (method 296 159 (.pointer (some ⟨Hb, 0, none⟩)) "Swap").run Tryz.prog ((w2).drewN q) = .ok (151, .slice (some ⟨g, 0, none⟩) N cap) ((w2).drewN q) := fun q => m_swap Hb (some ⟨g, 0, none⟩) N cap ((w2).drewN q) hbc2
          have HNX:Hid (∀q q2,HpT K L Hb lo g cap N (Hp.sw l' i J2) l w (((((w2).drewN q).setCell ⟨g,i,none⟩ (ptN (l'.getD J2 0))).setCell ⟨g,J2,none⟩ (ptN (l'.getD i 0))).drewN q2)∧Hp.Down K (Hp.sw l' i J2) n J2∧(Hp.sw l' i J2).getD n 0=l.getD n 0):=fun q q2=>by
           have hlen:=HR2.out.1.len
           refine⟨(HR2.out.1.drewN q).swap hL (by omega) (by omega) q2,Hp.down_step HR2.out.2.1 (by omega) (by omega) HPAR.out (by omega) hdl HBEST.out,?_⟩
           rw[Hp.sw_get (by omega) (by omega),if_neg (by omega),if_neg (by omega)]
           exact HR2.out.2.2
          clear HR2 hdl HBEST HPAR
          go_wp2_with fail
          refine HL2.out.mono ?_
          rintro e w6 ⟨rfl,q6,rfl⟩
          have m7:=m6 q6
          clear HL2 m5 m6
          go_wp2_with fail
          refine (HSW.out q6).mono ?_
          rintro e w7 ⟨⟨v7,rfl⟩,q7,hw7⟩
          have HR7:Hid (HpT K L Hb lo g cap N (Hp.sw l' i J2) l w w7∧Hp.Down K (Hp.sw l' i J2) n J2∧(Hp.sw l' i J2).getD n 0=l.getD n 0):=by rw[hw7];exact HNX.out q6 q7
          clear m7 HSW hw7 HNX
          go_wp2_with fail
          go_roundw
          case rel=>exact⟨J2,_,by omega,rfl,HR7⟩
          case measure=>simp[intOf];omega
        rw[decide_eq_false hdl] at HL2
        have HE:Hid (∀q v,DownEnd K L Hb lo g cap n l w (.returned v) ((w2).drewN q)):=fun q v=>HE0.out l' _ v (Hp.down_done HR2.out.2.1 (fun c h1 h2 h3=>Hp.nlt_trans hdl (HBEST.out c h1 h2 h3))) HR2.out.2.2 (HR2.out.1.drewN q)
        clear HR2 hdl HBEST HPAR
        go_wp2_with fail
        refine HL2.out.mono ?_
        rintro e w6 ⟨rfl,q6,rfl⟩
        clear HL2 m5
        go_wp2_with fail
        go_ret
        exact HE.out q6 _
      rw[decide_eq_false hcl] at HLS
      have HBEST:Hid (∀c,0<c→c<n→(c-1) / 2=i→¬Hp.klt (K (l'.getD c 0)) (K (l'.getD J 0))):=fun c h1 h2 h3=>by
       rcases kids h1 h3 with e|e
       · rw[e,←HJJ.out.1];exact Hp.klt_self _
       rw[e,←HJJ.out.1,←HJJ.out.2];exact hcl
      have HPAR:Hid ((J-1) / 2=i):=by show _=_;have:=HJJ.out;omega
      have hiJ:i<J:=hJi
      clear hcl
      go_wp2_with fail
      refine HLS.out.mono ?_
      rintro e w2 ⟨rfl,q,hw2⟩
      have HR2:Hid (HpT K L Hb lo g cap N l' l w w2∧Hp.Down K l' n i∧l'.getD n 0=l.getD n 0):=by rw[hw2];exact⟨HR.out.1.drewN q,HR.out.2⟩
      have hbc2:=HR2.out.1.box.cell
      clear HLS m0 hw2 HR hbc
      have HL2:Hid (Calls Tryz.prog 148 #[.slice (some ⟨g,0,none⟩) N cap,.int .i64 (J:Int),.int .i64 (i:Int)] w2 fun e w'=>e=.returned (.bool (decide (Hp.klt (K (l'.getD J 0)) (K (l'.getD i 0)))))∧∃q,w'=(w2).drewN q):=hpLess g N cap l' K J i w2 (by omega) (by omega) HR2.out.1.row HR2.out.1.keys (HB.out l' HR2.out.1.perm)
      have m5:=m_less Hb (some ⟨g,0,none⟩) N cap w2 hbc2
      by_cases hdl:Hp.klt (K (l'.getD J 0)) (K (l'.getD i 0))
      · rw[decide_eq_true hdl] at HL2
        have HSW:Hid (∀q,Calls Tryz.prog 151 #[.slice (some ⟨g,0,none⟩) N cap,.int .i64 (i:Int),.int .i64 (J:Int)] ((w2).drewN q) (SwapEnd g l' i J ((w2).drewN q))):=fun q=>hpSwap g N cap l' i J ((w2).drewN q) (by omega) (by omega) HR2.out.1.row
        have m6 : ∀ q, (method 296 159 (.pointer (some ⟨Hb, 0, none⟩)) "Swap").run Tryz.prog ((w2).drewN q) = .ok (151, .slice (some ⟨g, 0, none⟩) N cap) ((w2).drewN q) := fun q => m_swap Hb (some ⟨g, 0, none⟩) N cap ((w2).drewN q) hbc2
        have HNX:Hid (∀q q2,HpT K L Hb lo g cap N (Hp.sw l' i J) l w (((((w2).drewN q).setCell ⟨g,i,none⟩ (ptN (l'.getD J 0))).setCell ⟨g,J,none⟩ (ptN (l'.getD i 0))).drewN q2)∧Hp.Down K (Hp.sw l' i J) n J∧(Hp.sw l' i J).getD n 0=l.getD n 0):=fun q q2=>by
         have hlen:=HR2.out.1.len
         refine⟨(HR2.out.1.drewN q).swap hL (by omega) (by omega) q2,Hp.down_step HR2.out.2.1 (by omega) (by omega) HPAR.out (by omega) hdl HBEST.out,?_⟩
         rw[Hp.sw_get (by omega) (by omega),if_neg (by omega),if_neg (by omega)]
         exact HR2.out.2.2
        clear HR2 hdl HBEST HPAR
        go_wp2_with fail
        refine HL2.out.mono ?_
        rintro e w6 ⟨rfl,q6,rfl⟩
        have m7:=m6 q6
        clear HL2 m5 m6
        go_wp2_with fail
        refine (HSW.out q6).mono ?_
        rintro e w7 ⟨⟨v7,rfl⟩,q7,hw7⟩
        have HR7:Hid (HpT K L Hb lo g cap N (Hp.sw l' i J) l w w7∧Hp.Down K (Hp.sw l' i J) n J∧(Hp.sw l' i J).getD n 0=l.getD n 0):=by rw[hw7];exact HNX.out q6 q7
        clear m7 HSW hw7 HNX
        go_wp2_with fail
        go_roundw
        case rel=>exact⟨J,_,by omega,rfl,HR7⟩
        case measure=>simp[intOf];omega
      rw[decide_eq_false hdl] at HL2
      have HE:Hid (∀q v,DownEnd K L Hb lo g cap n l w (.returned v) ((w2).drewN q)):=fun q v=>HE0.out l' _ v (Hp.down_done HR2.out.2.1 (fun c h1 h2 h3=>Hp.nlt_trans hdl (HBEST.out c h1 h2 h3))) HR2.out.2.2 (HR2.out.1.drewN q)
      clear HR2 hdl HBEST HPAR
      go_wp2_with fail
      refine HL2.out.mono ?_
      rintro e w6 ⟨rfl,q6,rfl⟩
      clear HL2 m5
      go_wp2_with fail
      go_ret
      exact HE.out q6 _
    have dj2:decide ((J2:Int)<(n:Int))=false:=by simp;omega
    have HBEST:Hid (∀c,0<c→c<n→(c-1) / 2=i→¬Hp.klt (K (l'.getD c 0)) (K (l'.getD J 0))):=fun c h1 h2 h3=>by
     rcases kids h1 h3 with e|e
     · rw[e,←HJJ.out.1];exact Hp.klt_self _
     have:=HJJ.out;omega
    have HPAR:Hid ((J-1) / 2=i):=by show _=_;have:=HJJ.out;omega
    have hiJ:i<J:=hJi
    have HL2:Hid (Calls Tryz.prog 148 #[.slice (some ⟨g,0,none⟩) N cap,.int .i64 (J:Int),.int .i64 (i:Int)] wr fun e w'=>e=.returned (.bool (decide (Hp.klt (K (l'.getD J 0)) (K (l'.getD i 0)))))∧∃q,w'=(wr).drewN q):=hpLess g N cap l' K J i wr (by omega) (by omega) HR.out.1.row HR.out.1.keys (HB.out l' HR.out.1.perm)
    have m5:=m_less Hb (some ⟨g,0,none⟩) N cap wr hbc
    by_cases hdl:Hp.klt (K (l'.getD J 0)) (K (l'.getD i 0))
    · rw[decide_eq_true hdl] at HL2
      have HSW:Hid (∀q,Calls Tryz.prog 151 #[.slice (some ⟨g,0,none⟩) N cap,.int .i64 (i:Int),.int .i64 (J:Int)] ((wr).drewN q) (SwapEnd g l' i J ((wr).drewN q))):=fun q=>hpSwap g N cap l' i J ((wr).drewN q) (by omega) (by omega) HR.out.1.row
      have m6 : ∀ q, (method 296 159 (.pointer (some ⟨Hb, 0, none⟩)) "Swap").run Tryz.prog ((wr).drewN q) = .ok (151, .slice (some ⟨g, 0, none⟩) N cap) ((wr).drewN q) := fun q => m_swap Hb (some ⟨g, 0, none⟩) N cap ((wr).drewN q) hbc
      have HNX:Hid (∀q q2,HpT K L Hb lo g cap N (Hp.sw l' i J) l w (((((wr).drewN q).setCell ⟨g,i,none⟩ (ptN (l'.getD J 0))).setCell ⟨g,J,none⟩ (ptN (l'.getD i 0))).drewN q2)∧Hp.Down K (Hp.sw l' i J) n J∧(Hp.sw l' i J).getD n 0=l.getD n 0):=fun q q2=>by
       have hlen:=HR.out.1.len
       refine⟨(HR.out.1.drewN q).swap hL (by omega) (by omega) q2,Hp.down_step HR.out.2.1 (by omega) (by omega) HPAR.out (by omega) hdl HBEST.out,?_⟩
       rw[Hp.sw_get (by omega) (by omega),if_neg (by omega),if_neg (by omega)]
       exact HR.out.2.2
      clear HR hdl HBEST HPAR
      go_wp2_with fail
      refine HL2.out.mono ?_
      rintro e w6 ⟨rfl,q6,rfl⟩
      have m7:=m6 q6
      clear HL2 m5 m6
      go_wp2_with fail
      refine (HSW.out q6).mono ?_
      rintro e w7 ⟨⟨v7,rfl⟩,q7,hw7⟩
      have HR7:Hid (HpT K L Hb lo g cap N (Hp.sw l' i J) l w w7∧Hp.Down K (Hp.sw l' i J) n J∧(Hp.sw l' i J).getD n 0=l.getD n 0):=by rw[hw7];exact HNX.out q6 q7
      clear m7 HSW hw7 HNX
      go_wp2_with fail
      go_roundw
      case rel=>exact⟨J,_,by omega,rfl,HR7⟩
      case measure=>simp[intOf];omega
    rw[decide_eq_false hdl] at HL2
    have HE:Hid (∀q v,DownEnd K L Hb lo g cap n l w (.returned v) ((wr).drewN q)):=fun q v=>HE0.out l' _ v (Hp.down_done HR.out.2.1 (fun c h1 h2 h3=>Hp.nlt_trans hdl (HBEST.out c h1 h2 h3))) HR.out.2.2 (HR.out.1.drewN q)
    clear HR hdl HBEST HPAR
    go_wp2_with fail
    refine HL2.out.mono ?_
    rintro e w6 ⟨rfl,q6,rfl⟩
    clear HL2 m5
    go_wp2_with fail
    go_ret
    exact HE.out q6 _
  have dge:decide ((J:Int)≥(n:Int))=true:=by simp;omega
  have HE:Hid (∀v,DownEnd K L Hb lo g cap n l w (.returned v) wr):=fun v=>HE0.out l' wr v (Hp.down_done HR.out.2.1 (fun c h1 h2 h3=>by rcases kids h1 h3 with e|e<;>omega)) HR.out.2.2 HR.out.1
  clear HR HS hJ
  go_wp2_with fail
  go_ret
  exact HE.out _
end Go.Proofs.YtejebodgfoihkaaGreat
