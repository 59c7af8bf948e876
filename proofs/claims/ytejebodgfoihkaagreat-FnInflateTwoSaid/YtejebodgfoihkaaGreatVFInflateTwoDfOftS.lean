/- How often each symbol comes, as the specification counts. -/
import Derived.StillTailTactics
import Derived.Test.YtejebodgfoihkaaGreatKFInflateTwox0
import Derived.Test.YtejebodgfoihkaaGreatKFInflateTwox1
namespace Go.Proofs.YtejebodgfoihkaaGreat
open Go.RowKit

def OftEnd (w:World) (l:List Tk) (e:Ending) (w':World):Prop:=(∃b1 b2,e=.returned (.tuple #[.slice (some ⟨b1,0,none⟩) 286 286,.slice (some ⟨b2,0,none⟩) 30 30])∧w.heap.size≤b1∧w.heap.size≤b2∧DRow w' b1 (Df.oftS l)∧DRow w' b2 (Df.cntD l))∧Below w.heap.size w w'

set_option maxHeartbeats 4000000 in
set_option maxRecDepth 20000 in
theorem l5Often_any (xa:Option Addr) (N cL:Nat) (l:List Tk) (w:World) (ht:Toks w xa l) (hN:l.length=N) (hNb:N≤5000) (htk:∀t∈l,Df.TkOk t):
 Calls Tryz.prog 77 #[.slice xa N cL] w (OftEnd w l):=by
 have HI:Hid (Toks w xa l):=ht
 have HN:Hid (l.length=N):=hN
 have HK:Hid (∀t∈l,Df.TkOk t):=htk
 clear ht hN htk
 have hmk1:(Instr.makeSlice 30 (.int .i64 286) (.int .i64 286)).run Tryz.prog w=.ok (.slice (some ⟨w.heap.size,0,none⟩) 286 286) (w.alloc (.cells ((List.replicate 286 (0:Int)).map (Value.int .i64)).toArray 3)):=make_rowN 286 (by omega) w
 obtain⟨w1,hw1⟩:∃w1,w1=w.alloc (.cells ((List.replicate 286 (0:Int)).map (Value.int .i64)).toArray 3):=⟨_,rfl⟩
 have hmk2:(Instr.makeSlice 30 (.int .i64 30) (.int .i64 30)).run Tryz.prog w1=.ok (.slice (some ⟨w1.heap.size,0,none⟩) 30 30) (w1.alloc (.cells ((List.replicate 30 (0:Int)).map (Value.int .i64)).toArray 3)):=make_rowN 30 (by omega) w1
 obtain⟨B1,hB1⟩:∃B1,B1=w.heap.size:=⟨_,rfl⟩
 obtain⟨B2,hB2⟩:∃B2,B2=w1.heap.size:=⟨_,rfl⟩
 obtain⟨w2,hw2⟩:∃w2,w2=w1.alloc (.cells ((List.replicate 30 (0:Int)).map (Value.int .i64)).toArray 3):=⟨_,rfl⟩
 have b1:Below w.heap.size w w1:=by rw[hw1];exact (Below.refl _ _).alloc (Nat.le_refl _) _
 have b2:Below w1.heap.size w1 w2:=by rw[hw2];exact (Below.refl _ _).alloc (Nat.le_refl _) _
 have hlt1:w.heap.size<w1.heap.size:=by rw[hw1];simp
 have r1:DRow w1 B1 (Df.cntS []):=by rw[hw1,hB1];exact heap_alloc_new _ _
 have r2:DRow w2 B2 (Df.cntD []):=by rw[hw2,hB2];exact heap_alloc_new _ _
 have r1':=r1.below b2
 have hne:B1≠B2:=by omega
 have c256:=r1'.cellD 256 (by decide)
 have f256:=r1'.free 256
 have HR0:Hid (DRow (w2.setCell ⟨B1,256,none⟩ (.int .i64 1)) B1 (Df.oftS (l.take 0))∧DRow (w2.setCell ⟨B1,256,none⟩ (.int .i64 1)) B2 (Df.cntD (l.take 0))∧Below w.heap.size w (w2.setCell ⟨B1,256,none⟩ (.int .i64 1))):=⟨r1'.set 256 1,r2.other (Ne.symm hne) _ _,(b1.trans (b2.mono b1.size)).setCell (p:=⟨B1,256,none⟩) (by show w.heap.size≤B1;omega) _⟩
 generalize (Df.cntS []).getD 256 0=u256 at c256
 rw[←hw1,←hB1] at hmk1
 rw[←hw2,←hB2] at hmk2
 have HB:Hid (B1≠B2∧w.heap.size≤B1∧w.heap.size≤B2):=⟨hne,by omega,by omega⟩
 clear r1 r2 r1' b1 b2 hw1 hw2 hlt1 hne hB1 hB2
 go_enter Tryz.func77,Tryz.ntmps77
 go_wp2_with fail
 clear c256 f256 hmk1 hmk2
 go_loopw [6] (fun i wr=>∃k:Nat,k≤N∧i=.int .i64 (k:Int)∧Hid (DRow wr B1 (Df.oftS (l.take k))∧DRow wr B2 (Df.cntD (l.take k))∧Below w.heap.size w wr)) (fun i _=>N-(intOf i).toNat)
 case atStart=>exact⟨0,Nat.zero_le _,rfl,HR0⟩
 case round=>
  obtain⟨k,hk,rfl,HR⟩:=hrel
  clear HR0
  by_cases hlt:k<N
  · have hki:(k:Int)<(N:Int):=by omega
    have hkl:k<l.length:=by rw[HN.out];exact hlt
    obtain⟨tb,toff,rfl,htb,d1,d2,d3⟩:=HI.out.at hkl
    have e1:=(HR.out.2.2.cell (p:=⟨tb,toff+k*3,none⟩) htb).trans d1
    have e2:=(HR.out.2.2.cell (p:=⟨tb,toff+k*3+1,none⟩) htb).trans d2
    have e3:=(HR.out.2.2.cell (p:=⟨tb,toff+k*3+2,none⟩) htb).trans d3
    have hok:=HK.out _ (List.getElem_mem hkl)
    have HT1:Hid (Df.oftS (l.take (k+1))=Df.inc (Df.oftS (l.take k)) (Df.sym l[k])):=by
     show _=_
     rw[List.take_succ_eq_append_getElem hkl,Df.oftS_snoc _ hok]
    have HT2:Hid (Df.cntD (l.take (k+1))=Df.incD (Df.cntD (l.take k)) l[k]):=by
     show _=_
     rw[List.take_succ_eq_append_getElem hkl,Df.cntD_snoc]
    have hsy:=(Df.sym_ok hok).1
    have hcS:=Df.oftS_cnt l k (by omega)
    have hcD:=Df.cntD_cnt l k (by omega)
    have hlS:=Df.oftS_len (l.take k)
    have hlD:=Df.cntD_len (l.take k)
    clear d1 d2 d3
    obtain⟨v,s,d,htd⟩:∃v s d,l[k]=(v,s,d):=⟨_,_,_,rfl⟩
    rw[htd] at e1 e2 e3 HT1 HT2 hok hsy
    dsimp only at e1 e2 e3
    clear htd
    obtain⟨cS,hcSe⟩:∃cS,cS=Df.oftS (l.take k):=⟨_,rfl⟩
    obtain⟨cD,hcDe⟩:∃cD,cD=Df.cntD (l.take k):=⟨_,rfl⟩
    rw[←hcSe] at HR HT1 hcS hlS
    rw[←hcDe] at HR HT2 hcD hlD
    clear hcSe hcDe
    rcases hok with⟨hs0,hv0,hv1⟩|⟨hs3,hs258,hd1,hd5⟩
    · obtain⟨V,rfl⟩:=Int.eq_ofNat_of_zero_le hv0
      dsimp only at hs0 hv1
      subst hs0
      have hsv:Df.sym ((V:Int),0,d)=V:=rfl
      rw[hsv] at HT1 hsy
      have hVl:V<cS.length:=by omega
      have c1:=HR.out.1.cellD V hVl
      have f1:=HR.out.1.free V
      have hb1:=hcS V
      obtain⟨x,hx⟩:=Int.eq_ofNat_of_zero_le hb1.1
      rw[hx] at c1 hb1
      have hxb:x≤6000:=by omega
      have hset:=HR.out.1.set V ((x:Int)+1)
      have hinc:cS.set V ((x:Int)+1)=Df.inc cS V:=by unfold Df.inc;rw[hx]
      rw[hinc,←HT1.out] at hset
      have HR2:Hid (DRow (wr.setCell ⟨B1,V,none⟩ (.int .i64 ((x:Int)+1))) B1 (Df.oftS (l.take (k+1)))∧DRow (wr.setCell ⟨B1,V,none⟩ (.int .i64 ((x:Int)+1))) B2 (Df.cntD (l.take (k+1)))∧Below w.heap.size w (wr.setCell ⟨B1,V,none⟩ (.int .i64 ((x:Int)+1)))):=⟨hset,by rw[HT2.out];exact HR.out.2.1.other (Ne.symm HB.out.1) _ _,HR.out.2.2.setCell (p:=⟨B1,V,none⟩) HB.out.2.1 _⟩
      obtain⟨x1,hx1⟩:∃x1,x1=x+1:=⟨_,rfl⟩
      have ex1:(x:Int)+1=(x1:Int):=by omega
      have wx1:IntKind.i64.wrap (x1:Int)=(x1:Int):=wrap_i64_nat x1 (by omega)
      have wx2:IntKind.i64.wrap ((x:Int)+1)=(x1:Int):=by rw[ex1];exact wx1
      rw[ex1] at HR2
      have hVn:V<286:=by omega
      have hVi:(V:Int)<286:=by omega
      clear hset hinc hx hx1 HR HT1 HT2 hcS hcD hlS hlD e3 hVl ex1
      go_wp2_with fail
      go_still_tail 16,(by kernel_rfl)
      repeat still_step
      try refine wpStill_nil ?_
      go_wp2_with fail
      go_roundw
      case rel=>exact⟨k+1,by omega,by go_num,HR2.out.1,HR2.out.2.1,HR2.out.2.2.drew⟩
      case measure=>simp[intOf];omega
    obtain⟨X,rfl⟩:=Int.eq_ofNat_of_zero_le (show 0≤s by dsimp only at hs3;omega)
    obtain⟨Y,rfl⟩:=Int.eq_ofNat_of_zero_le (show 0≤d by dsimp only at hd1;omega)
    dsimp only at hs3 hs258 hd1 hd5
    have hX0:¬(X:Int)=0:=by omega
    have HSZ5:Hid (∀w:World,Calls Tryz.prog 74 #[.int .i64 (X:Int)] w (SzIs X w)):=fun w=>l5Size_any X (by omega) (by omega) w
    have HDS5:Hid (∀w:World,Calls Tryz.prog 75 #[.int .i64 (Y:Int)] w (DsIs Y w)):=fun w=>l5Dist_any Y (by omega) (by omega) w
    have hsl:=Df.szSym_lt X
    have hdl:=Df.dsSym_lt Y
    have hsv:Df.sym (v,(X:Int),(Y:Int))=257+Df.szSym X:=by unfold Df.sym;rw[if_neg hX0];rfl
    have hdv:Df.incD cD (v,(X:Int),(Y:Int))=Df.inc cD (Df.dsSym Y):=by unfold Df.incD;rw[if_neg hX0];rfl
    rw[hsv] at HT1 hsy
    rw[hdv] at HT2
    clear hsv hdv
    obtain⟨SY,hSY⟩:∃SY,SY=257+Df.szSym X:=⟨_,rfl⟩
    obtain⟨DY,hDY⟩:∃DY,DY=Df.dsSym Y:=⟨_,rfl⟩
    unfold SzIs at HSZ5
    unfold DsIs at HDS5
    rw[←hSY] at HSZ5 HT1 hsy
    rw[←hDY] at HDS5 HT2
    have hSYb:SY<286:=by omega
    have hDYb:DY<30:=by omega
    have hSYi:(SY:Int)<286:=by omega
    have hDYi:(DY:Int)<30:=by omega
    generalize (Df.szBit X).1=z1 at*
    generalize (Df.szBit X).2=z2 at*
    generalize (Df.dsBit Y).1=g1 at*
    generalize (Df.dsBit Y).2=g2 at*
    clear hsl hdl hSY hDY hsy
    go_wp2_with fail
    refine (HSZ5.out _).mono ?_
    rintro e w3 ⟨rfl,b3⟩
    have e33:=(b3.cell (p:=⟨tb,toff+k*3+2,none⟩) (Nat.lt_of_lt_of_le htb HR.out.2.2.size)).trans e3
    have HR3:Hid (DRow w3 B1 cS∧DRow w3 B2 cD∧Below w.heap.size w w3):=⟨HR.out.1.below b3,HR.out.2.1.below b3,HR.out.2.2.trans (b3.mono HR.out.2.2.size)⟩
    have htb3:tb<w3.heap.size:=Nat.lt_of_lt_of_le (Nat.lt_of_lt_of_le htb HR.out.2.2.size) b3.size
    have e34:(w3.alloc (.cells #[.int .i64 z1,.int .i64 z2] 38)).cell? ⟨tb,toff+k*3+2,none⟩=some (.int .i64 (Y:Int)):=(((Below.refl w3.heap.size w3).alloc (Nat.le_refl _) _).cell (p:=⟨tb,toff+k*3+2,none⟩) htb3).trans e33
    clear b3 HR HSZ5 e1 e2 e3 e33
    go_wp2_with fail
    refine (HDS5.out _).mono ?_
    rintro e w4 ⟨rfl,b4⟩
    have b34:Below w3.heap.size w3 w4:=((Below.refl _ _).alloc (Nat.le_refl _) _).trans (b4.mono (by simp))
    obtain⟨W,hW⟩:∃W,W=w4.alloc (.cells #[.int .i64 g1,.int .i64 g2] 38):=⟨_,rfl⟩
    have b3W:Below w3.heap.size w3 W:=by rw[hW];exact b34.alloc b34.size _
    have HR4:Hid (DRow W B1 cS∧DRow W B2 cD∧Below w.heap.size w W):=⟨HR3.out.1.below b3W,HR3.out.2.1.below b3W,HR3.out.2.2.trans (b3W.mono HR3.out.2.2.size)⟩
    have c1:=HR4.out.1.cellD SY (by omega)
    have f1:=HR4.out.1.free SY
    have hb1:=hcS SY
    obtain⟨x,hx⟩:=Int.eq_ofNat_of_zero_le hb1.1
    have hb2:=hcD DY
    obtain⟨y,hy⟩:=Int.eq_ofNat_of_zero_le hb2.1
    rw[hx] at c1 hb1
    rw[hy] at hb2
    have hxb:x≤6000:=by omega
    have hyb:y≤6000:=by omega
    have hset1:=HR4.out.1.set SY ((x:Int)+1)
    have hinc1:cS.set SY ((x:Int)+1)=Df.inc cS SY:=by unfold Df.inc;rw[hx]
    rw[hinc1,←HT1.out] at hset1
    have hD1:=HR4.out.2.1.other (Ne.symm HB.out.1) SY (.int .i64 ((x:Int)+1))
    have c2:=hD1.cellD DY (by omega)
    have f2:=hD1.free DY
    rw[hy] at c2
    have hset2:=hD1.set DY ((y:Int)+1)
    have hinc2:cD.set DY ((y:Int)+1)=Df.inc cD DY:=by unfold Df.inc;rw[hy]
    rw[hinc2,←HT2.out] at hset2
    have hset1':=hset1.other HB.out.1 DY (.int .i64 ((y:Int)+1))
    obtain⟨x1,hx1⟩:∃x1,x1=x+1:=⟨_,rfl⟩
    have ex1:(x:Int)+1=(x1:Int):=by omega
    obtain⟨y1,hy1⟩:∃y1,y1=y+1:=⟨_,rfl⟩
    have ey1:(y:Int)+1=(y1:Int):=by omega
    have HR5:Hid (DRow ((W.setCell ⟨B1,SY,none⟩ (.int .i64 ((x:Int)+1))).setCell ⟨B2,DY,none⟩ (.int .i64 ((y:Int)+1))) B1 (Df.oftS (l.take (k+1)))∧DRow ((W.setCell ⟨B1,SY,none⟩ (.int .i64 ((x:Int)+1))).setCell ⟨B2,DY,none⟩ (.int .i64 ((y:Int)+1))) B2 (Df.cntD (l.take (k+1)))∧Below w.heap.size w ((W.setCell ⟨B1,SY,none⟩ (.int .i64 ((x:Int)+1))).setCell ⟨B2,DY,none⟩ (.int .i64 ((y:Int)+1)))):=⟨hset1',hset2,(HR4.out.2.2.setCell (p:=⟨B1,SY,none⟩) HB.out.2.1 _).setCell (p:=⟨B2,DY,none⟩) HB.out.2.2 _⟩
    rw[ex1,ey1] at HR5
    rw[ex1] at c2 f2
    rw[hW] at c1 f1 c2 f2 HR5
    clear hset1 hset2 hset1' hinc1 hinc2 hx hy hx1 hy1 HR4 HR3 HT1 HT2 hcS hcD hlS hlD e34 hD1 b34 b4 b3W hW HDS5 htb3
    go_wp2_with fail
    go_roundw
    case rel=>exact⟨k+1,by omega,by go_num,HR5⟩
    case measure=>simp[intOf];omega
  have hki:¬(k:Int)<(N:Int):=by omega
  have hkN:N=k:=by omega
  subst hkN
  have HE:Hid (DRow wr B1 (Df.oftS l)∧DRow wr B2 (Df.cntD l)∧Below w.heap.size w wr):=by
   have h:=HR.out
   rw[List.take_of_length_le (by rw[HN.out];exact Nat.le_refl _)] at h
   exact h
  clear HR
  go_wp2_with fail
  exact bodyPost_ret (v:=.tuple #[.slice (some ⟨B1,0,none⟩) 286 286,.slice (some ⟨B2,0,none⟩) 30 30]) (by simp[results,Tryz.results77,go_sem]) rfl ⟨⟨B1,B2,rfl,HB.out.2.1,HB.out.2.2,HE.out.1,HE.out.2.1⟩,HE.out.2.2⟩
end Go.Proofs.YtejebodgfoihkaaGreat
