/- Tokens as bits with codes of their own, as the specification has them. -/
import Derived.Test.YtejebodgfoihkaaGreatKFInflateTwox0a
import Derived.Test.YtejebodgfoihkaaGreatKFInflateTwox6
namespace Go.Proofs.YtejebodgfoihkaaGreat
open Go.RowKit

def OwnEndS (w:World) (l:List Tk) (e:Ending) (w':World):Prop:=∃LS LD BY,Df.IsOwn l LS LD BY∧L5End w (Df.own LS LD BY l) e w'
set_option linter.unusedSimpArgs false in
set_option maxHeartbeats 8000000 in
set_option maxRecDepth 20000 in
theorem l5Own_any (xa:Option Addr) (N cL:Nat) (l:List Tk) (w:World) (ht:Toks w xa l) (hN:l.length=N) (hNb:N≤5000) (htk:∀t∈l,Df.TkOk t):
 Calls Tryz.prog 47 #[.slice xa N cL] w (OwnEndS w l):=by
 have HI:Hid (Toks w xa l):=ht
 have HN:Hid (l.length=N):=hN
 have HK:Hid (∀t∈l,Df.TkOk t):=htk
 have HOF:Hid (Calls Tryz.prog 77 #[.slice xa N cL] w (OftEnd w l)):=l5Often_any xa N cL l w ht hN hNb htk
 have HFS:Hid (∀(b:Nat) (w':World),Ints w' (some ⟨b,0,none⟩) (Df.oftS l)→Calls Tryz.prog 78 #[.slice (some ⟨b,0,none⟩) 286 286,.int .i64 15] w' (FitEndS (Df.oftS l) 286 15 w')):=fun b w' h=>l3Fit_fitL _ 286 286 _ 15 w' h (Df.oftS_len l) (by omega) (by omega) (oftS_fit (by omega))
 have HFD:Hid (∀(b:Nat) (w':World),Ints w' (some ⟨b,0,none⟩) (Df.cntD l)→Calls Tryz.prog 78 #[.slice (some ⟨b,0,none⟩) 30 30,.int .i64 15] w' (FitEndS (Df.cntD l) 30 15 w')):=fun b w' h=>l3Fit_fitL _ 30 30 _ 15 w' h (Df.cntD_len l) (by omega) (by omega) (cntD_fit (by omega))
 clear ht hN htk
 go_enter Tryz.func47,Tryz.ntmps47
 go_wp2_with fail
 refine HOF.out.mono ?_
 rintro e w1 ⟨⟨b1,b2,rfl,hb1,hb2,r1,r2⟩,bel1⟩
 have HI1:Hid (Ints w1 (some ⟨b1,0,none⟩) (Df.oftS l)):=r1.ints
 have HI2:Hid (Ints w1 (some ⟨b2,0,none⟩) (Df.cntD l)):=r2.ints
 have HB1:Hid (Below w.heap.size w w1):=bel1
 clear HOF hb1 hb2 r1 r2 bel1
 go_wp2_with fail
 refine (HFS.out b1 w1 HI1.out).mono ?_
 rintro e w2 ⟨⟨s,LS,rfl,i1,f1⟩,bel2⟩
 have HLS:Hid (Ints w2 (some ⟨s,0,none⟩) LS∧Df.FitL 15 (Df.oftS l) LS):=⟨i1,f1⟩
 have HB2:Hid (Below w.heap.size w w2∧Ints w2 (some ⟨b2,0,none⟩) (Df.cntD l)):=⟨HB1.out.trans (bel2.mono HB1.out.size),HI2.out.kept bel2⟩
 clear HB1 HI1 HI2 HFS i1 f1 bel2
 go_wp2_with fail
 refine (HFD.out b2 w2 HB2.out.2).mono ?_
 rintro e w3 ⟨⟨d,LD,rfl,i2,f2⟩,bel3⟩
 have HLD:Hid (Ints w3 (some ⟨d,0,none⟩) LD∧Df.FitL 15 (Df.cntD l) LD∧Ints w3 (some ⟨s,0,none⟩) LS∧Df.FitL 15 (Df.oftS l) LS):=⟨i2,f2,HLS.out.1.kept bel3,HLS.out.2⟩
 have HB3:Hid (Below w.heap.size w w3):=HB2.out.1.trans (bel3.mono HB2.out.1.size)
 have hLSl:LS.length=286:=by rw[HLD.out.2.2.2.len,Df.oftS_len]
 have hLDl:LD.length=30:=by rw[HLD.out.2.1.len,Df.cntD_len]
 have HUS:Hid (∀w':World,Below w3.heap.size w3 w'→Calls Tryz.prog 79 #[.slice (some ⟨s,0,none⟩) 286 286,.int .i64 257] w' fun e w''=>e=.returned (.int .i64 ((Df.used LS 257:Nat):Int))∧Below w'.heap.size w' w''):=fun w' b=>l5Used_ints s 0 286 286 257 LS w' (HLD.out.2.2.1.kept b) hLSl (by omega) (by omega) (by omega)
 have HUD:Hid (∀w':World,Below w3.heap.size w3 w'→Calls Tryz.prog 79 #[.slice (some ⟨d,0,none⟩) 30 30,.int .i64 1] w' fun e w''=>e=.returned (.int .i64 ((Df.used LD 1:Nat):Int))∧Below w'.heap.size w' w''):=fun w' b=>l5Used_ints d 0 30 30 1 LD w' (HLD.out.1.kept b) hLDl (by omega) (by omega) (by omega)
 have hn1:=Df.used_le LS 257
 have hn2:=Df.used_ge (l:=LS) (least:=257) (by omega)
 have hm1:=Df.used_le LD 1
 have hm2:=Df.used_ge (l:=LD) (least:=1) (by omega)
 rw[hLSl] at hn1
 rw[hLDl] at hm1
 obtain⟨n,hn⟩:∃n,n=Df.used LS 257:=⟨_,rfl⟩
 obtain⟨m,hm⟩:∃m,m=Df.used LD 1:=⟨_,rfl⟩
 rw[←hn] at hn1 hn2 HUS
 rw[←hm] at hm1 hm2 HUD
 have HNM:Hid (n=Df.used LS 257∧m=Df.used LD 1∧LS.length=286∧LD.length=30):=⟨hn,hm,hLSl,hLDl⟩
 clear hn hm hLSl hLDl HFD HB2 HLS i2 f2
 go_wp2_with fail
 refine (HUS.out w3 (Below.refl _ _)).mono ?_
 rintro e w4 ⟨rfl,b4⟩
 clear HUS
 have HB4:Hid (Below w3.heap.size w3 w4):=b4
 clear b4
 go_wp2_with fail
 refine (HUD.out w4 HB4.out).mono ?_
 rintro e w5 ⟨rfl,b5⟩
 clear HUD bel3
 have HB5:Hid (Below w3.heap.size w3 w5):=HB4.out.trans (b5.mono HB4.out.size)
 clear b5 HB4
 have hnI:(n:Int)≤286:=by omega
 have hmI:(m:Int)≤30:=by omega
 go_wp2_with fail
 refine wp_region_held_drew (S:=fun _=>True) (by kernel_rfl) trivial (fun hHeld=>?_)
 refine tkI (i:=1) (v:=(.slice (some ⟨s,0,none⟩) 286 286)) rfl (Or.inl ⟨by rfl,?_⟩) hHeld ?_
 · intro wy hSw
   go_simp
 try simp only[Act.put,litE]
 refine tkI (i:=2) (v:=(.int .i64 (n:Int))) rfl (Or.inl ⟨by rfl,?_⟩) hHeld ?_
 · intro wy hSw
   go_simp
 try simp only[Act.put,litE]
 refine tkI (i:=3) (v:=(.slice (some ⟨s,0,none⟩) n 286)) rfl (Or.inl ⟨by rfl,?_⟩) hHeld ?_
 · intro wy hSw
   go_simp
 try simp only[Act.put,litE]
 refine tkI (i:=5) (v:=(.slice (some ⟨d,0,none⟩) 30 30)) rfl (Or.inl ⟨by rfl,?_⟩) hHeld ?_
 · intro wy hSw
   go_simp
 try simp only[Act.put,litE]
 refine tkI (i:=6) (v:=(.int .i64 (m:Int))) rfl (Or.inl ⟨by rfl,?_⟩) hHeld ?_
 · intro wy hSw
   go_simp
 try simp only[Act.put,litE]
 refine tkI (i:=7) (v:=(.slice (some ⟨d,0,none⟩) m 30)) rfl (Or.inl ⟨by rfl,?_⟩) hHeld ?_
 · intro wy hSw
   go_simp
 try simp only[Act.put,litE]
 refine wpAnyH_ready (rs:=[0]) (by kernel_rfl) (by simp) ?_
 refine AllReadyH.cons rfl (fun K hK=>?_) AllReadyH.nil
 go_simp
 refine hK.out _ _ trivial (fun hHeld=>?_)
 clear hK K
 try simp only[Act.put,litE]
 obtain⟨base,hbase⟩:∃base,base=w5.heap.size:=⟨_,rfl⟩
 have hO0:OwnI ((w5.alloc (.cells #[] 3)).drew) base (.slice (some ⟨base,0,none⟩) 0 0) 0 []:=by rw[hbase];exact ownI_none w5
 have bA:Below w5.heap.size w5 ((w5.alloc (.cells #[] 3)).drew):=((Below.refl _ w5).alloc (Nat.le_refl _) _).drew
 obtain⟨W0,hW0⟩:∃W0,W0=(w5.alloc (.cells #[] 3)).drew:=⟨_,rfl⟩
 rw[←hW0] at hO0 bA ⊢
 rw[←hbase]
 rw[←hbase] at bA
 have hB5:=HB5.out
 have HBASE:Hid (base=w5.heap.size):=hbase
 have hb50:w3.heap.size≤base:=by rw[hbase];exact hB5.size
 have iS:Ints W0 (some ⟨s,0,none⟩) (LS.take n):=ints_take ((HLD.out.2.2.1.kept hB5).kept (by rw[←hbase];exact bA)) n
 have iD:Ints W0 (some ⟨d,0,none⟩) (LD.take m):=ints_take ((HLD.out.1.kept hB5).kept (by rw[←hbase];exact bA)) m
 have hlS:(LS.take n).length=n:=by rw[List.length_take,HNM.out.2.2.1];omega
 have hlD:(LD.take m).length=m:=by rw[List.length_take,HNM.out.2.2.2];omega
 have bW0:base≤W0.heap.size:=by rw[hbase];exact bA.size
 clear hW0
 refine wpAnyH_ready (rs:=[4]) (by kernel_rfl) (by simp) ?_
 refine AllReadyH.cons rfl (fun K hK=>?_) AllReadyH.nil
 refine step_append_ints (by rfl) _ _ (by rfl) base (.slice (some ⟨base,0,none⟩) 0 0) 0 [] (by rfl) hO0 (some ⟨s,0,none⟩) n 286 (LS.take n) (by rfl) iS hlS (by omega) bW0 ?_
 intro a6 c6 W6 hO6 hG6
 simp only[Nat.zero_add,List.nil_append] at hO6 ⊢
 have b6:Below base W0 W6:=(Below.refl base W0).grown hG6 bW0 (fun k hk=>(World.ownsRow.lt (show World.ownsRow _ _ _ _ _ _ _ from hO0) k hk).1)
 try simp only[Act.put,litE]
 refine hK.out _ _ trivial (fun hHeld=>?_)
 clear hK K
 try simp only[Act.put,litE]
 refine wpAnyH_ready (rs:=[8]) (by kernel_rfl) (by simp) ?_
 refine AllReadyH.cons rfl (fun K hK=>?_) AllReadyH.nil
 have bw6:Below base w5 W6:=bA.trans b6
 have iD6:Ints W6 (some ⟨d,0,none⟩) (LD.take m):=ints_take ((HLD.out.1.kept hB5).kept (by rw[←hbase];exact bw6)) m
 refine step_append_ints (by rfl) _ _ (by rfl) base (.slice a6 n c6) n (LS.take n) (by rfl) hO6 (some ⟨d,0,none⟩) m 30 (LD.take m) (by rfl) iD6 hlD (by omega) (Nat.le_trans bW0 b6.size) ?_
 intro a7 c7 W7 hO7 hG7
 have b7:Below base W6 W7:=(Below.refl base W6).grown hG7 (Nat.le_trans bW0 b6.size) (fun k hk=>(World.ownsRow.lt (show World.ownsRow _ _ _ _ _ _ _ from hO6) k hk).1)
 try simp only[Act.put,litE]
 refine hK.out _ _ trivial (fun hHeld=>?_)
 clear hK K
 try simp only[Act.put,litE]
 have bw7:Below base w5 W7:=bw6.trans b7
 have hJ:LS.take n++LD.take m=Df.joined LS LD:=by unfold Df.joined;rw[HNM.out.1,HNM.out.2.1]
 rw[hJ] at hO7
 have hJl:(Df.joined LS LD).length=n+m:=by rw[←hJ,List.length_append,hlS,hlD]
 have iJ:Ints W7 a7 (Df.joined LS LD):=by
  obtain⟨ao,cx,e,ho⟩:=OwnI.owns hO7
  cases e
  exact ho.ints
 refine wpAnyH_ready (rs:=[9]) (by kernel_rfl) (by simp) ?_
 refine AllReadyH.cons rfl (fun K hK=>?_) AllReadyH.nil
 go_simp
 refine (l5Runs_any a7 (n+m) c7 (Df.joined LS LD) W7 iJ hJl (by omega)).mono ?_
 rintro e W8 ⟨⟨ra,r,rc,rfl,hR8⟩,b8⟩
 refine hK.out _ _ trivial (fun hHeld=>?_)
 clear hK K
 try simp only[Act.put,litE]
 refine tkI (i:=10) (v:=(.slice ra r rc)) rfl (Or.inl ⟨by rfl,?_⟩) hHeld ?_
 · intro wy hSw
   go_simp
 try simp only[Act.put,litE]
 refine wpAnyH_done (by kernel_rfl) ?_ _
 try simp only[Act.put,litE]
 obtain⟨R,hR⟩:∃R,R=Df.runs (Df.joined LS LD):=⟨_,rfl⟩
 rw[←hR] at hR8
 have hRl:R.length=r:=hR8.len
 have hrb:r≤316:=by have:=Df.runs_len (Df.joined LS LD);rw[←hR] at this;omega
 have hRok:∀t∈R,Df.RunOk t:=by rw[hR];exact Df.runs_ok (Df.joined_all (HLD.out.2.2.2.all (by omega)) (HLD.out.2.1.all (by omega)))
 have bw8:Below base w5 W8:=bw7.trans (b8.mono (by rw[hbase];exact bw7.size))
 have HB8:Hid (Below w.heap.size w W8):=(HB3.out.trans (HB5.out.mono HB3.out.size)).trans (bw8.mono (by rw[hbase];exact Nat.le_trans HB3.out.size HB5.out.size))
 have HL8:Hid (Ints W8 (some ⟨s,0,none⟩) LS∧Ints W8 (some ⟨d,0,none⟩) LD∧Df.FitL 15 (Df.oftS l) LS∧Df.FitL 15 (Df.cntD l) LD∧LS.length=286∧LD.length=30):=⟨(HLD.out.2.2.1.kept hB5).kept (by rw[←hbase];exact bw8),(HLD.out.1.kept hB5).kept (by rw[←hbase];exact bw8),HLD.out.2.2.2,HLD.out.2.1,HNM.out.2.2.1,HNM.out.2.2.2⟩
 have HRR:Hid (R=Df.runs (Df.joined LS LD)∧R.length=r∧(∀t∈R,Df.RunOk t)):=⟨hR,hRl,hRok⟩
 have HNM2:Hid (n=Df.used LS 257∧m=Df.used LD 1):=⟨HNM.out.1,HNM.out.2.1⟩
 clear hR hRl hRok bw8 bw7 bw6 b8 b7 b6 bA hO6 hO7 hG6 hG7 hO0 iS iD iD6 iJ hJ hJl hlS hlD hB5 hb50 bW0 hbase HBASE HB5 HB3 HLD HNM hHeld hnI hmI
 have HR8:Hid (Own3 129 W8 W7.heap.size (.slice ra r rc) r R):=hR8
 obtain⟨ta,tc,te,HT8⟩:=HR8.out.toks
 have HTK:Hid (Toks W8 ra R):=by cases te;exact HT8
 clear HT8 te ta tc hR8 HR8
 have hmk:(Instr.makeSlice 30 (.int .i64 19) (.int .i64 19)).run Tryz.prog W8=.ok (.slice (some ⟨W8.heap.size,0,none⟩) 19 19) (W8.alloc (.cells ((List.replicate 19 (0:Int)).map (Value.int .i64)).toArray 3)):=make_rowN 19 (by omega) W8
 obtain⟨B,hBe⟩:∃B,B=W8.heap.size:=⟨_,rfl⟩
 obtain⟨W9,hW9⟩:∃W9,W9=W8.alloc (.cells ((List.replicate 19 (0:Int)).map (Value.int .i64)).toArray 3):=⟨_,rfl⟩
 have b9:Below W8.heap.size W8 W9:=by rw[hW9];exact (Below.refl _ _).alloc (Nat.le_refl _) _
 have r9:DRow W9 B (Df.cnt3 (R.take 0)):=by rw[hW9,hBe];exact heap_alloc_new _ _
 rw[←hW9,←hBe] at hmk
 have HR0:Hid (DRow W9 B (Df.cnt3 (R.take 0))∧Below B W8 W9):=⟨r9,by rw[hBe];exact b9⟩
 have HBB:Hid (B=W8.heap.size):=hBe
 clear hBe r9 b9 hW9
 go_wp2_with fail
 clear hmk
 go_loopw [11] (fun i wr=>∃k:Nat,k≤r∧i=.int .i64 (k:Int)∧Hid (DRow wr B (Df.cnt3 (R.take k))∧Below B W8 wr)) (fun i _=>r-(intOf i).toNat)
 case atStart=>exact⟨0,Nat.zero_le _,rfl,HR0⟩
 case round=>
  obtain⟨k,hk,rfl,HR⟩:=hrel
  clear HR0
  by_cases hlt:k<r
  · have hki:(k:Int)<(r:Int):=by omega
    have hkl:k<R.length:=by rw[HRR.out.2.1];exact hlt
    obtain⟨tb,toff,rfl,htb,d1,d2,d3⟩:=HTK.out.at hkl
    have bkr:Below W8.heap.size W8 wr:=by have h:=HR.out.2;rw[HBB.out] at h;exact h
    have e1:=(bkr.cell (p:=⟨tb,toff+k*3,none⟩) htb).trans d1
    have hok:=HRR.out.2.2 _ (List.getElem_mem hkl)
    have HT1:Hid (Df.cnt3 (R.take (k+1))=Df.inc (Df.cnt3 (R.take k)) (R[k]).1.toNat):=by
     show _=_
     rw[List.take_succ_eq_append_getElem hkl,Df.cnt3_snoc]
    have hcS:=Df.cnt3_cnt R k (by omega)
    have hlS:=Df.cnt3_len (R.take k)
    obtain⟨cS,hcSe⟩:∃cS,cS=Df.cnt3 (R.take k):=⟨_,rfl⟩
    rw[←hcSe] at HR HT1 hcS hlS
    obtain⟨V,hV⟩:=Int.eq_ofNat_of_zero_le hok.1
    have hV18:=hok.2.1
    rw[hV] at e1 HT1 hV18
    have hVt:((V:Nat):Int).toNat=V:=rfl
    rw[hVt] at HT1
    have hVl:V<cS.length:=by omega
    have hVi:(V:Int)<19:=by omega
    have c1:=HR.out.1.cellD V hVl
    have f1:=HR.out.1.free V
    have hb1:=hcS V
    obtain⟨x,hx⟩:=Int.eq_ofNat_of_zero_le hb1.1
    rw[hx] at c1 hb1
    have hxb:x≤6000:=by omega
    have hset:=HR.out.1.set V ((x:Int)+1)
    have hinc:cS.set V ((x:Int)+1)=Df.inc cS V:=by unfold Df.inc;rw[hx]
    rw[hinc,←HT1.out] at hset
    have HR2:Hid (DRow (wr.setCell ⟨B,V,none⟩ (.int .i64 ((x:Int)+1))) B (Df.cnt3 (R.take (k+1)))∧Below B W8 (wr.setCell ⟨B,V,none⟩ (.int .i64 ((x:Int)+1)))):=⟨hset,HR.out.2.setCell (p:=⟨B,V,none⟩) (Nat.le_refl _) _⟩
    obtain⟨x1,hx1⟩:∃x1,x1=x+1:=⟨_,rfl⟩
    have ex1:(x:Int)+1=(x1:Int):=by omega
    have wx1:IntKind.i64.wrap (x1:Int)=(x1:Int):=wrap_i64_nat x1 (by omega)
    have wx2:IntKind.i64.wrap ((x:Int)+1)=(x1:Int):=by rw[ex1];exact wx1
    rw[ex1] at HR2
    clear hset hinc hx hx1 HR HT1 hcS hcSe hlS hVl ex1 d1 d2 d3 hok hV hVt bkr
    go_wp2_with fail
    go_still_tail 16,(by kernel_rfl)
    repeat still_step
    try refine wpStill_nil ?_
    go_wp2_with fail
    go_roundw
    case rel=>exact⟨k+1,by omega,by go_num,HR2.out.1,HR2.out.2.drew⟩
    case measure=>simp[intOf];omega
  have hki:¬(k:Int)<(r:Int):=by omega
  have hkN:r=k:=by omega
  subst hkN
  have hc3:=HR.out.1
  rw[List.take_of_length_le (by rw[HRR.out.2.1];exact Nat.le_refl _)] at hc3
  have bkr:Below W8.heap.size W8 wr:=by have h:=HR.out.2;rw[HBB.out] at h;exact h
  have HFB:Hid (Calls Tryz.prog 78 #[.slice (some ⟨B,0,none⟩) 19 19,.int .i64 7] wr (FitEndS (Df.cnt3 R) 19 7 wr)):=l3Fit_fitL _ 19 19 _ 7 wr hc3.ints (Df.cnt3_len R) (by omega) (by omega) (cnt3_fit (by rw[HRR.out.2.1];omega))
  have HBR:Hid (Below w.heap.size w wr):=HB8.out.trans (bkr.mono HB8.out.size)
  have HL9:Hid (Ints wr (some ⟨s,0,none⟩) LS∧Ints wr (some ⟨d,0,none⟩) LD∧Df.FitL 15 (Df.oftS l) LS∧Df.FitL 15 (Df.cntD l) LD∧LS.length=286∧LD.length=30):=⟨HL8.out.1.kept bkr,HL8.out.2.1.kept bkr,HL8.out.2.2⟩
  have HTR:Hid (Toks wr ra R):=HTK.out.kept bkr
  clear HR HB8 HL8 HTK hc3 bkr HBB
  go_wp2_with fail
  refine HFB.out.mono ?_
  rintro e V1 ⟨⟨bb,BY,rfl,iB,fB⟩,bV1⟩
  have hBYl:BY.length=19:=by rw[fB.len,Df.cnt3_len]
  have HBY:Hid (Ints V1 (some ⟨bb,0,none⟩) BY∧Df.FitL 7 (Df.cnt3 R) BY∧BY.length=19):=⟨iB,fB,hBYl⟩
  have HBV:Hid (Below w.heap.size w V1):=HBR.out.trans (bV1.mono HBR.out.size)
  have HLV:Hid (Ints V1 (some ⟨s,0,none⟩) LS∧Ints V1 (some ⟨d,0,none⟩) LD∧Df.FitL 15 (Df.oftS l) LS∧Df.FitL 15 (Df.cntD l) LD∧LS.length=286∧LD.length=30):=⟨HL9.out.1.kept bV1,HL9.out.2.1.kept bV1,HL9.out.2.2⟩
  have HTV:Hid (Toks V1 ra R):=HTR.out.kept bV1
  have HMK:Hid (Calls Tryz.prog 72 #[.slice (some ⟨bb,0,none⟩) 19 19] V1 fun e w''=>e=.returned (.slice (some ⟨V1.heap.size,0,none⟩) 19 19)∧Ints w'' (some ⟨V1.heap.size,0,none⟩) (Mk.mk BY)∧Below V1.heap.size V1 w''):=(l3Make_any _ 19 19 BY V1 iB hBYl (by omega)).mono (fun e w'' h=>⟨h.1,by rw[h.2];exact ints_arrD _ _ _,by rw[h.2];exact (Below.refl _ _).alloc (Nat.le_refl _) _⟩)
  clear HFB HBR HL9 HTR iB fB hBYl bV1
  go_wp2_with fail
  refine HMK.out.mono ?_
  rintro e V2 ⟨rfl,iM,bV2⟩
  obtain⟨cb,hcb⟩:∃cb,cb=V1.heap.size:=⟨_,rfl⟩
  rw[←hcb] at iM ⊢
  have HMY:Hid (Ints V2 (some ⟨cb,0,none⟩) (Mk.mk BY)):=iM
  have HBY2:Hid (Ints V2 (some ⟨bb,0,none⟩) BY∧Df.FitL 7 (Df.cnt3 R) BY∧BY.length=19):=⟨HBY.out.1.kept bV2,HBY.out.2⟩
  have HBV2:Hid (Below w.heap.size w V2):=HBV.out.trans (bV2.mono HBV.out.size)
  have HLV2:Hid (Ints V2 (some ⟨s,0,none⟩) LS∧Ints V2 (some ⟨d,0,none⟩) LD∧Df.FitL 15 (Df.oftS l) LS∧Df.FitL 15 (Df.cntD l) LD∧LS.length=286∧LD.length=30):=⟨HLV.out.1.kept bV2,HLV.out.2.1.kept bV2,HLV.out.2.2⟩
  have HTV2:Hid (Toks V2 ra R):=HTV.out.kept bV2
  clear HMK HBY HBV HLV HTV iM bV2 hcb
  obtain⟨base2,hbase2⟩:∃base2,base2=V2.heap.size:=⟨_,rfl⟩
  have HB2:Hid (base2=V2.heap.size):=hbase2
  have HO0:Hid (OwnI (V2.alloc (.cells #[] 3)) base2 (.slice (some ⟨base2,0,none⟩) 0 0) 0 ((Df.ordered BY).take 0)∧Below base2 V2 (V2.alloc (.cells #[] 3))):=by
   rw[hbase2]
   exact⟨ownI_none V2,(Below.refl _ _).alloc (Nat.le_refl _) _⟩
  go_wp2_with fail
  rw[←hbase2]
  clear hbase2
  go_loopw [14,15] (fun o i wr=>∃(k:Nat) (ao:Option Addr) (cap:Nat),k≤19∧i=.int .i64 (k:Int)∧o=.slice ao k cap∧Hid (OwnI wr base2 (.slice ao k cap) k ((Df.ordered BY).take k)∧Below base2 V2 wr)) (fun _ i _=>19-(intOf i).toNat)
  case atStart=>exact⟨0,_,_,Nat.zero_le _,rfl,rfl,HO0⟩
  case round=>
   obtain⟨k,ao,cap,hk,rfl,rfl,HR⟩:=hrel
   clear HO0
   by_cases hlt:k<19
   · have hki:(k:Int)<19:=by omega
     go_wp2_with fail
     refine (l4Order_any wr).mono ?_
     rintro e W ⟨rfl,iO,bO⟩
     obtain⟨ob,hob⟩:∃ob,ob=wr.heap.size:=⟨_,rfl⟩
     rw[←hob] at iO ⊢
     have hq:=lord_lt k hlt
     have hcO:=ints_cells iO k (by rw[List.length_map];exact hlt)
     rw[lord_map hlt,Nat.zero_add] at hcO
     have HTA:Hid ((Df.ordered BY).take (k+1)=(Df.ordered BY).take k++[BY.getD (Df.lord.getD k 0) 0]):=ordered_take BY hlt
     obtain⟨q,hqe⟩:∃q,q=Df.lord.getD k 0:=⟨_,rfl⟩
     rw[←hqe] at hq hcO HTA
     have bW:Below V2.heap.size V2 W:=by
      have h:=HR.out.2
      rw[HB2.out] at h
      exact h.trans (bO.mono h.size)
     have hcB:=getD_cell (HBY2.out.1.kept bW) (i:=q) (by rw[HBY2.out.2.2];exact hq)
     obtain⟨z,hz⟩:∃z,z=BY.getD q 0:=⟨_,rfl⟩
     rw[←hz] at hcB HTA
     have hqi:(q:Int)<19:=by omega
     have HOW:Hid (OwnI W base2 (.slice ao k cap) k ((Df.ordered BY).take k)∧Below base2 V2 W∧base2≤W.heap.size):=by
      obtain⟨h1,h2⟩:=HR.out
      have h3:base2≤wr.heap.size:=by rw[HB2.out];exact h2.size
      have hg:wr.grownBy W none:=⟨bO.os,bO.tape,bO.output,bO.size,fun k hk _=>bO.block k hk⟩
      refine⟨World.ownsRow.kept (show World.ownsRow _ _ _ _ _ _ _ from h1) hg ?_,h2.trans (bO.mono h3),Nat.le_trans h3 bO.size⟩
      cases (Value.slice ao k cap).ownBlock with
      | none=>exact .inl rfl
      | some k=>exact .inr (by simp)
     clear HR bO bW hz hqe hob iO
     go_wp2_with (at_builtin;refine wpList_app1 W (by rfl) _ _ (by rfl) base2 _ k ((Df.ordered BY).take k) z (by rfl) HOW.out.1 (by rfl) (by omega) HOW.out.2.2 ?_)
     intro g7 cap7 w7 hown7 hg7
     have HF:Hid (OwnI w7 base2 (.slice (some ⟨g7,0,none⟩) (k+1) cap7) (k+1) ((Df.ordered BY).take (k+1))∧Below base2 V2 w7):=⟨by rw[HTA.out];exact hown7,hg7.below HOW.out.2.1 (Nat.le_refl _) HOW.out.2.2⟩
     clear hown7 hg7 HOW HTA
     go_wp2_with fail
     go_roundw
     case rel=>exact⟨k+1,_,_,by omega,by go_num,rfl,HF⟩
     case measure=>simp[intOf];omega
   have hki:¬(k:Int)<19:=by omega
   have hk19:k=19:=by omega
   subst hk19
   obtain⟨ho1,ho2⟩:=HR.out
   rw[List.take_of_length_le (by rw[Df.ordered_len];exact Nat.le_refl _)] at ho1
   obtain⟨ao',cap',e',hOI⟩:=OwnI.owns ho1
   cases e'
   have iO:Ints wr ao (Df.ordered BY):=hOI.ints
   obtain⟨ob,oof,rfl,_,_⟩:=iO.at (show 0<(Df.ordered BY).length by rw[Df.ordered_len];omega)
   have hof:oof=0:=by
    rcases ho1.2 with⟨e,_⟩|⟨g,cap',cur,e,_⟩
    · cases e
    cases e;rfl
   subst hof
   have bX:Below V2.heap.size V2 wr:=by rw[HB2.out] at ho2;exact ho2
   have HUO:Hid (Calls Tryz.prog 79 #[.slice (some ⟨ob,0,none⟩) 19 cap,.int .i64 4] wr fun e w''=>e=.returned (.int .i64 ((Df.used (Df.ordered BY) 4:Nat):Int))∧Below wr.heap.size wr w''):=l5Used_ints ob 0 19 cap 4 (Df.ordered BY) wr iO (Df.ordered_len BY) (by omega) (by omega) (by omega)
   have HAL:Hid (∀W:World,Below wr.heap.size wr W→Below w.heap.size w W∧Ints W (some ⟨s,0,none⟩) LS∧Ints W (some ⟨d,0,none⟩) LD∧Ints W (some ⟨bb,0,none⟩) BY∧Ints W (some ⟨cb,0,none⟩) (Mk.mk BY)∧Ints W (some ⟨ob,0,none⟩) (Df.ordered BY)∧Toks W ra R∧wr.heap.size≤W.heap.size):=fun W b=>by
    have b2:=bX.trans (b.mono bX.size)
    exact⟨HBV2.out.trans (b2.mono HBV2.out.size),HLV2.out.1.kept b2,HLV2.out.2.1.kept b2,HBY2.out.1.kept b2,HMY.out.kept b2,iO.kept b,HTV2.out.kept b2,b.size⟩
   have HFF:Hid (Df.FitL 15 (Df.oftS l) LS∧Df.FitL 15 (Df.cntD l) LD∧LS.length=286∧LD.length=30∧Df.FitL 7 (Df.cnt3 R) BY∧BY.length=19):=⟨HLV2.out.2.2.1,HLV2.out.2.2.2.1,HLV2.out.2.2.2.2.1,HLV2.out.2.2.2.2.2,HBY2.out.2.1,HBY2.out.2.2⟩
   have hk1:=Df.used_le (Df.ordered BY) 4
   have hk2:=Df.used_ge (l:=Df.ordered BY) (least:=4) (by rw[Df.ordered_len];omega)
   rw[Df.ordered_len] at hk1
   obtain⟨kk,hkk⟩:∃kk,kk=Df.used (Df.ordered BY) 4:=⟨_,rfl⟩
   rw[←hkk] at hk1 hk2 HUO
   have HKK:Hid (kk=Df.used (Df.ordered BY) 4):=hkk
   clear hkk ho1 ho2 hOI iO bX HR HB2 HBV2 HLV2 HBY2 HMY HTV2
   go_wp2_with fail
   refine HUO.out.mono ?_
   rintro e X1 ⟨rfl,bX1⟩
   have HX1:Hid (Below wr.heap.size wr X1):=bX1
   clear HUO bX1
   have en:(n:Int)-257=((n-257:Nat):Int):=by omega
   have em:(m:Int)-1=((m-1:Nat):Int):=by omega
   have ek:(kk:Int)-4=((kk-4:Nat):Int):=by omega
   have HTOP:Hid (Df.top LS LD BY=[(((n-257:Nat):Int),5),(((m-1:Nat):Int),5),(((kk-4:Nat):Int),4)]):=by
    show _=_
    unfold Df.top
    rw[←HNM2.out.1,←HNM2.out.2,←HKK.out]
   obtain⟨n',hn'⟩:∃n',n'=n-257:=⟨_,rfl⟩
   obtain⟨m',hm'⟩:∃m',m'=m-1:=⟨_,rfl⟩
   obtain⟨k',hk'⟩:∃k',k'=kk-4:=⟨_,rfl⟩
   rw[←hn'] at en HTOP
   rw[←hm'] at em HTOP
   rw[←hk'] at ek HTOP
   have wn:=wrap_i64_nat n' (by omega)
   have wm:=wrap_i64_nat m' (by omega)
   have wk:=wrap_i64_nat k' (by omega)
   clear hn' hm' hk'
   obtain⟨base3,hbase3⟩:∃base3,base3=X1.heap.size:=⟨_,rfl⟩
   have HO0:Hid (OwnP (X1.alloc (.cells #[.int .i64 (n':Int),.int .i64 5,.int .i64 (m':Int),.int .i64 5,.int .i64 (k':Int),.int .i64 4] 38)) base3 (.slice (some ⟨base3,0,none⟩) 3 3) 3 (Df.top LS LD BY++Df.threes ((Df.ordered BY).take 0))∧Below base3 X1 (X1.alloc (.cells #[.int .i64 (n':Int),.int .i64 5,.int .i64 (m':Int),.int .i64 5,.int .i64 (k':Int),.int .i64 4] 38))):=by
    rw[hbase3,HTOP.out]
    exact⟨World.ownsRow_lit X1 #[.int .i64 (n':Int),.int .i64 5,.int .i64 (m':Int),.int .i64 5,.int .i64 (k':Int),.int .i64 4] 3 (Nat.le_refl _) (by decide) rfl,(Below.refl _ _).alloc (Nat.le_refl _) _⟩
   have HB3b:Hid (base3=X1.heap.size∧wr.heap.size≤base3):=⟨hbase3,by rw[hbase3];exact HX1.out.size⟩
   go_wp2_with fail
   rw[←hbase3]
   clear hbase3
   generalize wr=ow at*
   go_loopw [17,18] (fun o i wr=>∃(k m2:Nat) (ao:Option Addr) (cap:Nat),k≤kk∧m2≤3+k∧i=.int .i64 (k:Int)∧o=.slice ao m2 cap∧Hid (OwnP wr base3 (.slice ao m2 cap) m2 (Df.top LS LD BY++Df.threes ((Df.ordered BY).take k))∧Below base3 X1 wr)) (fun _ i _=>kk-(intOf i).toNat)
   case atStart=>exact⟨0,3,_,_,Nat.zero_le _,Nat.le_refl _,rfl,rfl,HO0⟩
   case round=>
    obtain⟨k,m2,ao,cap3,hk,hm2,rfl,rfl,HR⟩:=hrel
    clear HO0
    have bwr:Below ow.heap.size ow wr:=HX1.out.trans (HR.out.2.mono HB3b.out.2)
    obtain⟨q1,q2,q3,q4,q5,q6,q7,q8⟩:=HAL.out wr bwr
    have hb3:base3≤wr.heap.size:=by rw[HB3b.out.1];exact HR.out.2.size
    by_cases hlt:k<kk
    · have hki:(k:Int)<(kk:Int):=by omega
      have hk19:(k:Int)<19:=by omega
      have hol:k<(Df.ordered BY).length:=by rw[Df.ordered_len];omega
      have hc:=getD_cell q6 hol
      have HTA:Hid (Df.top LS LD BY++Df.threes ((Df.ordered BY).take (k+1))=(Df.top LS LD BY++Df.threes ((Df.ordered BY).take k))++[((Df.ordered BY).getD k 0,3)]):=by
       show _=_
       have e:(Df.ordered BY)[k]=(Df.ordered BY).getD k 0:=by rw[List.getD_eq_getElem?_getD,List.getElem?_eq_getElem hol];rfl
       rw[List.take_succ_eq_append_getElem hol,List.append_assoc,e]
       unfold Df.threes
       rw[List.map_append]
       rfl
      obtain⟨z,hz⟩:∃z,z=(Df.ordered BY).getD k 0:=⟨_,rfl⟩
      rw[←hz] at hc HTA
      obtain⟨PL,hPL⟩:∃PL,PL=Df.top LS LD BY++Df.threes ((Df.ordered BY).take k):=⟨_,rfl⟩
      rw[←hPL] at HTA HR
      clear q1 q2 q3 q4 q5 q6 q7 q8 bwr hol hz hPL
      go_wp2_with (at_builtin;refine wpList_appP wr (by rfl) _ _ (by rfl) base3 _ m2 PL [(z,3)] 1 rfl (by omega) _ rfl (by rfl) HR.out.1 (by rfl) (by omega) hb3 ?_)
      intro g7 cap7 w7 hown7 hg7 hb7
      have HF:Hid (OwnP w7 base3 (.slice (some ⟨g7,0,none⟩) (m2+1) cap7) (m2+1) (Df.top LS LD BY++Df.threes ((Df.ordered BY).take (k+1)))∧Below base3 X1 w7):=⟨by rw[HTA.out];exact hown7,HR.out.2.trans hb7⟩
      clear hown7 hg7 hb7 HR HTA
      go_wp2_with fail
      go_roundw
      case rel=>exact⟨k+1,m2+1,_,_,by omega,by omega,by go_num,rfl,HF⟩
      case measure=>simp[intOf];omega
    have hki:¬(k:Int)<(kk:Int):=by omega
    have hkk:k=kk:=by omega
    subst hkk
    obtain⟨R0,hR0⟩:∃R0,R0=Df.top LS LD BY++Df.threes ((Df.ordered BY).take k):=⟨_,rfl⟩
    have hR0e:Df.head LS LD BY=R0++Df.runBits BY R:=by
     rw[hR0,HKK.out]
     unfold Df.head
     rw[HRR.out.1]
    have HH:Hid (Df.head LS LD BY=R0++Df.runBits BY R):=hR0e
    have HO4:Hid (OwnP wr base3 (.slice ao m2 cap3) m2 (R0++Df.runBits BY (R.take 0))∧Below ow.heap.size ow wr):=by
     rw[hR0]
     refine⟨?_,bwr⟩
     have e:Df.runBits BY (R.take 0)=[]:=rfl
     rw[e,List.append_nil]
     exact HR.out.1
    have HB4:Hid (base3≤wr.heap.size∧ow.heap.size≤base3):=⟨hb3,HB3b.out.2⟩
    have hm22:m2≤22:=by omega
    clear q1 q2 q3 q4 q5 q6 q7 q8 bwr HR hR0e hR0 hb3 HB3b HX1
    go_wp2_with fail
    go_loopw [17,19] (fun o i wr=>∃(j m3:Nat) (ao:Option Addr) (cap:Nat),j≤r∧m3≤m2+2*j∧i=.int .i64 (j:Int)∧o=.slice ao m3 cap∧Hid (OwnP wr base3 (.slice ao m3 cap) m3 (R0++Df.runBits BY (R.take j))∧Below ow.heap.size ow wr∧base3≤wr.heap.size)) (fun _ i _=>r-(intOf i).toNat)
    case atStart=>exact⟨0,m2,_,_,Nat.zero_le _,Nat.le_refl _,rfl,rfl,HO4.out.1,HO4.out.2,HB4.out.1⟩
    case round=>
     obtain⟨j,m3,ao4,cap4,hj,hm3,rfl,rfl,HR⟩:=hrel
     clear HO4
     obtain⟨q1,q2,q3,q4,q5,q6,q7,q8⟩:=HAL.out wr HR.out.2.1
     by_cases hjt:j<r
     · have hji:(j:Int)<(r:Int):=by omega
       have hjl:j<R.length:=by rw[HRR.out.2.1];exact hjt
       obtain⟨tb,toff,rfl,htb,d1,d2,d3⟩:=q7.at hjl
       have hok:=HRR.out.2.2 _ (List.getElem_mem hjl)
       have HTA:Hid (R0++Df.runBits BY (R.take (j+1))=(R0++Df.runBits BY (R.take j))++[((Cp.bit BY (R[j]).1.toNat).1,(Cp.bit BY (R[j]).1.toNat).2),((R[j]).2.1,(R[j]).2.2)]):=by
        show _=_
        rw[List.take_succ_eq_append_getElem hjl,Df.runBits_snoc,List.append_assoc]
       obtain⟨V,hV⟩:=Int.eq_ofNat_of_zero_le hok.1
       have hV18:=hok.2.1
       rw[hV] at d1 HTA hV18
       have hVt:((V:Nat):Int).toNat=V:=rfl
       rw[hVt] at HTA
       have HSY:Hid (∀W:World,Below wr.heap.size wr W→Calls Tryz.prog 73 #[.slice (some ⟨cb,0,none⟩) 19 19,.slice (some ⟨bb,0,none⟩) 19 19,.int .i64 (V:Int)] W fun e w'=>e=.returned (.agg #[.int .i64 (Cp.bit BY V).1,.int .i64 (Cp.bit BY V).2])∧Below W.heap.size W w'):=fun W b=>l3Sym_bit _ _ 19 19 19 V BY W (q5.kept b) (q4.kept b) HFF.out.2.2.2.2.2 (by omega) HFF.out.2.2.2.2.1.ok
       generalize (Cp.bit BY V).1=u1 at HSY HTA
       generalize (Cp.bit BY V).2=u2 at HSY HTA
       generalize (R[j]).2.1=t1 at d2 HTA
       generalize (R[j]).2.2=t2 at d3 HTA
       obtain⟨PL,hPL⟩:∃PL,PL=R0++Df.runBits BY (R.take j):=⟨_,rfl⟩
       rw[←hPL] at HTA HR
       have htw:tb<wr.heap.size:=htb
       have htb3:tb<base3:=by
        obtain⟨_,_,_,_,_,_,q7',_⟩:=HAL.out ow (Below.refl _ _)
        obtain⟨tb',toff',e',htb',_,_,_⟩:=q7'.at hjl
        cases e'
        exact Nat.lt_of_lt_of_le htb' HB4.out.2
       clear q1 q2 q3 q4 q5 q6 q7 q8 hok hV hVt hPL
       go_wp2_with fail
       refine wp_region_held_drew (S:=fun wy=>wy.cell? ⟨tb,toff+j*3,none⟩=some (.int .i64 (V:Int))∧wy.cell? ⟨tb,toff+j*3+1,none⟩=some (.int .i64 t1)∧wy.cell? ⟨tb,toff+j*3+2,none⟩=some (.int .i64 t2)) (by kernel_rfl) ⟨d1,d2,d3⟩ (fun hHeld=>?_)
       refine tkI (i:=0) (v:=(.slice ao4 m3 cap4)) rfl (Or.inl ⟨by rfl,?_⟩) hHeld ?_
       · intro wy hSw
         obtain⟨s1,s2,s3⟩:=hSw
         go_simp
       try simp only[Act.put,litE]
       refine tkI (i:=1) (v:=(.slice (some ⟨cb,0,none⟩) 19 19)) rfl (Or.inl ⟨by rfl,?_⟩) hHeld ?_
       · intro wy hSw
         obtain⟨s1,s2,s3⟩:=hSw
         go_simp
       try simp only[Act.put,litE]
       refine tkI (i:=2) (v:=(.slice (some ⟨bb,0,none⟩) 19 19)) rfl (Or.inl ⟨by rfl,?_⟩) hHeld ?_
       · intro wy hSw
         obtain⟨s1,s2,s3⟩:=hSw
         go_simp
       try simp only[Act.put,litE]
       refine tkI (i:=3) (v:=(.slice (some ⟨tb,toff,none⟩) r rc)) rfl (Or.inl ⟨by rfl,?_⟩) hHeld ?_
       · intro wy hSw
         obtain⟨s1,s2,s3⟩:=hSw
         go_simp
       try simp only[Act.put,litE]
       refine tkI (i:=4) (v:=(.int .i64 (j:Int))) rfl (Or.inl ⟨by rfl,?_⟩) hHeld ?_
       · intro wy hSw
         obtain⟨s1,s2,s3⟩:=hSw
         go_simp
       try simp only[Act.put,litE]
       refine tkI (i:=5) (v:=(.pointer (some ⟨tb,toff+j*3,none⟩))) rfl (Or.inl ⟨by rfl,?_⟩) hHeld ?_
       · intro wy hSw
         obtain⟨s1,s2,s3⟩:=hSw
         go_simp
       try simp only[Act.put,litE]
       refine tkI (i:=6) (v:=(.pointer (some ⟨tb,toff+j*3,none⟩))) rfl (Or.inl ⟨by rfl,?_⟩) hHeld ?_
       · intro wy hSw
         obtain⟨s1,s2,s3⟩:=hSw
         go_simp
       try simp only[Act.put,litE]
       refine tkI (i:=7) (v:=(.int .i64 (V:Int))) rfl (Or.inl ⟨by rfl,?_⟩) hHeld ?_
       · intro wy hSw
         obtain⟨s1,s2,s3⟩:=hSw
         go_simp
       try simp only[Act.put,litE]
       refine tkI (i:=9) (v:=(.slice (some ⟨tb,toff,none⟩) r rc)) rfl (Or.inl ⟨by rfl,?_⟩) hHeld ?_
       · intro wy hSw
         obtain⟨s1,s2,s3⟩:=hSw
         go_simp
       try simp only[Act.put,litE]
       refine tkI (i:=10) (v:=(.int .i64 (j:Int))) rfl (Or.inl ⟨by rfl,?_⟩) hHeld ?_
       · intro wy hSw
         obtain⟨s1,s2,s3⟩:=hSw
         go_simp
       try simp only[Act.put,litE]
       refine tkI (i:=11) (v:=(.pointer (some ⟨tb,toff+j*3,none⟩))) rfl (Or.inl ⟨by rfl,?_⟩) hHeld ?_
       · intro wy hSw
         obtain⟨s1,s2,s3⟩:=hSw
         go_simp
       try simp only[Act.put,litE]
       refine tkI (i:=12) (v:=(.pointer (some ⟨tb,toff+j*3+1,none⟩))) rfl (Or.inl ⟨by rfl,?_⟩) hHeld ?_
       · intro wy hSw
         obtain⟨s1,s2,s3⟩:=hSw
         go_simp
       try simp only[Act.put,litE]
       refine tkI (i:=13) (v:=(.agg #[.int .i64 t1,.int .i64 t2])) rfl (Or.inl ⟨by rfl,?_⟩) hHeld ?_
       · intro wy hSw
         obtain⟨s1,s2,s3⟩:=hSw
         go_simp
       try simp only[Act.put,litE]
       refine wpAnyH_ready (rs:=[8]) (by kernel_rfl) (by simp) ?_
       refine AllReadyH.cons rfl (fun K hK=>?_) AllReadyH.nil
       go_simp
       refine (HSY.out wr.drew (below_drewN _ wr 1)).mono ?_
       rintro e W ⟨rfl,bW'⟩
       have bW:Below wr.heap.size wr W:=(Below.refl wr.heap.size wr).drew.trans (show Below wr.heap.size wr.drew W from bW')
       refine hK.out _ _ ⟨(bW.cell (p:=⟨tb,toff+j*3,none⟩) htw).trans d1,(bW.cell (p:=⟨tb,toff+j*3+1,none⟩) htw).trans d2,(bW.cell (p:=⟨tb,toff+j*3+2,none⟩) htw).trans d3⟩ (fun hHeld=>?_)
       clear hK K
       try simp only[Act.put,litE]
       refine wpAnyH_ready (rs:=[14]) (by kernel_rfl) (by simp) ?_
       refine AllReadyH.cons rfl (fun K hK=>?_) AllReadyH.nil
       go_simp
       have bWo:∀o:Obj,Below wr.heap.size wr (W.alloc o):=fun o=>bW.alloc bW.size o
       refine hK.out _ _ ⟨((bWo _).cell (p:=⟨tb,toff+j*3,none⟩) htw).trans d1,((bWo _).cell (p:=⟨tb,toff+j*3+1,none⟩) htw).trans d2,((bWo _).cell (p:=⟨tb,toff+j*3+2,none⟩) htw).trans d3⟩ (fun hHeld=>?_)
       clear hK K
       try simp only[Act.put,litE]
       refine wpAnyH_ready (rs:=[15]) (by kernel_rfl) (by simp) ?_
       refine AllReadyH.cons rfl (fun K hK=>?_) AllReadyH.nil
       refine step_appP W (by rfl) _ _ (by rfl) base3 (.slice ao4 m3 cap4) m3 PL [(u1,u2),(t1,t2)] 2 rfl (by omega) _ rfl (by rfl) (HR.out.1.below bW) (by rfl) (by omega) (Nat.le_trans HR.out.2.2 bW.size) ?_
       intro g7 cap7 w7 hown7 hg7 hb7
       have z1:=(hb7.cell (p:=⟨tb,toff+j*3,none⟩) htb3).trans ((bW.cell (p:=⟨tb,toff+j*3,none⟩) htw).trans d1)
       have z2:=(hb7.cell (p:=⟨tb,toff+j*3+1,none⟩) htb3).trans ((bW.cell (p:=⟨tb,toff+j*3+1,none⟩) htw).trans d2)
       have z3:=(hb7.cell (p:=⟨tb,toff+j*3+2,none⟩) htb3).trans ((bW.cell (p:=⟨tb,toff+j*3+2,none⟩) htw).trans d3)
       try simp only[Act.put,litE]
       refine hK.out _ _ ⟨z1,z2,z3⟩ (fun hHeld=>?_)
       clear hK K
       try simp only[Act.put,litE]
       refine tkI (i:=16) (v:=(.slice (some ⟨g7,0,none⟩) (m3+2) cap7)) rfl (Or.inl ⟨by rfl,?_⟩) hHeld ?_
       · intro wy hSw
         obtain⟨s1,s2,s3⟩:=hSw
         go_simp
       try simp only[Act.put,litE]
       refine wpAnyH_done (by kernel_rfl) ?_ _
       try simp only[Act.put,litE]
       have HF:Hid (OwnP w7 base3 (.slice (some ⟨g7,0,none⟩) (m3+2) cap7) (m3+2) (R0++Df.runBits BY (R.take (j+1)))∧Below ow.heap.size ow w7∧base3≤w7.heap.size):=⟨by rw[HTA.out];exact hown7,HR.out.2.1.trans ((bW.mono HR.out.2.1.size).trans (hb7.mono HB4.out.2)),Nat.le_trans HR.out.2.2 (Nat.le_trans bW.size hb7.size)⟩
       clear hown7 hg7 hb7 HR HTA hHeld z1 z2 z3 bW d1 d2 d3
       go_wp2_with fail
       go_roundw
       case rel=>exact⟨j+1,m3+2,_,_,by omega,by omega,by go_num,rfl,HF⟩
       case measure=>simp[intOf];omega
     have hji:¬(j:Int)<(r:Int):=by omega
     have hjr:r=j:=by omega
     have hTk:R.take j=R:=List.take_of_length_le (by rw[HRR.out.2.1];omega)
     have HB5:Hid (OwnP wr base3 (.slice ao4 m3 cap4) m3 (Df.head LS LD BY)∧base3≤wr.heap.size∧ow.heap.size≤base3):=by
      have h:=HR.out.1
      rw[hTk,←HH.out] at h
      exact⟨h,HR.out.2.2,HB4.out.2⟩
     have HTW:Hid (Toks w xa l):=HI
     have HBD:Hid (Calls Tryz.prog 43 #[.slice xa N cL,.slice (some ⟨s,0,none⟩) 286 286,.slice (some ⟨d,0,none⟩) 30 30] wr (L5End wr (Df.body LS LD l))):=l5Body_any xa N cL l _ 286 286 LS _ 30 30 LD wr (HI.out.kept q1) HN.out hNb q2 HFF.out.2.2.1 (by omega) q3 HFF.out.2.2.2.1 (by omega) HFF.out.1.ok HFF.out.2.1.ok HK.out
     have HBW:Hid (Below w.heap.size w wr∧Df.IsOwn l LS LD BY):=⟨q1,HFF.out.1,HFF.out.2.1,by rw[←HRR.out.1];exact HFF.out.2.2.2.2.1⟩
     have hwb:Hid (w.heap.size≤base3):=Nat.le_trans (HAL.out ow (Below.refl _ _)).1.size HB4.out.2
     have hm3b:m3≤1000:=by omega
     clear q1 q2 q3 q4 q5 q6 q7 q8 HR hTk HH HB4
     go_wp2_with fail
     refine HBD.out.mono ?_
     rintro e X ⟨⟨a9,L9,c9,rfl,hO9⟩,bX⟩
     have hL9:L9=(Df.body LS LD l).length:=hO9.len.symm
     have hL9b:0<L9∧L9≤20001:=by
      have h1:=Df.toks_len LS LD l
      rw[HN.out] at h1
      rw[hL9]
      unfold Df.body
      rw[List.length_append]
      simp
      omega
     have HO9:Hid (OwnP X wr.heap.size (.slice a9 L9 c9) L9 (Df.body LS LD l)∧OwnP X base3 (.slice ao4 m3 cap4) m3 (Df.head LS LD BY)∧base3≤X.heap.size∧Below w.heap.size w X):=⟨hO9,HB5.out.1.below bX,Nat.le_trans HB5.out.2.1 bX.size,HBW.out.1.trans (bX.mono HBW.out.1.size)⟩
     clear hL9 hO9 bX
     go_wp2_with (at_builtin;refine wpList_appQ (by rfl) _ _ (by rfl) base3 _ m3 (Df.head LS LD BY) (by rfl) HO9.out.2.1 wr.heap.size a9 L9 c9 (Df.body LS LD l) (by rfl) HO9.out.1 hL9b.1 (by omega) HO9.out.2.2.1 ?_)
     intro g cap9 w9 hown9 hb9
     have HE:Hid (OwnEndS w l (.returned (.slice (some ⟨g,0,none⟩) (m3+L9) cap9)) w9):=⟨LS,LD,BY,HBW.out.2,⟨_,_,_,rfl,hown9.down hwb.out⟩,HO9.out.2.2.2.trans (hb9.mono hwb.out)⟩
     clear hown9 hb9
     go_wp2_with fail
     go_ret
     exact HE.out
end Go.Proofs.YtejebodgfoihkaaGreat
