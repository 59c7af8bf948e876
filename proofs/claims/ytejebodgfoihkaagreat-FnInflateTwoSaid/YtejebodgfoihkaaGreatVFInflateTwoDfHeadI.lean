/- The packer of the program: the two codes ahead of a block. -/
import Derived.Test.YtejebodgfoihkaaGreatKFInflateTwox0
import Derived.Test.YtejebodgfoihkaaGreatVFInflateTwoDfLenI2
import Derived.Test.YtejebodgfoihkaaGreatKFInflateTwox6
import Derived.Test.YtejebodgfoihkaaGreatKFInflateTwox7
import Derived.Test.YtejebodgfoihkaaGreatVFInflateTwoDfBodyI
namespace Go.Proofs.YtejebodgfoihkaaGreat
open Go.RowKit

def FitEndI (zs:List Int) (n:Nat) (m:Int) (w:World) (e:Ending) (w':World):Prop:=(∃b L,e=.returned (.slice (some ⟨b,0,none⟩) n n)∧w.heap.size≤b∧Ints w' (some ⟨b,0,none⟩) L∧Df.FitL m zs L)∧Below w.heap.size w w'
theorem fit_fitL (a:Option Addr) (n c:Nat) (l:List Int) (m:Int) (w:World) (h:Ints w a l) (hn:l.length=n) (hb:n≤1048576) (hf:fitB l m=true):
 Calls Tryz.prog 34 #[.slice a n c,.int .i64 m] w (FitEndI l n m w):=by
 refine (impl_codeFit a n c l m w h hn hb).mono ?_
 rintro e w' ⟨⟨hf2,_⟩|⟨_,b,f,rfl,hbl,hO,hF⟩,hbel⟩
 · rw[hf] at hf2;cases hf2
 refine⟨⟨b,_,by rw[hn],hbl,own_ints2 hO,hf,f,hF,?_⟩,hbel⟩
 rfl
theorem Gr.below' {B:Nat} {v v':Value} {a b c:World} (h:Below a.heap.size a b) (k:Gr B v v' b c):Gr B v v' a c:=
 ⟨k.os.trans h.os,k.tape.trans h.tape,k.output.trans h.output,Nat.le_trans h.size k.size,fun i h1 h2 h3=>(k.block i (Nat.lt_of_lt_of_le h1 h.size) h2 h3).trans (h.block i h1),fun i e=>by
  obtain⟨h1,h2⟩:=k.own i e
  refine⟨?_,h2⟩
  rcases h1 with h1|h1
  · exact .inl h1
  exact .inr (Nat.le_trans h.size h1)⟩
theorem Toks.gr {W W':World} {B:Nat} {v v':Value} {a:Option Addr} {l:List Tk} (h:Toks W a l) (k:Gr B v v' W W') (hb:∀b off,a=some ⟨b,off,none⟩→b≠B∧v.ownBlock≠some b):Toks W' a l:=by
 rcases h with e|⟨b,off,rfl,hlt,hc⟩
 · exact .inl e
 obtain⟨h1,h2⟩:=hb b off rfl
 refine .inr ⟨b,off,rfl,Nat.lt_of_lt_of_le hlt k.size,fun i hi=>?_⟩
 obtain⟨c1,c2,c3⟩:=hc i hi
 exact⟨(k.cell (a:=⟨b,off+i*3,none⟩) hlt h1 h2).trans c1,(k.cell (a:=⟨b,off+i*3+1,none⟩) hlt h1 h2).trans c2,(k.cell (a:=⟨b,off+i*3+2,none⟩) hlt h1 h2).trans c3⟩
theorem Ints.gr {W W':World} {B:Nat} {v v':Value} {b:Nat} {l:List Int} (h:Ints W (some ⟨b,0,none⟩) l) (k:Gr B v v' W W') (h1:b≠B) (h2:v.ownBlock≠some b):Ints W' (some ⟨b,0,none⟩) l:=by
 rcases h with e|⟨b',off,e,hlt,hc⟩
 · exact .inl e
 cases e
 exact .inr ⟨b,0,rfl,Nat.lt_of_lt_of_le hlt k.size,fun i hi=>(k.cell (a:=⟨b,0+i,none⟩) hlt h1 h2).trans (hc i hi)⟩
def HeadEnd (B N:Nat) (v x1 x2:Value) (l:List (Int×Int)) (LS LD:List Int) (w:World) (e:Ending) (w':World):Prop:=(∃r,e=.returned r)∧∃BY v',Df.FitL 7 (Df.cnt3 (Df.runs (Df.joined LS LD))) BY∧PkDone B x1 x2 v (N+(Df.head LS LD BY).length) (l++Df.head LS LD BY) w v' w'
set_option linter.unusedSimpArgs false in
set_option linter.unusedVariables false in
set_option maxHeartbeats 8000000 in
set_option maxRecDepth 20000 in
theorem head_pk (B N b1 b2:Nat) (v x1 x2:Value) (l:List (Int×Int)) (LS LD:List Int) (w:World) (hB:w.heap[B]?=some (.cells #[v,x1,x2] 41 (0,0))) (hO:OwnX w B v N l) (hN:N≤100000)
 (h1:Ints w (some ⟨b1,0,none⟩) LS) (h2:Ints w (some ⟨b2,0,none⟩) LD) (e1:LS.length=286) (e2:LD.length=30) (r1:∀i,0≤LS.getD i 0∧LS.getD i 0≤15) (r2:∀i,0≤LD.getD i 0∧LD.getD i 0≤15):
 Calls Tryz.prog 35 #[.pointer (some ⟨B,0,none⟩),.slice (some ⟨b1,0,none⟩) 286 286,.slice (some ⟨b2,0,none⟩) 30 30] w (HeadEnd B N v x1 x2 l LS LD w):=by
 have hBl:B<w.heap.size:=(Array.getElem?_eq_some_iff.1 hB).1
 have HPK:Hid (w.heap[B]?=some (.cells #[v,x1,x2] 41 (0,0))∧OwnX w B v N l∧∀k,v.ownBlock=some k→k<w.heap.size):=⟨hB,hO,fun k e=>(World.ownsRow.lt (show World.ownsRow _ _ _ _ _ _ _ from hO.1) k e).2⟩
 have HI:Hid (Ints w (some ⟨b1,0,none⟩) LS∧Ints w (some ⟨b2,0,none⟩) LD):=⟨h1,h2⟩
 have HT1:Hid (Calls Tryz.prog 63 #[.slice (some ⟨b1,0,none⟩) 286 286,.int .i64 257] w fun e w'=>e=.returned (.slice (some ⟨b1,0,none⟩) (Df.used LS 257) 286)∧w'=w):=trimmed_any b1 0 286 286 257 LS w h1 e1 (by omega) (by omega) (by omega) (by omega)
 have HT2:Hid (Calls Tryz.prog 63 #[.slice (some ⟨b2,0,none⟩) 30 30,.int .i64 1] w fun e w'=>e=.returned (.slice (some ⟨b2,0,none⟩) (Df.used LD 1) 30)∧w'=w):=trimmed_any b2 0 30 30 1 LD w h2 e2 (by omega) (by omega) (by omega) (by omega)
 have hn1:=Df.used_le LS 257
 have hn2:=Df.used_ge (l:=LS) (least:=257) (by omega)
 have hm1:=Df.used_le LD 1
 have hm2:=Df.used_ge (l:=LD) (least:=1) (by omega)
 rw[e1] at hn1
 rw[e2] at hm1
 have hJ:Df.joined LS LD=LS.take (Df.used LS 257)++LD.take (Df.used LD 1):=rfl
 have HTOP:Hid (∀BY,Df.head LS LD BY=[(((Df.used LS 257-257:Nat):Int),5),(((Df.used LD 1-1:Nat):Int),5),(((Df.used (Df.ordered BY) 4-4:Nat):Int),4)]++Df.threes ((Df.ordered BY).take (Df.used (Df.ordered BY) 4))++Df.runBits BY (Df.runs (Df.joined LS LD))):=fun BY=>rfl
 obtain⟨n,hn⟩:∃n,n=Df.used LS 257:=⟨_,rfl⟩
 obtain⟨m,hm⟩:∃m,m=Df.used LD 1:=⟨_,rfl⟩
 rw[←hn] at hn1 hn2 HT1 hJ HTOP
 rw[←hm] at hm1 hm2 HT2 hJ HTOP
 have hJl:(Df.joined LS LD).length=n+m:=by rw[hJ,List.length_append,List.length_take,List.length_take];omega
 have hRlen:=Df.runs_len (Df.joined LS LD)
 have hRok:∀t∈Df.runs (Df.joined LS LD),Df.RunOk t:=Df.runs_ok (Df.joined_all r1 r2)
 obtain⟨w0,hw0⟩:∃w0,w0=w.alloc (.cells #[.slice (some ⟨b1,0,none⟩) n 286,.slice (some ⟨b2,0,none⟩) m 30] 30):=⟨_,rfl⟩
 have b0:Below w.heap.size w w0:=by rw[hw0];exact (Below.refl _ _).alloc (Nat.le_refl _) _
 have HCC:Hid (Calls Tryz.prog 65 #[.slice (some ⟨w.heap.size,0,none⟩) 2 2] w0 fun e w'=>(∃a c,e=.returned (.slice a (n+m) c)∧OwnI w' w0.heap.size (.slice a (n+m) c) (n+m) (Df.joined LS LD))∧Below w0.heap.size w0 w'):=by
  rw[hJ]
  exact concat_two w.heap.size _ _ n 286 m 30 _ _ w0 (by rw[hw0];exact heap_alloc_new _ _) (ints_take (h1.kept b0) n) (ints_take (h2.kept b0) m) (by rw[List.length_take];omega) (by rw[List.length_take];omega) (by omega) (by omega)
 have HB0:Hid (Below w.heap.size w w0):=b0
 have HR:Hid (Df.runs (Df.joined LS LD)=Df.runs (Df.joined LS LD)):=rfl
 generalize hJe:Df.joined LS LD=J at*
 have HJE:Hid (Df.joined LS LD=J):=hJe
 clear hB hO h1 h2 e1 e2 r1 r2 hn hm hJ b0 HR hJe
 go_enter Tryz.func35,Tryz.ntmps35
 go_wp2_with fail
 refine HT1.out.mono ?_
 rintro e w1 ⟨rfl,hw1⟩
 replace hw1:=hw1.symm
 subst hw1
 clear HT1
 go_wp2_with fail
 refine HT2.out.mono ?_
 rintro e w1 ⟨rfl,hw1⟩
 replace hw1:=hw1.symm
 subst hw1
 clear HT2
 go_wp2_with fail
 rw[←hw0]
 clear hw0
 refine HCC.out.mono ?_
 rintro e w2 ⟨⟨ja,jc,rfl,hJO⟩,bj⟩
 have HJO:Hid (Ints w2 ja J∧Below w.heap.size w w2):=by
  obtain⟨ao,cap,he,ho⟩:=hJO.owns
  cases he
  exact⟨ho.ints,HB0.out.trans (bj.mono HB0.out.size)⟩
 clear HCC hJO bj HB0
 have HLS:Hid (Calls Tryz.prog 64 #[.slice ja (n+m) jc] w2 (SignsEnd w2 (Df.runs J))):=lengthSigns_any ja (n+m) jc J w2 HJO.out.1 hJl (by omega)
 go_wp2_with fail
 refine HLS.out.mono ?_
 rintro e w3 ⟨⟨ra,r,rc,rfl,hR8⟩,b3⟩
 clear HLS
 obtain⟨R,hR⟩:∃R,R=Df.runs J:=⟨_,rfl⟩
 rw[←hR] at hR8 hRlen hRok HTOP
 have hRl:R.length=r:=hR8.len
 have hrb:r≤316:=by omega
 have HRR:Hid (R=Df.runs J∧R.length=r∧(∀t∈R,Df.RunOk t)):=⟨hR,hRl,hRok⟩
 have HB3:Hid (Below w.heap.size w w3):=HJO.out.2.trans (b3.mono HJO.out.2.size)
 have hrfar:∀b off,ra=some ⟨b,off,none⟩→w.heap.size≤b:=fun b off e=>by
  have:=(World.ownsRow.lt (show World.ownsRow _ _ _ _ _ _ _ from hR8) b (by rw[e];rfl)).1
  have:=HJO.out.2.size
  omega
 obtain⟨ta,tc,te,HT8⟩:=hR8.toks
 have HTK:Hid (Toks w3 ra R∧∀b off,ra=some ⟨b,off,none⟩→w.heap.size≤b):=by cases te;exact⟨HT8,hrfar⟩
 clear HT8 te ta tc hR8 b3 HJO hrfar hR hRl hRok hRlen
 have hmk:(Instr.makeSlice 30 (.int .i64 19) (.int .i64 19)).run Tryz.prog w3=.ok (.slice (some ⟨w3.heap.size,0,none⟩) 19 19) (w3.alloc (.cells ((List.replicate 19 (0:Int)).map (Value.int .i64)).toArray 3)):=make_rowN 19 (by omega) w3
 obtain⟨B9,hBe⟩:∃B9,B9=w3.heap.size:=⟨_,rfl⟩
 obtain⟨w4,hw4⟩:∃w4,w4=w3.alloc (.cells ((List.replicate 19 (0:Int)).map (Value.int .i64)).toArray 3):=⟨_,rfl⟩
 have b4:Below w3.heap.size w3 w4:=by rw[hw4];exact (Below.refl _ _).alloc (Nat.le_refl _) _
 have r4:DRow w4 B9 (Df.cnt3 (R.take 0)):=by rw[hw4,hBe];exact heap_alloc_new _ _
 rw[←hw4,←hBe] at hmk
 have HR0:Hid (DRow w4 B9 (Df.cnt3 (R.take 0))∧Below B9 w3 w4):=⟨r4,by rw[hBe];exact b4⟩
 have HBB:Hid (B9=w3.heap.size):=hBe
 clear hBe r4 b4 hw4
 go_wp2_with fail
 clear hmk
 go_loopw [29] (fun i wr=>∃k:Nat,k≤r∧i=.int .i64 (k:Int)∧Hid (DRow wr B9 (Df.cnt3 (R.take k))∧Below B9 w3 wr)) (fun i _=>r-(intOf i).toNat)
 case atStart=>exact⟨0,Nat.zero_le _,rfl,HR0⟩
 case round=>
  obtain⟨k,hk,rfl,HR⟩:=hrel
  clear HR0
  by_cases hlt:k<r
  · have hki:(k:Int)<(r:Int):=by omega
    have hkl:k<R.length:=by rw[HRR.out.2.1];exact hlt
    obtain⟨tb,toff,hra,htb,d1,d2,d3⟩:=HTK.out.1.at hkl
    have bkr:Below w3.heap.size w3 wr:=by have h:=HR.out.2;rw[HBB.out] at h;exact h
    have e1:=(bkr.cell (p:=⟨tb,toff+k*3,none⟩) htb).trans d1
    have e2:=(bkr.cell (p:=⟨tb,toff+k*3+1,none⟩) htb).trans d2
    have e3:=(bkr.cell (p:=⟨tb,toff+k*3+2,none⟩) htb).trans d3
    have hok:=HRR.out.2.2 _ (List.getElem_mem hkl)
    have HT1:Hid (Df.cnt3 (R.take (k+1))=Df.inc (Df.cnt3 (R.take k)) (R[k]).1.toNat):=by
     show _=_
     rw[List.take_succ_eq_append_getElem hkl,Df.cnt3_snoc]
    have hcS:=Df.cnt3_cnt R k (by omega)
    have hlS:=Df.cnt3_len (R.take k)
    obtain⟨cS,hcSe⟩:∃cS,cS=Df.cnt3 (R.take k):=⟨_,rfl⟩
    rw[←hcSe] at HR HT1 hcS hlS
    obtain⟨V,hV⟩:=Int.eq_ofNat_of_zero_le hok.1
    have hV18:=hok.2.1
    rw[hV] at e1 HT1 hV18
    have hVt:((V:Nat):Int).toNat=V:=rfl
    rw[hVt] at HT1
    generalize (R[k]).2.1=t2 at*
    generalize (R[k]).2.2=t3 at*
    have hVl:V<cS.length:=by omega
    have hVi:(V:Int)<19:=by omega
    have c1:=HR.out.1.cellD V hVl
    have f1:=HR.out.1.free V
    have hb1:=hcS V
    obtain⟨x,hx⟩:=Int.eq_ofNat_of_zero_le hb1.1
    rw[hx] at c1 hb1
    have hxb:x≤6000:=by omega
    have hset:=HR.out.1.set V ((x:Int)+1)
    have hinc:cS.set V ((x:Int)+1)=Df.inc cS V:=by unfold Df.inc;rw[hx]
    rw[hinc,←HT1.out] at hset
    have hB9:B9<wr.heap.size:=HR.out.1.lt
    have HR2:Hid (DRow ((wr.setCell ⟨B9,V,none⟩ (.int .i64 ((x:Int)+1))).alloc (.cells #[.int .i64 (V:Int),.int .i64 t2,.int .i64 t3] 102)) B9 (Df.cnt3 (R.take (k+1)))∧Below B9 w3 ((wr.setCell ⟨B9,V,none⟩ (.int .i64 ((x:Int)+1))).alloc (.cells #[.int .i64 (V:Int),.int .i64 t2,.int .i64 t3] 102))):=⟨hset.below ((Below.refl _ _).alloc (Nat.le_refl _) _),(HR.out.2.setCell (p:=⟨B9,V,none⟩) (Nat.le_refl _) _).alloc (by rw[World.size_setCell];exact Nat.le_of_lt hB9) _⟩
    obtain⟨x1,hx1⟩:∃x1,x1=x+1:=⟨_,rfl⟩
    have ex1:(x:Int)+1=(x1:Int):=by omega
    have wx1:IntKind.i64.wrap (x1:Int)=(x1:Int):=wrap_i64_nat x1 (by omega)
    have wx2:IntKind.i64.wrap ((x:Int)+1)=(x1:Int):=by rw[ex1];exact wx1
    rw[ex1] at HR2
    subst hra
    clear hset hinc hx hx1 HR HT1 hcS hcSe hlS hVl ex1 d1 d2 d3 hok hV hVt bkr
    go_wp2_with fail
    go_roundw
    case rel=>exact⟨k+1,by omega,by go_num,HR2⟩
    case measure=>simp[intOf];omega
  have hki:¬(k:Int)<(r:Int):=by omega
  have hkN:r=k:=by omega
  subst hkN
  have hc3:=HR.out.1
  rw[List.take_of_length_le (by rw[HRR.out.2.1];exact Nat.le_refl _)] at hc3
  have bkr:Below w3.heap.size w3 wr:=by have h:=HR.out.2;rw[HBB.out] at h;exact h
  have HFB:Hid (Calls Tryz.prog 34 #[.slice (some ⟨B9,0,none⟩) 19 19,.int .i64 7] wr (FitEndI (Df.cnt3 R) 19 7 wr)):=fit_fitL _ 19 19 _ 7 wr hc3.ints (Df.cnt3_len R) (by omega) (cnt3_fit (by rw[HRR.out.2.1];omega))
  have HBR:Hid (Below w.heap.size w wr):=HB3.out.trans (bkr.mono HB3.out.size)
  have HTR:Hid (Toks wr ra R∧∀b off,ra=some ⟨b,off,none⟩→w.heap.size≤b):=⟨HTK.out.1.kept bkr,HTK.out.2⟩
  clear HR HB3 HTK hc3 bkr HBB
  go_wp2_with fail
  refine HFB.out.mono ?_
  rintro e V1 ⟨⟨bb,BY,rfl,hbb,iB,fB⟩,bV1⟩
  clear HFB
  have hBYl:BY.length=19:=by rw[fB.len,Df.cnt3_len]
  have hBYr:∀i,0≤BY.getD i 0∧BY.getD i 0≤15:=fB.all (by omega)
  have HBY:Hid (Ints V1 (some ⟨bb,0,none⟩) BY∧Df.FitL 7 (Df.cnt3 R) BY∧BY.length=19∧w.heap.size≤bb∧Cd.okB BY=true):=⟨iB,fB,hBYl,Nat.le_trans HBR.out.size hbb,fB.ok⟩
  have HV1:Hid (Below w.heap.size w V1∧Toks V1 ra R∧∀b off,ra=some ⟨b,off,none⟩→w.heap.size≤b):=⟨HBR.out.trans (bV1.mono HBR.out.size),HTR.out.1.kept bV1,HTR.out.2⟩
  have HLO:Hid (Calls Tryz.prog 66 #[.slice (some ⟨bb,0,none⟩) 19 19] V1 fun e w'=>(∃a c,e=.returned (.slice a 19 c)∧OwnI w' V1.heap.size (.slice a 19 c) 19 (Df.ordered BY))∧Below V1.heap.size V1 w'):=inLengthOrder_any bb BY V1 iB hBYl
  clear iB fB hBYl hbb bV1 HBR HTR
  go_wp2_with fail
  refine HLO.out.mono ?_
  rintro e V2 ⟨⟨oa,oc,rfl,hoO⟩,bV2⟩
  clear HLO
  obtain⟨ob,rfl,hob,hoc⟩:∃ob,oa=some ⟨ob,0,none⟩∧V1.heap.size≤ob∧19≤oc:=by
   rcases hoO.2 with⟨e,e0⟩|⟨g,cap,cur,e,hgb,_,hle,_⟩
   · cases e0
   cases e;exact⟨g,rfl,hgb,hle⟩
  have hoI:Ints V2 (some ⟨ob,0,none⟩) (Df.ordered BY):=by
   obtain⟨ao,cap,he,ho⟩:=hoO.owns
   cases he
   exact ho.ints
  have hol:=Df.ordered_len BY
  have HOR:Hid (Ints V2 (some ⟨ob,0,none⟩) (Df.ordered BY)∧w.heap.size≤ob∧(Df.ordered BY).length=19):=⟨hoI,Nat.le_trans HV1.out.1.size hob,hol⟩
  have HT3:Hid (Calls Tryz.prog 63 #[.slice (some ⟨ob,0,none⟩) 19 oc,.int .i64 4] V2 fun e w'=>e=.returned (.slice (some ⟨ob,0,none⟩) (Df.used (Df.ordered BY) 4) oc)∧w'=V2):=trimmed_any ob 0 19 oc 4 (Df.ordered BY) V2 hoI hol (by omega) hoc (by omega) (by omega)
  have hu1:=Df.used_le (Df.ordered BY) 4
  have hu2:=Df.used_ge (l:=Df.ordered BY) (least:=4) (by omega)
  rw[hol] at hu1
  obtain⟨u,hu⟩:∃u,u=Df.used (Df.ordered BY) 4:=⟨_,rfl⟩
  rw[←hu] at hu1 hu2 HT3
  have HU:Hid (u=Df.used (Df.ordered BY) 4):=hu
  have HV2:Hid (Below w.heap.size w V2∧Toks V2 ra R∧(∀b off,ra=some ⟨b,off,none⟩→w.heap.size≤b)∧Ints V2 (some ⟨bb,0,none⟩) BY):=⟨HV1.out.1.trans (bV2.mono HV1.out.1.size),HV1.out.2.1.kept bV2,HV1.out.2.2,HBY.out.1.kept bV2⟩
  clear hu hoI hol hob hoc hoO bV2 HV1
  go_wp2_with fail
  refine HT3.out.mono ?_
  rintro e V3 ⟨rfl,hV3⟩
  replace hV3:=hV3.symm
  subst hV3
  clear HT3
  obtain⟨n7,hn7⟩:∃n7,n7=n-257:=⟨_,rfl⟩
  obtain⟨m1,hm1'⟩:∃m1,m1=m-1:=⟨_,rfl⟩
  obtain⟨u4,hu4⟩:∃u4,u4=u-4:=⟨_,rfl⟩
  have en7:(n:Int)-257=(n7:Int):=by omega
  have em1:(m:Int)-1=(m1:Int):=by omega
  have eu4:(u:Int)-4=(u4:Int):=by omega
  have wn7:=wrap_i64_nat n7 (by omega)
  have wm1:=wrap_i64_nat m1 (by omega)
  have wu4:=wrap_i64_nat u4 (by omega)
  have hB2:V2.heap[B]?=some (.cells #[v,x1,x2] 41 (0,0)):=(HV2.out.1.block B hBl).trans HPK.out.1
  have HPK2:Hid (V2.heap[B]?=some (.cells #[v,x1,x2] 41 (0,0))∧OwnX V2 B v N l):=⟨hB2,⟨HPK.out.2.1.1.same (fun k hk _=>HV2.out.1.block k hk),HPK.out.2.1.2⟩⟩
  have pc:=(pk_cell hB2).1
  have hBV:B<V2.heap.size:=(Array.getElem?_eq_some_iff.1 hB2).1
  have HTT:Hid (((n-257:Nat):Int)=(n7:Int)∧((m-1:Nat):Int)=(m1:Int)∧((u-4:Nat):Int)=(u4:Int)):=⟨by rw[hn7],by rw[hm1'],by rw[hu4]⟩
  clear hB2 hn7 hm1' hu4
  go_wp2_with (at_builtin;refine wpList_appK V2 (by rfl) _ _ (by rfl) 0 v N l [((n7:Int),5),((m1:Int),5),((u4:Int),4)] 3 rfl (by omega) _ rfl (by rfl) HPK2.out.2.1 (by rfl) (by omega) (Nat.zero_le _) ?_;intro g2 cap2 w5 ho2 hg2 hat2 hlt2;have HD:Hid (PkDone B x1 x2 v (N+3) (l++[((n7:Int),5),((m1:Int),5),((u4:Int),4)]) V2 (.slice (some ⟨g2,0,none⟩) (N+3) cap2) (w5.setCell ⟨B,0,none⟩ (.slice (some ⟨g2,0,none⟩) (N+3) cap2))):=pk_done HPK2.out.1 HPK2.out.2 ((Below.refl _ _).alloc (Nat.le_refl _) _) hg2 hat2 hlt2 ho2;obtain⟨pc2,pf2⟩:=pk_at2 HPK2.out.1 HPK2.out.2 ((Below.refl _ _).alloc (Nat.le_refl _) _) hg2;clear ho2 hg2 hat2 hlt2)
  clear pc2 pf2 pc
  have hrB:∀b off,ra=some ⟨b,off,none⟩→b≠B∧v.ownBlock≠some b:=fun b off e=>by
   have h1:=HV2.out.2.2.1 b off e
   exact⟨by omega,fun e2=>by have:=HPK.out.2.2 b e2;omega⟩
  have hoB:ob≠B∧v.ownBlock≠some ob:=by
   have h1:=HOR.out.2.1
   exact⟨by omega,fun e2=>by have:=HPK.out.2.2 ob e2;omega⟩
  have hbB:bb≠B∧v.ownBlock≠some bb:=by
   have h1:=HBY.out.2.2.2.1
   exact⟨by omega,fun e2=>by have:=HPK.out.2.2 bb e2;omega⟩
  have HFAR:Hid ((∀b off,ra=some ⟨b,off,none⟩→b≠B∧v.ownBlock≠some b)∧(ob≠B∧v.ownBlock≠some ob)∧(bb≠B∧v.ownBlock≠some bb)):=⟨hrB,hoB,hbB⟩
  clear hrB hoB hbB
  obtain⟨TP,hTP⟩:∃TP,TP=[((n7:Int),(5:Int)),((m1:Int),5),((u4:Int),4)]:=⟨_,rfl⟩
  rw[←hTP] at HD
  have HTP:Hid (TP=[((n7:Int),(5:Int)),((m1:Int),5),((u4:Int),4)]):=hTP
  clear hTP
  have HW0:Hid (∃v',PkDone B x1 x2 v (N+3+0) (l++TP++Df.threes ((Df.ordered BY).take 0)) V2 v' (w5.setCell ⟨B,0,none⟩ (.slice (some ⟨g2,0,none⟩) (N+3) cap2))):=⟨_,by rw[List.take_zero,show Df.threes []=[] from rfl,List.append_nil];exact HD.out⟩
  clear HD
  generalize w5.setCell ⟨B,0,none⟩ (.slice (some ⟨g2,0,none⟩) (N+3) cap2)=W0 at*
  go_loopw [69] (fun i wr=>∃k:Nat,k≤u∧i=.int .i64 (k:Int)∧Hid (∃v',PkDone B x1 x2 v (N+3+k) (l++TP++Df.threes ((Df.ordered BY).take k)) V2 v' wr)) (fun i _=>u-(intOf i).toNat)
  case atStart=>exact⟨0,Nat.zero_le _,rfl,HW0⟩
  case round=>
   obtain⟨k,hk,rfl,HR⟩:=hrel
   clear HW0
   obtain⟨v1,hPD⟩:=HR.out
   clear HR
   by_cases hlt:k<u
   · have hki:(k:Int)<(u:Int):=by omega
     have hcO:=getD_cellI (HOR.out.1.gr hPD.2.2 HFAR.out.2.1.1 HFAR.out.2.1.2) (i:=k) (by rw[HOR.out.2.2];omega)
     obtain⟨z,hz⟩:∃z,z=(Df.ordered BY).getD k 0:=⟨_,rfl⟩
     have HST:Hid (Df.threes ((Df.ordered BY).take (k+1))=Df.threes ((Df.ordered BY).take k)++[(z,3)]):=by
      show _=_
      have hkl:k<(Df.ordered BY).length:=by rw[HOR.out.2.2];omega
      rw[List.take_succ_eq_append_getElem hkl]
      unfold Df.threes
      rw[List.map_append,hz,List.getD_eq_getElem?_getD,List.getElem?_eq_getElem hkl]
      rfl
     rw[←hz] at hcO
     have pc:=(pk_cell hPD.1).1
     have HP1:Hid (wr.heap[B]?=some (.cells #[v1,x1,x2] 41 (0,0))∧OwnX wr B v1 (N+3+k) (l++TP++Df.threes ((Df.ordered BY).take k))∧Gr B v v1 V2 wr):=hPD
     clear hPD hz
     go_wp2_with (at_builtin;refine wpList_appK wr (by rfl) _ _ (by rfl) 0 v1 (N+3+k) (l++TP++Df.threes ((Df.ordered BY).take k)) [(z,3)] 1 rfl (by omega) _ rfl (by rfl) HP1.out.2.1.1 (by rfl) (by omega) (Nat.zero_le _) ?_;intro g2 cap2 w5 ho2 hg2 hat2 hlt2;have HD:Hid (PkDone B x1 x2 v1 (N+3+k+1) ((l++TP++Df.threes ((Df.ordered BY).take k))++[(z,3)]) wr (.slice (some ⟨g2,0,none⟩) (N+3+k+1) cap2) (w5.setCell ⟨B,0,none⟩ (.slice (some ⟨g2,0,none⟩) (N+3+k+1) cap2))):=pk_done HP1.out.1 HP1.out.2.1 ((Below.refl _ _).alloc (Nat.le_refl _) _) hg2 hat2 hlt2 ho2;obtain⟨pc2,pf2⟩:=pk_at2 HP1.out.1 HP1.out.2.1 ((Below.refl _ _).alloc (Nat.le_refl _) _) hg2;clear ho2 hg2 hat2 hlt2)
     have HF:Hid (∃v',PkDone B x1 x2 v (N+3+(k+1)) (l++TP++Df.threes ((Df.ordered BY).take (k+1))) V2 v' (w5.setCell ⟨B,0,none⟩ (.slice (some ⟨g2,0,none⟩) (N+3+k+1) cap2))):=by
      refine⟨_,HD.out.1,?_,HP1.out.2.2.trans HD.out.2.2⟩
      have h:=HD.out.2.1
      rw[List.append_assoc,←HST.out] at h
      exact h
     clear HD pc2 pf2 pc HP1 HST
     go_wp2_with fail
     go_roundw
     case rel=>exact⟨k+1,by omega,by go_num,HF⟩
     case measure=>simp[intOf];omega
   have hki:¬(k:Int)<(u:Int):=by omega
   have hku:k=u:=by omega
   subst hku
   have HP1:Hid (PkDone B x1 x2 v (N+3+k) (l++TP++Df.threes ((Df.ordered BY).take k)) V2 v1 wr):=hPD
   clear hPD
   have HCB:Hid (Calls Tryz.prog 28 #[.slice (some ⟨bb,0,none⟩) 19 19] wr fun e w'=>e=.returned (.slice (some ⟨wr.heap.size,0,none⟩) 19 19)∧OwnP w' wr.heap.size (.slice (some ⟨wr.heap.size,0,none⟩) 19 19) 19 (Cp.all BY)∧Below wr.heap.size wr w'):=codeBits_any _ 19 19 BY wr (HV2.out.2.2.2.gr HP1.out.2.2 HFAR.out.2.2.1 HFAR.out.2.2.2) HBY.out.2.2.1 (by omega) HBY.out.2.2.2.2
   go_wp2_with fail
   refine HCB.out.mono ?_
   rintro e W4 ⟨rfl,hCO,bW4⟩
   clear HCB
   obtain⟨W3,hW3⟩:∃W3,W3=wr:=⟨_,rfl⟩
   subst hW3
   have hBr:B<W3.heap.size:=(Array.getElem?_eq_some_iff.1 HP1.out.1).1
   have hvl:∀k,v1.ownBlock=some k→k<W3.heap.size:=fun j e=>(World.ownsRow.lt (show World.ownsRow _ _ _ _ _ _ _ from HP1.out.2.1.1) j e).2
   have HC4:Hid (Code1 W4 B v1 W3.heap.size 19 BY):=code1_of hCO HBY.out.2.2.1 (by omega) (by omega) (fun e=>by have:=hvl _ e;omega)
   obtain⟨cb,hcb⟩:∃cb,cb=W3.heap.size:=⟨_,rfl⟩
   rw[←hcb] at HC4 ⊢
   obtain⟨M,hM⟩:∃M,M=N+3+k:=⟨_,rfl⟩
   obtain⟨L2,hL2⟩:∃L2,L2=l++TP++Df.threes ((Df.ordered BY).take k):=⟨_,rfl⟩
   have hMb:M≤101000:=by omega
   rw[←hM,←hL2] at HP1
   have HS4:Hid (W4.heap[B]?=some (.cells #[v1,x1,x2] 41 (0,0))∧OwnX W4 B v1 M L2∧Below W3.heap.size W3 W4):=⟨(bW4.block B hBr).trans HP1.out.1,HP1.out.2.1.below bW4,bW4⟩
   have HML:Hid (M=N+3+k∧L2=l++TP++Df.threes ((Df.ordered BY).take k)∧k=Df.used (Df.ordered BY) 4):=⟨hM,hL2,HU.out⟩
   have HQ0:Hid (∃v',PkDone B x1 x2 v1 (M+2*0) (L2++Df.runBits BY (R.take 0)) W4 v' W4):=⟨v1,HS4.out.1,by rw[List.take_zero,show Df.runBits BY []=[] from rfl,List.append_nil];exact HS4.out.2.1,Gr.refl HS4.out.2.1⟩
   clear hCO bW4 hvl hcb hM hL2 hBr
   go_wp2_with fail
   go_loopw [89] (fun i wr=>∃j:Nat,j≤r∧i=.int .i64 (j:Int)∧Hid (∃v',PkDone B x1 x2 v1 (M+2*j) (L2++Df.runBits BY (R.take j)) W4 v' wr)) (fun i _=>r-(intOf i).toNat)
   case atStart=>exact⟨0,Nat.zero_le _,rfl,HQ0⟩
   case round=>
    obtain⟨j,hj,rfl,HR⟩:=hrel
    clear HQ0
    obtain⟨v2,hQ⟩:=HR.out
    clear HR
    by_cases hlt:j<r
    · have hji:(j:Int)<(r:Int):=by omega
      have hjl:j<R.length:=by rw[HRR.out.2.1];exact hlt
      obtain⟨tb,toff,hra,htb,d1,d2,d3⟩:=HV2.out.2.1.at hjl
      have hf1:=HFAR.out.1 tb toff hra
      have hf2:=HP1.out.2.2.far htb hf1.2
      have htr:tb<W3.heap.size:=Nat.lt_of_lt_of_le htb HP1.out.2.2.size
      have ht4:tb<W4.heap.size:=Nat.lt_of_lt_of_le htr HS4.out.2.2.size
      have hcell:∀o,wr.cell? ⟨tb,o,none⟩=V2.cell? ⟨tb,o,none⟩:=fun o=>(hQ.2.2.cell (a:=⟨tb,o,none⟩) ht4 hf1.1 hf2).trans ((HS4.out.2.2.cell (p:=⟨tb,o,none⟩) htr).trans (HP1.out.2.2.cell (a:=⟨tb,o,none⟩) htb hf1.1 hf1.2))
      have e1:=(hcell (toff+j*3)).trans d1
      have e2:=(hcell (toff+j*3+1)).trans d2
      have e3:=(hcell (toff+j*3+2)).trans d3
      have hok:=HRR.out.2.2 _ (List.getElem_mem hjl)
      have HST:Hid (Df.runBits BY (R.take (j+1))=Df.runBits BY (R.take j)++[((Cp.bit BY (R[j]).1.toNat).1,(Cp.bit BY (R[j]).1.toNat).2),((R[j]).2.1,(R[j]).2.2)]):=by
       show _=_
       rw[List.take_succ_eq_append_getElem hjl,Df.runBits_snoc]
      obtain⟨V,hV⟩:=Int.eq_ofNat_of_zero_le hok.1
      have hV18:=hok.2.1
      rw[hV] at e1 HST hV18
      have hVt:((V:Nat):Int).toNat=V:=rfl
      rw[hVt] at HST
      generalize (R[j]).2.1=t2 at*
      generalize (R[j]).2.2=t3 at*
      obtain⟨wb,hwb⟩:∃wb,wb=wr.alloc (.cells #[.int .i64 (V:Int),.int .i64 t2,.int .i64 t3] 102):=⟨_,rfl⟩
      have bb4:Below wr.heap.size wr wb:=by rw[hwb];exact (Below.refl _ _).alloc (Nat.le_refl _) _
      have hCb:=(HC4.out.gr hQ.2.2).kept bb4
      obtain⟨k1,k2⟩:=hCb.cell V (by omega)
      have hBq:B<wr.heap.size:=(Array.getElem?_eq_some_iff.1 hQ.1).1
      have HSG:Hid (Calls Tryz.prog 53 #[.pointer (some ⟨B,0,none⟩),.agg #[.int .i64 (V:Int),.int .i64 t2,.int .i64 t3],.slice (some ⟨cb,0,none⟩) 19 19] wb (PkEnd B x1 x2 v2 (M+2*j+2) (L2++Df.runBits BY (R.take j)++[((Cp.bit BY V).1,(Cp.bit BY V).2),(t2,t3)]) wb)):=sign_pk B V (M+2*j) 19 19 cb _ _ t2 t3 v2 x1 x2 _ wb ((bb4.block B hBq).trans hQ.1) (hQ.2.1.below bb4) (by omega) hCb.lt (by omega) (by omega) k1 k2
      have HQ:Hid (PkDone B x1 x2 v1 (M+2*j) (L2++Df.runBits BY (R.take j)) W4 v2 wr∧Below wr.heap.size wr wb):=⟨hQ,bb4⟩
      have hVi:(V:Int)<19:=by omega
      subst hra
      clear hQ bb4 hCb k1 k2 hok hV hVt d1 d2 d3 hcell hf1 hf2
      go_wp2_with fail
      rw[←hwb]
      clear hwb
      refine HSG.out.mono ?_
      rintro e w9 ⟨⟨r0,rfl⟩,v3,hD⟩
      have HF:Hid (∃v',PkDone B x1 x2 v1 (M+2*(j+1)) (L2++Df.runBits BY (R.take (j+1))) W4 v' w9):=by
       have hD':=PkDone.from HQ.out.2 hD
       refine⟨v3,hD'.1,?_,HQ.out.1.2.2.trans hD'.2.2⟩
       have h:=hD'.2.1
       rw[List.append_assoc,←HST.out] at h
       exact h
      clear HSG hD HQ HST
      go_wp2_with fail
      go_roundw
      case rel=>exact⟨j+1,by omega,by go_num,HF⟩
      case measure=>simp[intOf];omega
    have hji:¬(j:Int)<(r:Int):=by omega
    have hjr:r=j:=by omega
    have HE:Hid (∃BY v',Df.FitL 7 (Df.cnt3 (Df.runs (Df.joined LS LD))) BY∧PkDone B x1 x2 v (N+(Df.head LS LD BY).length) (l++Df.head LS LD BY) w v' wr):=by
     have hl:Df.runBits BY (R.take j)=Df.runBits BY R:=by rw[List.take_of_length_le (by rw[HRR.out.2.1,hjr];exact Nat.le_refl _)]
     have hh:Df.head LS LD BY=TP++Df.threes ((Df.ordered BY).take k)++Df.runBits BY R:=by
      rw[HTOP.out BY,HTP.out,←HML.out.2.2,HTT.out.1,HTT.out.2.1,HTT.out.2.2]
     have hlen:(Df.head LS LD BY).length=3+k+2*j:=by
      rw[hh,HTP.out,List.length_append,List.length_append,Df.runBits_len,HRR.out.2.1,hjr]
      unfold Df.threes
      rw[List.length_map,List.length_take,HOR.out.2.2]
      show 3+min k 19+2*j=_
      omega
     refine⟨BY,v2,?_,hQ.1,?_,Gr.below' HV2.out.1 (HP1.out.2.2.trans (Gr.below' HS4.out.2.2 hQ.2.2))⟩
     · rw[HJE.out,←HRR.out.1];exact HBY.out.2.1
     have h:=hQ.2.1
     rw[hl,HML.out.2.1,HML.out.1] at h
     rw[hlen,hh,←List.append_assoc,←List.append_assoc,show N+(3+k+2*j)=N+3+k+2*j by omega]
     exact h
    clear hQ
    go_wp2_with fail
    go_end0
    exact⟨⟨_,rfl⟩,HE.out⟩
end Go.Proofs.YtejebodgfoihkaaGreat
