/- Texts laid together: CtSFit, CtSFit2, CtFacts, DfOwnM, DfFits, DfStoreM, DfOwnS, DfPkI, RtMath, RtCode, RtOwn, RtTop, ZpLen2, RtLen, RtPk, RtTwo. -/
import Derived.Test.YtejebodgfoihkaaGreatKFInflateTwox0a
import Derived.Test.YtejebodgfoihkaaGreatVFInflateTwoCfTree2
import Derived.Test.YtejebodgfoihkaaGreatKFInflateTwox5
import Derived.Test.YtejebodgfoihkaaGreatKFInflateTwox0
import Derived.Test.YtejebodgfoihkaaGreatKFInflateTwox2
import Derived.Test.YtejebodgfoihkaaGreatVFInflateTwoDfBodyS
import Derived.Test.YtejebodgfoihkaaGreatVFInflateTwoDfOftS
import Derived.Test.YtejebodgfoihkaaGreatVFInflateTwoDfRunsS
import Derived.Test.YtejebodgfoihkaaGreatVFInflateTwoDfSignI
import Derived.Test.YtejebodgfoihkaaGreatVFInflateTwoEachReg
/- The specification's CodeFit: just the lengths of Ct. -/
namespace Go.Proofs.YtejebodgfoihkaaGreat
open Go.RowKit

set_option maxHeartbeats 2000000 in
theorem l3Most_is (a:Option Addr) (n c:Nat) (f:Nat→Nat) (w:World) (h:Ints w a ((List.range n).map (fun i=>((f i:Nat):Int)))) (hb:n≤1000) (hl:∀i,i<n→f i≤100000):
 Calls Tryz.prog 104 #[.slice a n c] w fun e w'=>(∃m:Nat,e=.returned (.int .i64 (m:Int))∧(∀i,i<n→f i≤m)∧(m=0∨∃i,i<n∧m=f i))∧w'=w:=by
 have HI:Hid (Ints w a ((List.range n).map (fun i=>((f i:Nat):Int)))):=h
 have HL:Hid (∀i,i<n→f i≤100000):=hl
 clear h hl
 go_enter Tryz.func104,Tryz.ntmps104
 go_wp2_with fail
 go_loop [3,4] (fun v i=>∃k m:Nat,k≤n∧m≤100000∧i=.int .i64 (k:Int)∧v=.int .i64 (m:Int)∧Hid ((∀i,i<k→f i≤m)∧(m=0∨∃i,i<n∧m=f i))) (fun _ i=>n-(intOf i).toNat)
 case atStart=>exact⟨0,0,by omega,by omega,rfl,rfl,fun i hi=>by omega,.inl rfl⟩
 case round=>
  obtain⟨k,m,hk,hm,rfl,rfl,HM⟩:=hrel
  by_cases hlt:k<n
  · have hki:(k:Int)<(n:Int):=by omega
    obtain⟨b,off,rfl,hc⟩:∃b off,a=some ⟨b,off,none⟩∧w.cell? ⟨b,off+k,none⟩=some (.int .i64 ((f k:Nat):Int)):=by
     rcases HI.out with e|⟨b,off,e1,_,e3⟩
     · have:=congrArg List.length e
       rw[List.length_map,List.length_range] at this
       simp at this
       omega
     refine⟨b,off,e1,?_⟩
     have:=e3 k (by rw[List.length_map,List.length_range];exact hlt)
     rw[List.getElem_map,List.getElem_range] at this
     exact this
    have hz:=HL.out k hlt
    have HZ:Hid (∃z,z=f k):=⟨_,rfl⟩
    obtain⟨z,hzz⟩:∃z:Nat,f k=z:=⟨_,rfl⟩
    rw[hzz] at hc hz
    by_cases hgt:m<z
    · have hgi:(m:Int)<(z:Int):=by omega
      have HM2:Hid ((∀i,i<k+1→f i≤z)∧(z=0∨∃i,i<n∧z=f i)):=⟨fun i hi=>by
       by_cases e:i=k
       · subst e;omega
       have:=HM.out.1 i (by omega);omega,.inr ⟨k,hlt,hzz.symm⟩⟩
      clear hzz HM HZ
      go_wp2_with fail
      go_round
      case rel=>exact⟨k+1,z,by omega,by omega,by go_num,rfl,HM2⟩
      case measure=>simp[intOf];omega
    have hgi:¬(m:Int)<(z:Int):=by omega
    have HM2:Hid ((∀i,i<k+1→f i≤m)∧(m=0∨∃i,i<n∧m=f i)):=⟨fun i hi=>by
     by_cases e:i=k
     · subst e;omega
     exact HM.out.1 i (by omega),HM.out.2⟩
    clear hzz HM HZ
    go_wp2_with fail
    go_round
    case rel=>exact⟨k+1,m,by omega,by omega,by go_num,rfl,HM2⟩
    case measure=>simp[intOf];omega
  have hki:¬(k:Int)<(n:Int):=by omega
  obtain rfl:k=n:=by omega
  go_wp2_with fail
  go_ret
  exact⟨⟨m,rfl,HM.out.1,HM.out.2⟩,rfl⟩

def XRow (w W:World) (a1:Option Addr) (n:Nat) (x:List Int):Prop:=x.length=n∧(n=0∨∃g,a1=some ⟨g,0,none⟩∧w.heap.size≤g∧Own W g n (fun i=>x.getD i 0))
theorem XRow.ints {w W:World} {a1:Option Addr} {n:Nat} {x:List Int} (h:XRow w W a1 n x):Ints W a1 x:=by
 obtain⟨h1,h2|⟨g,rfl,_,h3⟩⟩:=h
 · exact .inl (List.eq_nil_of_length_eq_zero (by omega))
 refine .inr ⟨g,0,rfl,h3.1,fun i hi=>?_⟩
 have:=(h3.2 i (by omega)).1
 dsimp only at this
 rw[Nat.zero_add,this,List.getD_eq_getElem?_getD,List.getElem?_eq_getElem hi]
 rfl
theorem XRow.kept {w W W':World} {a1:Option Addr} {n:Nat} {x:List Int} (h:XRow w W a1 n x) (hb:Below W.heap.size W W'):XRow w W' a1 n x:=by
 obtain⟨h1,h2|⟨g,e,hg,h3⟩⟩:=h
 · exact⟨h1,.inl h2⟩
 exact⟨h1,.inr ⟨g,e,hg,own_low h3 hb h3.1⟩⟩

theorem xrow_own {w W:World} {a1:Option Addr} {n c:Nat} {l:List Int} (h:OwnI W w.heap.size (.slice a1 n c) n l):XRow w W a1 n l:=by
 have hl:l.length=n:=by have h1:=h.1;unfold intsV at h1;simpa using h1
 refine⟨hl,?_⟩
 have h':W.ownsRow w.heap.size 3 1 (.slice a1 n c) n (l.map (Value.int .i64)):=h
 rcases h'.2 with⟨e,h0⟩|⟨g,cap,cur,e,hg,hh,_⟩
 · exact .inl h0
 cases e
 refine .inr ⟨g,rfl,hg,(Array.getElem?_eq_some_iff.1 hh).1,fun i hi=>⟨?_,World.ownsRow.frozenAt h' i⟩⟩
 rw[World.ownsRow.cellAt h' i (by omega),List.getElem?_map]
 show _=some (Value.int .i64 (l.getD i 0))
 rw[List.getD_eq_getElem?_getD,List.getElem?_eq_getElem (by omega)]
 rfl
def hx (x:List Int) (k:Nat) (i:Nat):Int:=if i<k then Ct.half (x.getD i 0) else x.getD i 0
set_option maxHeartbeats 8000000 in
set_option maxRecDepth 20000 in
theorem l3Fit_is (a:Option Addr) (n c:Nat) (l:List Int) (M:Nat) (w:World) (h:Ints w a l) (hn:l.length=n) (hM1:1≤M) (hM:M≤15) (hG:Ct.Good M l):
 Calls Tryz.prog 78 #[.slice a n c,.int .i64 (M:Int)] w fun e w'=>(∃b f,e=.returned (.slice (some ⟨b,0,none⟩) n n)∧Ints w' (some ⟨b,0,none⟩) ((List.range n).map (fun i=>((f i:Nat):Int)))∧Ct.Fits M l f)∧Below w.heap.size w w':=by
 have HN:Hid (l.length=n):=hn
 have HG:Hid (Ct.Good M l):=hG
 have hn3:n≤300:=by have:=hG.1;omega
 have HE:Hid (OwnI (w.alloc (.cells #[] 3)) w.heap.size (.slice (some ⟨w.heap.size,0,none⟩) 0 0) 0 []):=ownI_none w
 have HIA:Hid (Ints (w.alloc (.cells #[] 3)) a l):=h.kept ((Below.refl _ _).alloc (Nat.le_refl _) _)
 clear h hn hG
 go_enter Tryz.func78,Tryz.ntmps78
 go_wp2_with (at_builtin;refine wpList_append_ints (by rfl) _ _ (by rfl) w.heap.size _ 0 [] (by rfl) HE.out a n c l (by rfl) HIA.out HN.out (by omega) (by simp) ?_)
 intro a1 c1 w1 hO1 hg1
 have HX1:Hid (XRow w w1 a1 n l):=by
  have hO2:OwnI w1 w.heap.size (.slice a1 n c1) n l:=by simpa using hO1
  exact xrow_own hO2
 have HB1:Hid (Below w.heap.size w w1):=((Below.refl _ _).alloc (Nat.le_refl _) _).trans ((Below.refl _ _).grown hg1 (by simp) (fun j hj=>(World.ownsRow.lt (show World.ownsRow _ _ _ _ _ _ _ from HE.out) j hj).1))
 have HT1:Hid (Calls Tryz.prog 103 #[.slice a1 n c1] w1 (TrEndX w1 n l)):=l3Tree_is a1 c1 n l w1 HX1.out.ints HN.out hn3 HG.out.2.1
 clear hO1 hg1 HE HIA
 go_wp2_with fail
 refine HT1.out.mono ?_
 rintro e w2 ⟨⟨rfl,f,hO2,hl2,_⟩,b2⟩
 have hs1:=HB1.out.size
 have H2:Hid (XRow w w2 a1 n l∧Own w2 w1.heap.size n (fun i=>((f i:Nat):Int))∧Ct.IsLens l f∧Below w.heap.size w w2∧w.heap.size≤w1.heap.size):=⟨HX1.out.kept b2,hO2,hl2,HB1.out.trans (b2.mono hs1),hs1⟩
 have hw12:w1.heap.size≤w2.heap.size:=b2.size
 clear hO2 hl2 b2 HT1 HX1 HB1
 generalize w1.heap.size=B1 at*
 go_wp2_with fail
 go_loopw [6] (fun v wr=>∃(x:List Int) (b:Nat) (f:Nat→Nat),v=.slice (some ⟨b,0,none⟩) n n∧Hid (XRow w wr a1 n x∧Own wr b n (fun i=>((f i:Nat):Int))∧Ct.IsLens x f∧Below w.heap.size w wr∧Ct.Good M x∧(∀G,Ct.Fits M x G→Ct.Fits M l G))) (fun _ wr=>memSum wr (.slice a1 n c1))
 case atStart=>exact⟨l,B1,f,rfl,H2.out.1,H2.out.2.1,H2.out.2.2.1,H2.out.2.2.2.1,HG.out,fun G h=>h⟩
 case round=>
  clear H2 hw12 hs1
  obtain⟨x,b,fx,rfl,HR⟩:=hrel
  have hdp:Cf.deep x≤100000:=by
   have h1:Cf.fin ((initT x x.length).map Ct.wt)≤Cf.maxh ((initT x x.length).map Ct.wt)+(initT x x.length).length:=Cf.fin_le _ _ (by rw[List.length_map];omega)
   have h2:Cf.maxh ((initT x x.length).map Ct.wt)≤0:=Cf.maxh_le _ (fun z hz=>by
    obtain⟨p,hp,rfl⟩:=List.mem_map.1 hz
    have:=Cf.init_mem x x.length (Ct.nd p) (by rw[←Ct.init_nd];exact List.mem_map.2 ⟨p,hp,rfl⟩)
    exact Nat.le_of_eq this.1)
   have h3:=initT_len x x.length
   have h4:=HR.out.1.1
   unfold Cf.deep
   rw[←Ct.init_nd,Ct.nd_wt]
   exact Ct.max_le (by omega) (by omega)
  have HMO:Hid (Calls Tryz.prog 104 #[.slice (some ⟨b,0,none⟩) n n] wr fun e w'=>(∃m:Nat,e=.returned (.int .i64 (m:Int))∧(∀i,i<n→fx i≤m)∧(m=0∨∃i,i<n∧m=fx i))∧w'=wr):=by
   refine l3Most_is _ n n fx wr ?_ (by omega) (fun i _=>Nat.le_trans (HR.out.2.2.1.deep i) hdp)
   refine .inr ⟨b,0,rfl,HR.out.2.1.1,fun i hi=>?_⟩
   rw[List.length_map,List.length_range] at hi
   rw[Nat.zero_add,List.getElem_map,List.getElem_range]
   exact (HR.out.2.1.2 i hi).1
  clear hdp
  go_wp2_with fail
  refine HMO.out.mono ?_
  rintro e w3 ⟨⟨m,rfl,hm1,hm2⟩,hw3⟩
  replace hw3:=hw3.symm
  subst hw3
  clear HMO
  by_cases hgt:M<m
  · have dgt:decide ((m:Int)>(M:Int))=true:=by simp;omega
    have hex:∃i,i<n∧M<fx i:=by
     rcases hm2 with h0|⟨i,hi,e⟩
     · omega
     exact⟨i,hi,by omega⟩
    have HLS:Hid (memSum wr (.slice a1 n c1)=Ct.tot x∧Ct.tot (Ct.hv x)<Ct.tot x):=⟨memSum_is HR.out.1.ints HR.out.1.1,HR.out.2.2.2.2.1.less hM1 HR.out.2.2.1 (by rw[HR.out.1.1];exact hex)⟩
    have HEX:Hid (∃i,i<x.length∧M<fx i):=by rw[HR.out.1.1];exact hex
    obtain⟨g,rfl,hg,hOx⟩:∃g,a1=some ⟨g,0,none⟩∧w.heap.size≤g∧Own wr g n (fun i=>x.getD i 0):=by
     rcases HR.out.1.2 with h0|hgx
     · obtain⟨i,hi,_⟩:=hex;omega
     exact hgx
    have HOX:Hid (Own wr g n (fun i=>x.getD i 0)):=hOx
    have HXL:Hid (x.length=n):=HR.out.1.1
    have HRX:Hid (Ct.IsLens x fx∧Below w.heap.size w wr∧Ct.Good M x∧(∀G,Ct.Fits M x G→Ct.Fits M l G)):=HR.out.2.2
    clear hex hOx hm1 hm2 HR
    go_wp2_with fail
    go_loopw [7] (fun i wv=>∃k:Nat,k≤n∧i=.int .i64 (k:Int)∧Hid (Own wv g n (hx x k)∧Below w.heap.size w wv)) (fun i _=>n-(intOf i).toNat)
    case atStart=>exact⟨0,Nat.zero_le _,rfl,HOX.out,HRX.out.2.1⟩
    case round=>
     obtain⟨k,hk,rfl,HK⟩:=hrel
     by_cases hlt:k<n
     · have hki:(k:Int)<(n:Int):=by omega
       have hzk:=HRX.out.2.2.1.2.1 k (by rw[HXL.out];exact hlt)
       obtain⟨hc,hfr⟩:=HK.out.1.2 k hlt
       have hcv:hx x k k=x.getD k 0:=by unfold hx;rw[if_neg (by omega)]
       rw[hcv] at hc
       obtain⟨z,hz⟩:∃z:Nat,x.getD k 0=(z:Int):=⟨(x.getD k 0).toNat,by omega⟩
       rw[hz] at hc
       obtain⟨z1,hz1⟩:∃z1,z1=z+1:=⟨_,rfl⟩
       have ez:(z:Int)+1=(z1:Int):=by omega
       obtain⟨H,hH⟩:∃H,H=(z+1) / 2:=⟨_,rfl⟩
       have eH:(z1:Int).tdiv 2=(H:Int):=by rw[hH,←hz1];rfl
       have eH2:(z1:Int) / 2=(H:Int):=by omega
       have hzb:z1≤9001:=by omega
       have HK2:Hid (Own (wr.setCell ⟨g,k,none⟩ (.int .i64 (H:Int))) g n (hx x (k+1))∧Below w.heap.size w (wr.setCell ⟨g,k,none⟩ (.int .i64 (H:Int)))):=by
        refine⟨own_set (H:Int) HK.out.1 hlt ?_ (fun i hi hne=>?_),HK.out.2.setCell (p:=⟨g,k,none⟩) hg _⟩
        · unfold hx Ct.half
          rw[if_pos (by omega),hz]
          omega
        unfold hx
        by_cases e:i<k
        · rw[if_pos e,if_pos (by omega)]
        rw[if_neg e,if_neg (by omega)]
       clear HK hz hz1 hH hzk hcv
       go_wp2_with fail
       go_roundw
       case rel=>exact⟨k+1,by omega,by go_num,HK2⟩
       case measure=>simp[intOf];omega
     have hki:¬(k:Int)<(n:Int):=by omega
     obtain rfl:k=n:=by omega
     have hxr:XRow w wr (some ⟨g,0,none⟩) k (Ct.hv x):=by
      refine⟨by rw[Ct.hv_len];exact HXL.out,.inr ⟨g,rfl,hg,HK.out.1.1,fun i hi=>?_⟩⟩
      have h5:=HK.out.1.2 i hi
      have e5:hx x k i=(Ct.hv x).getD i 0:=by
       unfold hx
       rw[if_pos hi,Ct.hv_get (by rw[HXL.out];exact hi)]
      rw[e5] at h5
      exact h5
     have HXR:Hid (XRow w wr (some ⟨g,0,none⟩) k (Ct.hv x)∧Below w.heap.size w wr):=⟨hxr,HK.out.2⟩
     have HT4:Hid (Calls Tryz.prog 103 #[.slice (some ⟨g,0,none⟩) k c1] wr (TrEndX wr k (Ct.hv x))):=l3Tree_is _ c1 k (Ct.hv x) wr hxr.ints hxr.1 hn3 HRX.out.2.2.1.hv.2.1
     clear hxr HK
     go_wp2_with fail
     refine HT4.out.mono ?_
     rintro e w5 ⟨⟨rfl,f5,o5,l5,_⟩,b5⟩
     have hx5:=HXR.out.1.kept b5
     have HR5:Hid (XRow w w5 (some ⟨g,0,none⟩) k (Ct.hv x)∧Own w5 wr.heap.size k (fun i=>((f5 i:Nat):Int))∧Ct.IsLens (Ct.hv x) f5∧Below w.heap.size w w5∧Ct.Good M (Ct.hv x)∧(∀G,Ct.Fits M (Ct.hv x) G→Ct.Fits M l G)):=
      ⟨hx5,o5,l5,HXR.out.2.trans (b5.mono HXR.out.2.size),HRX.out.2.2.1.hv,fun G hG=>HRX.out.2.2.2 G (.more HRX.out.1 HEX.out hG)⟩
     have HM5:Hid (memSum w5 (.slice (some ⟨g,0,none⟩) k c1)<Ct.tot x):=by
      show _<_
      rw[memSum_is hx5.ints hx5.1]
      exact HLS.out.2
     have HM6:=HLS.out.1
     clear o5 l5 b5 hx5 HT4 HXR
     go_wp2_with fail
     go_roundw
     case rel=>exact⟨Ct.hv x,_,f5,rfl,HR5⟩
     case measure=>rw[HM6];exact HM5.out
  have dgt:decide ((m:Int)>(M:Int))=false:=by simp;omega
  have HF1:Hid (Ints wr (some ⟨b,0,none⟩) ((List.range n).map (fun i=>((fx i:Nat):Int)))):=by
   refine .inr ⟨b,0,rfl,HR.out.2.1.1,fun i hi=>?_⟩
   rw[List.length_map,List.length_range] at hi
   rw[Nat.zero_add,List.getElem_map,List.getElem_range]
   exact (HR.out.2.1.2 i hi).1
  have HF2:Hid (Ct.Fits M l fx):=HR.out.2.2.2.2.2 fx (.stop HR.out.2.2.1 (fun i hi=>by
   have:=hm1 i (by rw[←HR.out.1.1];exact hi)
   omega))
  have HF3:Hid (Below w.heap.size w wr):=HR.out.2.2.2.1
  clear HR hm1 hm2
  go_wp2_with fail
  go_ret
  exact⟨⟨b,fx,rfl,HF1.out,HF2.out⟩,HF3.out⟩

def lens (n:Nat) (f:Nat→Nat):List Int:=(List.range n).map (fun i=>((f i:Nat):Int))
theorem lens_len (n:Nat) (f:Nat→Nat):(lens n f).length=n:=by unfold lens;simp
theorem lens_get {n:Nat} {f:Nat→Nat} {i:Nat} (h:i<n):(lens n f).getD i 0=(f i:Int):=by
 unfold lens
 rw[List.getD_eq_getElem?_getD,List.getElem?_map,List.getElem?_range h];rfl
theorem fitB_parts {l:List Int} {m:Int} (h:fitB l m=true):l.length≤300∧1≤m∧m≤15∧(∀i,i<l.length→0≤l.getD i 0∧l.getD i 0≤9000)∧Ct.come l≤2^m.toNat∧oftenB l=true:=by
 unfold fitB at h
 simp only[Bool.and_eq_true,decide_eq_true_eq] at h
 exact⟨h.1,h.2.1,h.2.2.1,often_all h.2.2.2.1,h.2.2.2.2,h.2.2.2.1⟩
theorem fits_ok {l:List Int} {m:Int} (h:fitB l m=true) {f:Nat→Nat} (hf:Ct.Fits m.toNat l f):
 Cd.okB (lens l.length f)=true∧(2≤Ct.come l→fullB (lens l.length f)=true)∧(∀i,i<l.length→(f i=0↔¬0<l.getD i 0)∧(f i:Int)≤m):=by
 obtain⟨h1,h2,h3,h4,h5,h6⟩:=fitB_parts h
 obtain⟨w,hm⟩:=hf.whole (by omega) h4
 have ht:Cd.taken (lens l.length f)≤32768:=by
  unfold lens
  rw[Ct.taken_sg]
  by_cases c:2≤Ct.come l
  · rw[w.full c];omega
  exact w.one (by omega)
 have hv:Cd.valid (lens l.length f)=true:=by
  unfold Cd.valid lens
  rw[List.all_eq_true]
  intro z hz
  obtain⟨i,hi,rfl⟩:=List.mem_map.1 hz
  have:=hm i (List.mem_range.1 hi)
  unfold Cd.okLen
  simp
  omega
 have hok:Cd.okB (lens l.length f)=true:=by
  unfold Cd.okB
  rw[lens_len,hv]
  simp[h1,ht]
 refine⟨hok,fun c=>?_,fun i hi=>⟨w.some i hi,by have:=hm i hi;omega⟩⟩
 unfold fullB
 rw[hok,left_of_ok hok]
 have e:Cd.taken (lens l.length f)=32768:=by
  unfold lens
  rw[Ct.taken_sg]
  exact w.full c
 rw[e]
 rfl
end Go.Proofs.YtejebodgfoihkaaGreat
namespace Go.Proofs.YtejebodgfoihkaaGreat
namespace Df
def FitL (m:Int) (zs L:List Int):Prop:=fitB zs m=true∧∃f,Ct.Fits m.toNat zs f∧L=lens zs.length f
theorem FitL.same {m:Int} {zs L L':List Int} (h:FitL m zs L) (k:FitL m zs L'):L=L':=by
 obtain⟨_,f,hf,rfl⟩:=h
 obtain⟨_,g,hg,rfl⟩:=k
 rw[hf.same hg]
theorem FitL.len {m:Int} {zs L:List Int} (h:FitL m zs L):L.length=zs.length:=by
 obtain⟨_,f,_,rfl⟩:=h
 exact lens_len _ _
theorem FitL.ok {m:Int} {zs L:List Int} (h:FitL m zs L):Cd.okB L=true:=by
 obtain⟨hb,f,hf,rfl⟩:=h
 exact (fits_ok hb hf).1
theorem FitL.le {m:Int} {zs L:List Int} (h:FitL m zs L) {i:Nat} (hi:i<zs.length):0≤L.getD i 0∧L.getD i 0≤m∧(L.getD i 0=0↔¬0<zs.getD i 0):=by
 obtain⟨hb,f,hf,rfl⟩:=h
 obtain⟨h1,h2⟩:=(fits_ok hb hf).2.2 i hi
 rw[lens_get hi]
 refine⟨by omega,h2,?_⟩
 rw[←h1]
 omega
theorem initT_one (zs:List Int) (k:Nat):(initT zs (k+1)).length=(initT zs k).length+(if 0<zs.getD k 0 then 1 else 0):=by
 rw[initT]
 split<;>simp
theorem initT_le' (zs:List Int):∀k,(initT zs k).length≤k
 | 0=>Nat.le_refl _
 | k+1=>by
  have:=initT_le' zs k
  rw[initT_one]
  split<;>omega
theorem fitB_yes {zs:List Int} {m:Int} (hm1:1≤m) (hm:m≤15) (hn:zs.length≤300) (hz:∀i,i<zs.length→0≤zs.getD i 0∧zs.getD i 0≤9000) (hc:zs.length≤2^m.toNat):fitB zs m=true:=by
 have h1:oftenB zs=true:=by
  unfold oftenB
  rw[List.all_eq_true]
  intro z hz'
  obtain⟨i,hi,rfl⟩:=List.mem_iff_getElem.1 hz'
  have:=hz i hi
  rw[List.getD_eq_getElem?_getD,List.getElem?_eq_getElem hi] at this
  unfold oneB
  simpa using this
 have h2:Ct.come zs≤2^m.toNat:=Nat.le_trans (initT_le' zs _) hc
 unfold fitB
 rw[h1]
 simp[hn,hm1,hm,h2]
theorem good_of {zs:List Int} {m:Int} (h:fitB zs m=true):Ct.Good m.toNat zs:=by
 obtain⟨h1,_,_,h4,h5,_⟩:=fitB_parts h
 exact⟨h1,h4,h5⟩
def RunOk (t:Tk):Prop:=0≤t.1∧t.1≤18∧0≤t.2.1∧t.2.1≤127∧(t.2.2=0∧t.2.1=0∨t.2.2=2∧t.2.1<4∨t.2.2=3∧t.2.1<8∨t.2.2=7∧t.2.1<128)
theorem run_ok {l:List Int} {p:Nat} (h:∀i,0≤l.getD i 0∧l.getD i 0≤15):RunOk (run l p).1:=by
 have h1:=h p
 unfold run
 split
 · refine⟨?_,?_,?_,?_,?_⟩<;>dsimp only<;>omega
 split
 · rename_i h2 h3
   have h4:¬11≤alike l p:=fun h5=>h2 ⟨h3.1,h5⟩
   refine⟨?_,?_,?_,?_,?_⟩<;>dsimp only<;>omega
 split
 · refine⟨?_,?_,?_,?_,?_⟩<;>dsimp only<;>omega
 refine⟨?_,?_,?_,?_,?_⟩<;>dsimp only<;>omega
theorem runsF_ok {l:List Int} (h:∀i,0≤l.getD i 0∧l.getD i 0≤15):∀f p,∀t∈runsF l f p,RunOk t
 | 0,_,t,ht=>by simp[runsF] at ht
 | f+1,p,t,ht=>by
  unfold runsF at ht
  split at ht
  · rcases List.mem_cons.1 ht with rfl|ht
    · exact run_ok h
    exact runsF_ok h f _ t ht
  simp at ht
theorem runs_ok {l:List Int} (h:∀i,0≤l.getD i 0∧l.getD i 0≤15):∀t∈runs l,RunOk t:=runsF_ok h _ _
def cnt3 (R:List Tk):List Int:=R.foldl (fun a t=>inc a t.1.toNat) (List.replicate 19 0)
theorem cnt3_snoc (R:List Tk) (t:Tk):cnt3 (R++[t])=inc (cnt3 R) t.1.toNat:=by unfold cnt3;rw[List.foldl_append];rfl
theorem cnt3_len (R:List Tk):(cnt3 R).length=19:=by
 unfold cnt3
 rw[fold_len (fun a t=>inc_len a _)]
 simp
theorem cnt3_cnt (R:List Tk):∀k,k≤R.length→Cnt k (cnt3 (R.take k))
 | 0,_=>cnt_zero 19
 | k+1,h=>by
  rw[List.take_succ_eq_append_getElem h,cnt3_snoc]
  exact (cnt3_cnt R k (by omega)).inc _
def ordered (BY:List Int):List Int:=lord.map (fun i=>BY.getD i 0)
theorem ordered_len (BY:List Int):(ordered BY).length=19:=by simp[ordered,lord]
def joined (LS LD:List Int):List Int:=LS.take (used LS 257)++LD.take (used LD 1)
def runBits (BY:List Int) (R:List Tk):List (Int×Int):=R.flatMap (fun t=>[Cp.bit BY t.1.toNat,t.2])
theorem runBits_snoc (BY:List Int) (R:List Tk) (t:Tk):runBits BY (R++[t])=runBits BY R++[((Cp.bit BY t.1.toNat).1,(Cp.bit BY t.1.toNat).2),(t.2.1,t.2.2)]:=by simp[runBits]
theorem runBits_len (BY:List Int):∀R:List Tk,(runBits BY R).length=2*R.length
 | []=>rfl
 | t::R=>by
  have h:=runBits_len BY R
  have e:runBits BY (t::R)=[Cp.bit BY t.1.toNat,t.2]++runBits BY R:=by simp[runBits]
  rw[e,List.length_append,h,List.length_cons]
  simp
  omega
def threes (l:List Int):List (Int×Int):=l.map (fun z=>(z,3))
def top (LS LD BY:List Int):List (Int×Int):=[(((used LS 257-257:Nat):Int),5),(((used LD 1-1:Nat):Int),5),(((used (ordered BY) 4-4:Nat):Int),4)]
def head (LS LD BY:List Int):List (Int×Int):=top LS LD BY++threes ((ordered BY).take (used (ordered BY) 4))++runBits BY (runs (joined LS LD))
def own (LS LD BY:List Int) (l:List Tk):List (Int×Int):=head LS LD BY++body LS LD l
def IsOwn (l:List Tk) (LS LD BY:List Int):Prop:=FitL 15 (oftS l) LS∧FitL 15 (cntD l) LD∧FitL 7 (cnt3 (runs (joined LS LD))) BY
theorem IsOwn.same {l:List Tk} {LS LD BY LS' LD' BY':List Int} (h:IsOwn l LS LD BY) (k:IsOwn l LS' LD' BY'):own LS LD BY l=own LS' LD' BY' l:=by
 obtain rfl:=h.1.same k.1
 obtain rfl:=h.2.1.same k.2.1
 obtain rfl:=h.2.2.same k.2.2
 rfl
theorem FitL.all {m:Int} {zs L:List Int} (h:FitL m zs L) (hm:m≤15) (i:Nat):0≤L.getD i 0∧L.getD i 0≤15:=by
 by_cases hi:i<zs.length
 · have:=h.le hi;omega
 rw[List.getD_eq_getElem?_getD,List.getElem?_eq_none (by rw[h.len];omega)]
 simp
theorem getD_take (l:List Int) (n i:Nat):(l.take n).getD i 0=if i<n then l.getD i 0 else 0:=by
 rw[List.getD_eq_getElem?_getD,List.getD_eq_getElem?_getD,List.getElem?_take]
 split<;>rfl
theorem joined_all {LS LD:List Int} (h1:∀i,0≤LS.getD i 0∧LS.getD i 0≤15) (h2:∀i,0≤LD.getD i 0∧LD.getD i 0≤15) (i:Nat):0≤(joined LS LD).getD i 0∧(joined LS LD).getD i 0≤15:=by
 unfold joined
 rw[List.getD_eq_getElem?_getD,List.getElem?_append]
 split
 · rw[←List.getD_eq_getElem?_getD,getD_take]
   split
   · exact h1 i
   omega
 rw[←List.getD_eq_getElem?_getD,getD_take]
 split
 · exact h2 _
 omega
theorem joined_len {LS LD:List Int}:(joined LS LD).length≤LS.length+LD.length:=by
 unfold joined
 rw[List.length_append,List.length_take,List.length_take]
 omega
end Df
namespace Df
def sz:List (Int×Int)→Nat
 | []=>0
 | p::l=>p.2.toNat+sz l
theorem sz_app:∀l m:List (Int×Int),sz (l++m)=sz l+sz m
 | [],m=>by simp[sz]
 | p::l,m=>by
  show p.2.toNat+sz (l++m)=p.2.toNat+sz l+sz m
  rw[sz_app l m]
  omega
theorem tot_sz:∀(l:List (Int×Int)) (i:Nat),Bp.tot l i≤sz l
 | [],i=>by simp[Bp.tot,sz]
 | p::l,0=>by simp[Bp.tot]
 | p::l,i+1=>by
  have h:=tot_sz l i
  unfold Bp.tot at h ⊢
  rw[List.take_succ_cons,List.map_cons,List.sum_cons]
  show _≤p.2.toNat+sz l
  omega
theorem fits_of {l:List (Int×Int)} (h:∀p∈l,Bp.Ok p) (ht:sz l≤72000):Bp.Fits l l.length:=fun _ hj _=>⟨h _ (List.getElem_mem hj),Nat.le_trans (tot_sz l _) ht⟩
theorem bit_ok {L:List Int} (h:Cd.okB L=true) {s:Nat} (hs:s<L.length):Bp.Ok (Cp.bit L s):=by
 obtain⟨V,S,hV,hS,_,hb⟩:=Cp.parts h s hs
 rw[Cp.bit_of hV hS]
 exact⟨by show (0:Int)≤(S:Int);omega,by show (S:Int)≤24;omega,by show (0:Int)≤((turned V S:Nat):Int);omega,turned_lt V S⟩
theorem dsBit_all {x:Nat} (h:x≤5000) (h1:1≤x):(dsN (dsSym x)).1≤x∧x-(dsN (dsSym x)).1<2^(dsN (dsSym x)).2:=by
 have hl:=dsSym_lt x
 have h0:(dsN (dsSym x)).1≤x:=down_is (f:=fun k=>(dsN k).1) (by show 1≤x;exact h1) 29
 refine⟨h0,?_⟩
 have hn:dsSym x=29∨x<(dsN (dsSym x+1)).1:=by
  unfold dsSym
  have key:∀k,down (fun k=>(dsN k).1) x k=k∨x<(dsN (down (fun k=>(dsN k).1) x k+1)).1:=by
   intro k
   induction k with
   | zero=>exact .inl rfl
   | succ k ih=>
    by_cases hc:(dsN (k+1)).1≤x
    · left;exact down_yes (f:=fun k=>(dsN k).1) hc
    rw[down_no (f:=fun k=>(dsN k).1) hc]
    rcases ih with e|e
    · right;rw[e];omega
    exact .inr e
  exact key 29
 have step:∀k,k<29→(dsN (k+1)).1=(dsN k).1+2^(dsN k).2:=by decide +kernel
 rcases hn with e|e
 · rw[e] at h0 ⊢
   have:(dsN 29).1=24577:=by decide
   omega
 have hs:dsSym x<29:=by
  rcases Nat.lt_or_ge (dsSym x) 29 with q|q
  · exact q
  have e9:dsSym x=29:=by omega
  rw[e9] at h0
  have:(dsN 29).1=24577:=by decide
  omega
 have:=step _ hs
 omega
def wt (F:Nat→Nat) (a:List Int):Nat:=Ct.sg (fun i=>(a.getD i 0).toNat*F i) a.length
theorem wt_inc (F:Nat→Nat) {a:List Int} (h:∀i,0≤a.getD i 0) {i:Nat} (hi:i<a.length):wt F (inc a i)=wt F a+F i:=by
 unfold wt
 rw[inc_len]
 have e:∀j,j<a.length→((inc a i).getD j 0).toNat*F j=(a.getD j 0).toNat*F j+(if j=i then F i else 0):=fun j hj=>by
  unfold inc
  rw[getD_set]
  have:=h i
  by_cases q:i=j
  · subst q
    rw[if_pos ⟨rfl,hi⟩,if_pos rfl,show (a.getD i 0+1).toNat=(a.getD i 0).toNat+1 by omega,Nat.add_mul,Nat.one_mul]
  rw[if_neg (fun z=>q z.1),if_neg (fun z=>q z.symm)];rfl
 rw[Ct.sg_same e,Ct.sg_add,Ct.sg_one,if_pos hi]
theorem inc_pos {a:List Int} (h:∀i,0≤a.getD i 0) (i:Nat):∀j,0≤(inc a i).getD j 0:=fun j=>by
 unfold inc
 rw[getD_set]
 have h1:=h i
 have h2:=h j
 split<;>omega
def sumS (F:Nat→Nat):List Tk→Nat
 | []=>0
 | t::l=>F (sym t)+sumS F l
def sumD (G:Nat→Nat):List Tk→Nat
 | []=>0
 | t::l=>(if t.2.1=0 then 0 else G (dsSym t.2.2.toNat))+sumD G l
theorem wt_foldS (F:Nat→Nat):∀(l:List Tk) (a:List Int),(∀t∈l,TkOk t)→a.length=286→(∀i,0≤a.getD i 0)→wt F (l.foldl incS a)=wt F a+sumS F l
 | [],a,_,_,_=>rfl
 | t::l,a,h,hl,hp=>by
  have h1:=wt_foldS F l (incS a t) (fun u hu=>h u (List.mem_cons_of_mem _ hu)) (by unfold incS;rw[inc_len,hl]) (inc_pos hp _)
  have hs:=(sym_ok (h t (List.mem_cons_self ..))).1
  rw[List.foldl_cons,h1]
  unfold incS
  rw[wt_inc F hp (by omega)]
  show _=_+(F (sym t)+sumS F l)
  omega
theorem wt_foldD (G:Nat→Nat):∀(l:List Tk) (a:List Int),a.length=30→(∀i,0≤a.getD i 0)→wt G (l.foldl incD a)=wt G a+sumD G l
 | [],a,_,_=>rfl
 | t::l,a,hl,hp=>by
  have hs:=dsSym_lt t.2.2.toNat
  by_cases h0:t.2.1=0
  · have e:incD a t=a:=by unfold incD;rw[if_pos h0]
    have h1:=wt_foldD G l a hl hp
    rw[List.foldl_cons,e,h1]
    show _=_+((if t.2.1=0 then 0 else _)+sumD G l)
    rw[if_pos h0]
    omega
  have e:incD a t=inc a (dsSym t.2.2.toNat):=by unfold incD;rw[if_neg h0]
  have h1:=wt_foldD G l (inc a (dsSym t.2.2.toNat)) (by rw[inc_len,hl]) (inc_pos hp _)
  rw[List.foldl_cons,e,h1,wt_inc G hp (by omega)]
  show _=_+((if t.2.1=0 then 0 else _)+sumD G l)
  rw[if_neg h0]
  omega
theorem fold_set:∀(l:List Tk) (a:List Int),(∀t∈l,TkOk t)→(l.foldl incS a).set 256 1=l.foldl incS (a.set 256 1)
 | [],_,_=>rfl
 | t::l,a,h=>by
  rw[List.foldl_cons,List.foldl_cons,fold_set l _ (fun u hu=>h u (List.mem_cons_of_mem _ hu))]
  unfold incS
  rw[inc_set 1 (sym_ok (h t (List.mem_cons_self ..))).2]
theorem wt_zero (F:Nat→Nat) (n:Nat):wt F (List.replicate n 0)=0:=by
 unfold wt
 rw[Ct.sg_same (h:=fun _=>0) (fun i hi=>by
  rw[List.length_replicate] at hi
  rw[List.getD_eq_getElem?_getD,List.getElem?_replicate,if_pos hi]
  show (0:Int).toNat*F i=0
  rw[show (0:Int).toNat=0 from rfl,Nat.zero_mul]),Ct.sg_zero]
theorem rep_pos (n:Nat):∀i,0≤(List.replicate n (0:Int)).getD i 0:=fun i=>by
 rw[List.getD_eq_getElem?_getD,List.getElem?_replicate]
 split<;>decide
theorem wt_oft (F:Nat→Nat) (l:List Tk) (h:∀t∈l,TkOk t):wt F (oftS l)=F 256+sumS F l:=by
 unfold oftS cntS
 have e:(List.replicate 286 (0:Int)).set 256 1=inc (List.replicate 286 0) 256:=rfl
 rw[fold_set l _ h,e,wt_foldS F l _ h (by rw[inc_len,List.length_replicate]) (inc_pos (rep_pos 286) _),wt_inc F (rep_pos 286) (by rw[List.length_replicate];omega),wt_zero]
 omega
theorem wt_cnt (G:Nat→Nat) (l:List Tk):wt G (cntD l)=sumD G l:=by
 unfold cntD
 rw[wt_foldD G l _ (by rw[List.length_replicate]) (rep_pos 30),wt_zero]
 omega
theorem sumS_one:∀l:List Tk,sumS (fun _=>1) l=l.length
 | []=>rfl
 | t::l=>by
  show 1+sumS _ l=l.length+1
  rw[sumS_one l]
  omega
theorem tot9_wt (a:List Int):Ct.tot9 a=wt (fun _=>1) a:=by
 unfold Ct.tot9 wt
 exact Ct.sg_same (fun i _=>by rw[Nat.mul_one])
def again (l:List Tk):Nat:=sumD (fun _=>1) l
theorem again_le:∀l:List Tk,again l≤l.length
 | []=>Nat.le_refl _
 | t::l=>by
  have:=again_le l
  show (if t.2.1=0 then 0 else 1)+again l≤l.length+1
  split<;>omega
theorem sz_toks {LS LD:List Int}:∀{l:List Tk},(∀t∈l,TkOk t)→sz (toks LS LD l)≤sumS (fun i=>(LS.getD i 0).toNat) l+sumD (fun i=>(LD.getD i 0).toNat) l+18*again l
 | [],_=>Nat.zero_le _
 | t::l,h=>by
  have ih:=sz_toks (LS:=LS) (LD:=LD) (fun u hu=>h u (List.mem_cons_of_mem _ hu))
  have e:toks LS LD (t::l)=tok LS LD t++toks LS LD l:=by simp[toks]
  rw[e,sz_app]
  show _≤(_+sumS _ l)+((if t.2.1=0 then 0 else _)+sumD _ l)+18*((if t.2.1=0 then 0 else 1)+again l)
  by_cases h0:t.2.1=0
  · have es:sym t=t.1.toNat:=by unfold sym;rw[if_pos h0]
    have et:sz (tok LS LD t)=(LS.getD (sym t) 0).toNat:=by
     unfold tok
     rw[if_pos h0,es]
     rfl
    rw[if_pos h0,if_pos h0,et]
    dsimp only
    omega
  have es:sym t=257+szSym t.2.1.toNat:=by unfold sym;rw[if_neg h0]
  have h5:=(szN_all _ (szSym_lt t.2.1.toNat)).2.2
  have h13:=(dsN_all _ (dsSym_lt t.2.2.toNat)).2.2
  have et:sz (tok LS LD t)=(LS.getD (sym t) 0).toNat+((szN (szSym t.2.1.toNat)).2+((LD.getD (dsSym t.2.2.toNat) 0).toNat+(dsN (dsSym t.2.2.toNat)).2)):=by
   unfold tok
   rw[if_neg h0,es]
   rfl
  rw[if_neg h0,if_neg h0,et]
  dsimp only
  omega
theorem sz_body {LS LD:List Int} {l:List Tk} (h:∀t∈l,TkOk t):sz (body LS LD l)≤wt (fun i=>(LS.getD i 0).toNat) (oftS l)+wt (fun i=>(LD.getD i 0).toNat) (cntD l)+18*again l:=by
 have h1:=sz_toks (LS:=LS) (LD:=LD) h
 unfold body
 rw[sz_app,wt_oft _ l h,wt_cnt]
 show _+((LS.getD 256 0).toNat+0)≤_
 omega
theorem wt_lens (zs:List Int) (f:Nat→Nat):wt (fun i=>((lens zs.length f).getD i 0).toNat) zs=Ct.bits zs f:=by
 unfold wt Ct.bits
 exact Ct.sg_same (fun i hi=>by
  show (zs.getD i 0).toNat*((lens zs.length f).getD i 0).toNat=_
  rw[lens_get hi]
  rfl)
structure Small (l:List Tk):Prop where
 ok:∀t∈l,TkOk t
 few:l.length+2*again l≤5000
theorem wtS_le {l:List Tk} (h:Small l) {LS:List Int} (hf:FitL 15 (oftS l) LS):wt (fun i=>(LS.getD i 0).toNat) (oftS l)≤9*(l.length+1)+(if l.length+1<2584 then 0 else 7722):=by
 obtain⟨hb,f,hF,rfl⟩:=hf
 obtain⟨h1,_,_,h4,_,_⟩:=fitB_parts hb
 have ht:Ct.tot9 (oftS l)=l.length+1:=by rw[tot9_wt,wt_oft _ l h.ok,sumS_one];omega
 have hlen:=oftS_len l
 rw[wt_lens]
 split
 · rename_i hs
   have:=Ct.bits_flat (Ct.Fits.few hF (by rw[ht];exact hs)) (c:=9) (by omega) (by omega) (by rw[hlen];decide)
   omega
 have:=h.few
 have h9:=Ct.Fits.bits hF (fun i hi=>(h4 i hi).1) h1 (by rw[ht];omega)
 rw[ht,hlen] at h9
 omega
theorem wtD_le {l:List Tk} (h:Small l) {LD:List Int} (hf:FitL 15 (cntD l) LD):wt (fun i=>(LD.getD i 0).toNat) (cntD l)≤5*again l:=by
 obtain⟨hb,f,hF,rfl⟩:=hf
 have ht:Ct.tot9 (cntD l)=again l:=by rw[tot9_wt,wt_cnt];rfl
 have hlen:=cntD_len l
 have h1:=h.few
 have h2:=again_le l
 rw[wt_lens]
 have:=Ct.bits_flat (Ct.Fits.few hF (by rw[ht];omega)) (c:=5) (by omega) (by omega) (by rw[hlen];decide)
 omega
theorem sz_threes:∀l:List Int,sz (threes l)=3*l.length
 | []=>rfl
 | z::l=>by
  show (3:Int).toNat+sz (threes l)=3*(l.length+1)
  rw[sz_threes l,show (3:Int).toNat=3 from rfl]
  omega
theorem sz_runBits {BY:List Int} (hB:∀i,BY.getD i 0≤7):∀{R:List Tk},(∀t∈R,RunOk t)→sz (runBits BY R)≤14*R.length
 | [],_=>Nat.zero_le _
 | t::R,h=>by
  have ih:=sz_runBits hB (fun u hu=>h u (List.mem_cons_of_mem _ hu))
  have e:runBits BY (t::R)=[Cp.bit BY t.1.toNat,t.2]++runBits BY R:=by simp[runBits]
  have h1:=hB t.1.toNat
  obtain⟨_,_,_,_,h2⟩:=h t (List.mem_cons_self ..)
  rw[e,sz_app,List.length_cons]
  show (BY.getD t.1.toNat 0).toNat+(t.2.2.toNat+0)+_≤_
  omega
theorem bits_ok_runs {BY:List Int} (hB:Cd.okB BY=true) (hl:BY.length=19) {R:List Tk} (h:∀t∈R,RunOk t):∀p∈runBits BY R,Bp.Ok p:=fun p hp=>by
 unfold runBits at hp
 obtain⟨t,ht,hp⟩:=List.mem_flatMap.1 hp
 obtain⟨h0,h18,h2,h3,h4⟩:=h t ht
 rcases List.mem_cons.1 hp with rfl|hp
 · exact bit_ok hB (by omega)
 obtain rfl:=List.mem_singleton.1 hp
 refine⟨by omega,by omega,h2,?_⟩
 rcases h4 with⟨e,e2⟩|⟨e,e2⟩|⟨e,e2⟩|⟨e,e2⟩<;>rw[e]<;>simp<;>omega
theorem toks_ok {LS LD:List Int} (h1:Cd.okB LS=true) (h2:Cd.okB LD=true) (l1:286≤LS.length) (l2:30≤LD.length) {l:List Tk} (h:∀t∈l,TkOk t):∀p∈body LS LD l,Bp.Ok p:=fun p hp=>by
 unfold body at hp
 rcases List.mem_append.1 hp with hp|hp
 · unfold toks at hp
   obtain⟨t,ht,hp⟩:=List.mem_flatMap.1 hp
   have hs:=(sym_ok (h t ht)).1
   unfold tok at hp
   rcases h t ht with⟨h0,h3,h4⟩|⟨h3,h4,h5,h6⟩
   · rw[if_pos h0] at hp
     obtain rfl:=List.mem_singleton.1 hp
     exact bit_ok h1 (by omega)
   rw[if_neg (by omega)] at hp
   have hd:=dsSym_lt t.2.2.toNat
   have hz:=szSym_lt t.2.1.toNat
   rcases List.mem_cons.1 hp with rfl|hp
   · exact bit_ok h1 (by omega)
   rcases List.mem_cons.1 hp with rfl|hp
   · obtain⟨q1,q2⟩:=szBit_all t.2.1.toNat (by omega) (by omega)
     have q3:=(szN_all _ hz).2.2
     exact⟨by show (0:Int)≤((_:Nat):Int);omega,by show ((_:Nat):Int)≤24;omega,by show (0:Int)≤((_:Nat):Int);omega,q2⟩
   rcases List.mem_cons.1 hp with rfl|hp
   · exact bit_ok h2 (by omega)
   obtain rfl:=List.mem_singleton.1 hp
   obtain⟨q1,q2⟩:=dsBit_all (x:=t.2.2.toNat) (by omega) (by omega)
   have q3:=(dsN_all _ hd).2.2
   exact⟨by show (0:Int)≤((_:Nat):Int);omega,by show ((_:Nat):Int)≤24;omega,by show (0:Int)≤((_:Nat):Int);omega,q2⟩
 obtain rfl:=List.mem_singleton.1 hp
 exact bit_ok h1 (by omega)
theorem own_fits {l:List Tk} (h:Small l) {LS LD BY:List Int} (ho:IsOwn l LS LD BY) {v:Int} (hv:v=1∨v=2):Bp.Fits ([(1,1),(v,2)]++own LS LD BY l) ([(1,1),(v,2)]++own LS LD BY l).length:=by
 obtain⟨f1,f2,f3⟩:=ho
 have hLS:LS.length=286:=by rw[f1.len,oftS_len]
 have hLD:LD.length=30:=by rw[f2.len,cntD_len]
 have hBY:BY.length=19:=by rw[f3.len,cnt3_len]
 have hR:∀t∈runs (joined LS LD),RunOk t:=runs_ok (joined_all (f1.all (by omega)) (f2.all (by omega)))
 have hRl:=runs_len (joined LS LD)
 have hJ:=joined_len (LS:=LS) (LD:=LD)
 have hBm:∀i,BY.getD i 0≤7:=fun i=>by
  by_cases hi:i<(cnt3 (runs (joined LS LD))).length
  · exact (f3.le hi).2.1
  rw[List.getD_eq_getElem?_getD,List.getElem?_eq_none (by rw[f3.len];omega)]
  decide
 have hu1:=used_le LS 257
 have hu2:=used_le LD 1
 have hu3:=used_le (ordered BY) 4
 rw[ordered_len] at hu3
 have hk:((ordered BY).take (used (ordered BY) 4)).length=used (ordered BY) 4:=by rw[List.length_take,ordered_len];omega
 refine fits_of (fun p hp=>?_) ?_
 · rcases List.mem_append.1 hp with hp|hp
   · rcases List.mem_cons.1 hp with rfl|hp
     · exact⟨by decide,by decide,by decide,by decide⟩
     obtain rfl:=List.mem_singleton.1 hp
     rcases hv with rfl|rfl<;>exact⟨by decide,by decide,by decide,by decide⟩
   unfold own head at hp
   rcases List.mem_append.1 hp with hp|hp
   · rcases List.mem_append.1 hp with hp|hp
     · rcases List.mem_append.1 hp with hp|hp
       · unfold top at hp
         rcases List.mem_cons.1 hp with rfl|hp
         · refine⟨by show (0:Int)≤5;decide,by show (5:Int)≤24;decide,by dsimp only;omega,?_⟩
           show (((used LS 257-257:Nat):Int)).toNat<32
           omega
         rcases List.mem_cons.1 hp with rfl|hp
         · refine⟨by show (0:Int)≤5;decide,by show (5:Int)≤24;decide,by dsimp only;omega,?_⟩
           show (((used LD 1-1:Nat):Int)).toNat<32
           omega
         obtain rfl:=List.mem_singleton.1 hp
         refine⟨by show (0:Int)≤4;decide,by show (4:Int)≤24;decide,by dsimp only;omega,?_⟩
         show (((used (ordered BY) 4-4:Nat):Int)).toNat<16
         omega
       unfold threes at hp
       obtain⟨z,hz,rfl⟩:=List.mem_map.1 hp
       have hz2:=List.mem_of_mem_take hz
       unfold ordered at hz2
       obtain⟨i,_,rfl⟩:=List.mem_map.1 hz2
       have h7:=hBm i
       have h0:=(f3.all (by omega) i).1
       refine⟨by show (0:Int)≤3;decide,by show (3:Int)≤24;decide,h0,?_⟩
       show (BY.getD i 0).toNat<8
       omega
     exact bits_ok_runs f3.ok hBY hR p hp
   exact toks_ok f1.ok f2.ok (by omega) (by omega) h.ok p hp
 have s1:=sz_runBits hBm hR
 have s2:=sz_body (LS:=LS) (LD:=LD) h.ok
 have s3:=wtS_le h f1
 have s4:=wtD_le h f2
 have s5:=sz_threes ((ordered BY).take (used (ordered BY) 4))
 have hf:=h.few
 rw[sz_app]
 unfold own head
 rw[sz_app,sz_app,sz_app]
 have e1:sz [((1:Int),(1:Int)),(v,2)]=3:=rfl
 have e2:sz (top LS LD BY)=14:=rfl
 rw[e1,e2]
 split at s3<;>omega
theorem flat_fits {l:List Tk} (h:Small l) {LS LD:List Int} (h1:Cd.okB LS=true) (h2:Cd.okB LD=true) (l1:286≤LS.length) (l2:30≤LD.length) (m1:∀i,LS.getD i 0≤9) (m2:∀i,LD.getD i 0≤5):Bp.Fits ([(1,1),(1,2)]++body LS LD l) ([(1,1),(1,2)]++body LS LD l).length:=by
 refine fits_of (fun p hp=>?_) ?_
 · rcases List.mem_append.1 hp with hp|hp
   · rcases List.mem_cons.1 hp with rfl|hp
     · exact⟨by decide,by decide,by decide,by decide⟩
     obtain rfl:=List.mem_singleton.1 hp
     exact⟨by decide,by decide,by decide,by decide⟩
   exact toks_ok h1 h2 l1 l2 h.ok p hp
 have s2:=sz_toks (LS:=LS) (LD:=LD) h.ok
 have a1:∀l:List Tk,sumS (fun i=>(LS.getD i 0).toNat) l≤9*l.length:=fun l=>by
  induction l with
  | nil=>exact Nat.zero_le _
  | cons t l ih=>
   have:=m1 (sym t)
   show (LS.getD (sym t) 0).toNat+sumS _ l≤9*(l.length+1)
   omega
 have a2:∀l:List Tk,sumD (fun i=>(LD.getD i 0).toNat) l≤5*again l:=fun l=>by
  induction l with
  | nil=>exact Nat.zero_le _
  | cons t l ih=>
   have:=m2 (dsSym t.2.2.toNat)
   show (if t.2.1=0 then 0 else (LD.getD (dsSym t.2.2.toNat) 0).toNat)+sumD _ l≤5*((if t.2.1=0 then 0 else 1)+again l)
   split<;>omega
 have b1:=a1 l
 have b2:=a2 l
 have b3:=m1 256
 have hf:=h.few
 unfold body
 rw[sz_app,sz_app]
 have e1:sz [((1:Int),(1:Int)),(1,2)]=3:=rfl
 have e2:sz [Cp.bit LS 256]=(LS.getD 256 0).toNat:=by show _+0=_;rfl
 rw[e1,e2]
 omega
end Df
namespace Ty
theorem tok_ok {s:ByteArray} (hs:s.size≤5000) {A:Nat} (hA:A<s.size):Df.TkOk (tok s A):=by
 unfold tok
 split
 · rename_i h3
   have h1:=bst_le s A A
   rcases bst_is s A A (Nat.le_refl _) with h0|⟨h4,h5,_⟩
   · omega
   right
   refine⟨?_,?_,?_,?_⟩<;>dsimp only<;>omega
 have:=b_lt s A
 left
 refine⟨rfl,?_,?_⟩<;>dsimp only<;>omega
theorem all_small {s:ByteArray} (hs:s.size≤5000):∀f A,(∀t∈all s f A,Df.TkOk t)∧(all s f A).length+2*Df.again (all s f A)≤s.size-A
 | 0,A=>⟨fun t ht=>by simp[all] at ht,Nat.zero_le _⟩
 | f+1,A=>by
  rw[all]
  split
  · rename_i hA
    obtain⟨h1,h2⟩:=all_small hs f (A+adv s A)
    have h3:=adv_in hA
    refine⟨fun t ht=>?_,?_⟩
    · rcases List.mem_cons.1 ht with rfl|ht
      · exact tok_ok hs hA
      exact h1 t ht
    rw[List.length_cons]
    show _+1+2*((if (tok s A).2.1=0 then 0 else 1)+Df.again (all s f (A+adv s A)))≤_
    by_cases h5:3≤(bst s A A).1
    · have e:adv s A=(bst s A A).1:=by unfold adv;rw[if_pos h5]
      split<;>omega
    have e1:adv s A=1:=by unfold adv;rw[if_neg h5]
    have e2:(tok s A).2.1=0:=by unfold tok;rw[if_neg h5]
    rw[if_pos e2]
    omega
  exact⟨fun t ht=>by simp at ht,Nat.zero_le _⟩
theorem small {s:ByteArray} (hs:s.size≤5000):Df.Small (from_ s 0):=by
 obtain⟨h1,h2⟩:=all_small hs (s.size-0) 0
 exact⟨h1,by unfold from_;omega⟩
end Ty
namespace Df
theorem pack_same {hi:Bool} {f g:Nat→Nat}:∀{n:Nat},(∀i,i<n→f i=g i)→Bp.pack hi f n=Bp.pack hi g n
 | 0,_=>rfl
 | n+1,h=>by
  show List.set _ _ _=List.set _ _ _
  rw[pack_same (n:=n) (fun i hi=>h i (by omega)),h n (by omega)]
def val (f:Nat→Nat):Nat→Nat
 | 0=>0
 | k+1=>val f k+f k*2^k
theorem set_last (o:List Nat) (x y:Nat):(o++[x]).set o.length y=o++[y]:=by
 rw[List.set_append_right _ _ (Nat.le_refl _),Nat.sub_self]
 rfl
theorem getD_last (o:List Nat) (x:Nat):(o++[x]).getD o.length 0=x:=by
 rw[List.getD_eq_getElem?_getD,List.getElem?_append_right (Nat.le_refl _),Nat.sub_self]
 rfl
theorem pack_succ (hi:Bool) (f:Nat→Nat) (n:Nat):Bp.pack hi f (n+1)=(Bp.room n (Bp.pack hi f n)).set (n / 8) ((Bp.room n (Bp.pack hi f n)).getD (n / 8) 0+f n*2^Bg.spot hi n):=rfl
theorem pack_more (f:Nat→Nat) {n:Nat} (h:n%8=0):∀k,k<8→Bp.pack false f (n+(k+1))=Bp.pack false f n++[val (fun j=>f (n+j)) (k+1)]
 | 0,_=>by
  have hl:=Bp.pack_len false f n
  have e:n / 8=(Bp.pack false f n).length:=by omega
  show List.set _ _ _=_
  rw[Bp.room,if_pos h,e,getD_last,set_last,Bg.spot,if_neg (by decide),h]
  show _++[0+f n*1]=_++[0+f n*1]
  rfl
 | k+1,hk=>by
  have ih:=pack_more f h k (by omega)
  have hl:=Bp.pack_len false f n
  have e:(n+(k+1)) / 8=(Bp.pack false f n).length:=by omega
  have e2:(n+(k+1))%8=k+1:=by omega
  show Bp.pack false f ((n+(k+1))+1)=_
  rw[pack_succ,Bp.room,if_neg (by omega),ih,e,getD_last,set_last,Bg.spot,if_neg (by decide),e2]
  rfl
def packL (l:List Nat):List Nat:=Bp.pack false (fun i=>l.getD i 0) l.length
theorem packL_more (B C:List Nat) (h:B.length%8=0) (hC:C.length=8):packL (B++C)=packL B++[val (fun j=>C.getD j 0) 8]:=by
 unfold packL
 rw[List.length_append,hC,pack_more _ h 7 (by omega)]
 congr 1
 · exact pack_same (fun i hi=>by rw[List.getD_eq_getElem?_getD,List.getD_eq_getElem?_getD,List.getElem?_append_left hi])
 congr 1
 congr 1
 funext j
 rw[List.getD_eq_getElem?_getD,List.getD_eq_getElem?_getD,List.getElem?_append_right (by omega),Nat.add_sub_cancel_left]
theorem packL_all:∀(Cs:List (List Nat)) (B:List Nat),B.length%8=0→(∀C∈Cs,C.length=8)→packL (B++Cs.flatten)=packL B++Cs.map (fun C=>val (fun j=>C.getD j 0) 8)
 | [],B,_,_=>by simp
 | C::Cs,B,h,hC=>by
  have h8:=hC C (List.mem_cons_self ..)
  rw[List.flatten_cons,←List.append_assoc,packL_all Cs (B++C) (by rw[List.length_append];omega) (fun D hD=>hC D (List.mem_cons_of_mem _ hD)),packL_more B C h h8,List.map_cons,List.append_assoc]
  rfl
def blk (v:Nat):List Nat:=(List.range 8).map (fun k=>v / 2^k%2)
theorem blk_len (v:Nat):(blk v).length=8:=by simp[blk]
theorem val_mod (v:Nat):∀k,val (fun j=>v / 2^j%2) k=v%2^k
 | 0=>by simp[val,Nat.mod_one]
 | k+1=>by
  show val _ k+v / 2^k%2*2^k=_
  rw[val_mod v k,Nat.mod_pow_succ,Nat.mul_comm]
theorem val_same {f g:Nat→Nat}:∀{k:Nat},(∀j,j<k→f j=g j)→val f k=val g k
 | 0,_=>rfl
 | k+1,h=>by
  show val f k+f k*2^k=val g k+g k*2^k
  rw[val_same (k:=k) (fun j hj=>h j (by omega)),h k (by omega)]
theorem val_blk (v:Nat):val (fun j=>(blk v).getD j 0) 8=v%256:=by
 have h:=val_mod v 8
 rw[show (2:Nat)^8=256 from rfl] at h
 rw[←h]
 refine val_same (fun j hj=>?_)
 unfold blk
 rw[List.getD_eq_getElem?_getD,List.getElem?_map,List.getElem?_range hj]
 rfl
theorem blk_two (v:Nat):(List.range 16).map (fun k=>v / 2^k%2)=blk v++blk (v / 256):=by
 rw[show (16:Nat)=8+8 from rfl,List.range_add,List.map_append,List.map_map]
 unfold blk
 congr 1
 refine List.map_congr_left (fun k _=>?_)
 show v / 2^(8+k)%2=v / 256 / 2^k%2
 rw[Nat.pow_add,←Nat.div_div_eq_div_mul]
def plainBits (s:List Nat):List (Int×Int):=[(1,1),(0,2),(0,5),((s.length:Int),16),(((65535-s.length:Nat):Int),16)]++s.map (fun (b:Nat)=>((b:Int),(8:Int)))
theorem bitsOf_app (l m:List (Int×Int)):Bp.bitsOf false (l++m)=Bp.bitsOf false l++Bp.bitsOf false m:=by simp[Bp.bitsOf]
theorem bitsOf_bytes:∀s:List Nat,Bp.bitsOf false (s.map (fun (b:Nat)=>((b:Int),(8:Int))))=(s.map blk).flatten
 | []=>rfl
 | b::s=>by
  have ih:=bitsOf_bytes s
  have e:Bp.bitsOf false ((b::s).map (fun (b:Nat)=>((b:Int),(8:Int))))=blk b++Bp.bitsOf false (s.map (fun (b:Nat)=>((b:Int),(8:Int)))):=by
   show Bp.bitsOf false ([((b:Int),(8:Int))]++s.map (fun (b:Nat)=>((b:Int),(8:Int))))=_
   rw[bitsOf_app]
   congr 1
  rw[e,ih]
  rfl
theorem bitsOf_len:∀l:List (Int×Int),(Bp.bitsOf false l).length=Bp.tot l l.length
 | []=>rfl
 | p::l=>by
  have ih:=bitsOf_len l
  show ((p::l).flatMap _).length=_
  rw[List.flatMap_cons,List.length_append,List.length_map,List.length_range]
  show _+(Bp.bitsOf false l).length=_
  rw[ih]
  unfold Bp.tot
  rw[List.length_cons,List.take_succ_cons,List.map_cons,List.sum_cons]
theorem text_packL (l:List (Int×Int)):Bp.text false l=packL (Bp.bitsOf false l):=by
 unfold Bp.text packL
 rw[bitsOf_len]
 rfl
def stored (s:List Nat):List Nat:=[1,s.length%256,s.length / 256%256,(65535-s.length)%256,(65535-s.length) / 256%256]++s
theorem plain_text (s:List Nat) (hs:∀b∈s,b<256):Bp.text false (plainBits s)=stored s:=by
 have e:Bp.bitsOf false (plainBits s)=([blk 1,blk s.length,blk (s.length / 256),blk (65535-s.length),blk ((65535-s.length) / 256)]++s.map blk).flatten:=by
  unfold plainBits
  rw[bitsOf_app,bitsOf_bytes,List.flatten_append]
  congr 1
  have e1:Bp.bitsOf false [((1:Int),(1:Int)),(0,2),(0,5),((s.length:Int),16),(((65535-s.length:Nat):Int),16)]=[1,0,0,0,0,0,0,0]++((List.range 16).map (fun k=>s.length / 2^k%2)++((List.range 16).map (fun k=>(65535-s.length) / 2^k%2))):=by
   unfold Bp.bitsOf
   rw[List.flatMap_cons,List.flatMap_cons,List.flatMap_cons,List.flatMap_cons,List.flatMap_cons,List.flatMap_nil,List.append_nil,←List.append_assoc,←List.append_assoc,←List.append_assoc]
   rw[List.append_assoc]
   rfl
  rw[e1,blk_two,blk_two]
  have e2:([1,0,0,0,0,0,0,0]:List Nat)=blk 1:=by decide
  rw[e2]
  simp[List.flatten_cons]
 rw[text_packL,e]
 have h:=packL_all ([blk 1,blk s.length,blk (s.length / 256),blk (65535-s.length),blk ((65535-s.length) / 256)]++s.map blk) [] rfl (fun C hC=>by
  rcases List.mem_append.1 hC with hC|hC
  · simp only[List.mem_cons,List.not_mem_nil,or_false] at hC
    rcases hC with rfl|rfl|rfl|rfl|rfl<;>exact blk_len _
  obtain⟨b,_,rfl⟩:=List.mem_map.1 hC
  exact blk_len b)
 rw[List.nil_append] at h
 rw[h]
 unfold stored
 show []++_=_
 rw[List.nil_append,List.map_append,List.map_map]
 congr 1
 · simp only[List.map_cons,List.map_nil,val_blk]
 refine (List.map_congr_left (g:=id) (fun b hb=>?_)).trans (List.map_id s)
 show val (fun j=>(blk b).getD j 0) 8=b
 rw[val_blk,Nat.mod_eq_of_lt (hs b hb)]
theorem plain_fits {s:List Nat} (hs:∀b∈s,b<256) (hl:s.length≤5000):Bp.Fits (plainBits s) (plainBits s).length:=by
 refine fits_of (fun p hp=>?_) ?_
 · unfold plainBits at hp
   rcases List.mem_append.1 hp with hp|hp
   · simp only[List.mem_cons,List.not_mem_nil,or_false] at hp
     rcases hp with rfl|rfl|rfl|rfl|rfl
     · exact⟨by decide,by decide,by decide,by decide⟩
     · exact⟨by decide,by decide,by decide,by decide⟩
     · exact⟨by decide,by decide,by decide,by decide⟩
     · exact⟨by show (0:Int)≤16;decide,by show (16:Int)≤24;decide,by dsimp only;omega,by show ((s.length:Int)).toNat<65536;omega⟩
     exact⟨by show (0:Int)≤16;decide,by show (16:Int)≤24;decide,by dsimp only;omega,by show (((65535-s.length:Nat):Int)).toNat<65536;omega⟩
   obtain⟨b,hb,rfl⟩:=List.mem_map.1 hp
   have:=hs b hb
   exact⟨by show (0:Int)≤8;decide,by show (8:Int)≤24;decide,by dsimp only;omega,by show ((b:Int)).toNat<256;omega⟩
 unfold plainBits
 rw[sz_app]
 have e:∀s:List Nat,sz (s.map (fun (b:Nat)=>((b:Int),(8:Int))))=8*s.length:=fun s=>by
  induction s with
  | nil=>rfl
  | cons b s ih=>
   show (8:Int).toNat+sz (s.map _)=8*(s.length+1)
   rw[ih,show (8:Int).toNat=8 from rfl]
   omega
 rw[e]
 show 40+_≤_
 omega
def nums (s:ByteArray):List Nat:=s.data.toList.map UInt8.toNat
theorem nums_len (s:ByteArray):(nums s).length=s.size:=by
 unfold nums
 rw[List.length_map,Array.length_toList]
 rfl
theorem nums_lt (s:ByteArray):∀b∈nums s,b<256:=fun b hb=>by
 unfold nums at hb
 obtain⟨c,_,rfl⟩:=List.mem_map.1 hb
 exact UInt8.toNat_lt c
def Packed (s:ByteArray) (k:Nat) (T:List Nat):Prop:=
 if k=0 then T=stored (nums s)
 else if k=1 then T=Bp.text false ([(1,1),(1,2)]++body fixS fixD (Ty.from_ s 0))
 else ∃LS LD BY,IsOwn (Ty.from_ s 0) LS LD BY∧T=Bp.text false ([(1,1),(2,2)]++own LS LD BY (Ty.from_ s 0))
theorem Packed.same {s:ByteArray} {k:Nat} {T T':List Nat} (h:Packed s k T) (h':Packed s k T'):T=T':=by
 unfold Packed at h h'
 split at h
 · rename_i c;rw[if_pos c] at h';exact h.trans h'.symm
 rename_i c
 rw[if_neg c] at h'
 split at h
 · rename_i d;rw[if_pos d] at h';exact h.trans h'.symm
 rename_i d
 rw[if_neg d] at h'
 obtain⟨_,_,_,g1,e1⟩:=h
 obtain⟨_,_,_,g2,e2⟩:=h'
 rw[e1,e2,g1.same g2]
def bytes (T:List Nat):ByteArray:=⟨(T.map UInt8.ofNat).toArray⟩
end Df
open Go.RowKit

theorem ints_cells {w:World} {b off:Nat} {l:List Int} (h:Ints w (some ⟨b,off,none⟩) l):∀i (hi:i<l.length),w.cell? ⟨b,off+i,none⟩=some (.int .i64 l[i]):=fun i hi=>by
 rcases h with e|⟨b',off',e,_,hc⟩
 · rw[e] at hi;simp at hi
 cases e;exact hc i hi
theorem Own3.toks {T:TypeId} {w:World} {B n:Nat} {v:Value} {l:List Tk} (h:Own3 T w B v n l):∃ao cap,v=.slice ao n cap∧Toks w ao l:=by
 have hl:=h.len
 rcases h.2 with⟨rfl,h0⟩|⟨g,cap,cur,rfl,_,hg,_,_,_,ht⟩
 · subst h0
   exact⟨none,0,rfl,.inl (List.eq_nil_of_length_eq_zero hl)⟩
 refine⟨some ⟨g,0,none⟩,cap,rfl,.inr ⟨g,0,rfl,(Array.getElem?_eq_some_iff.1 hg).1,fun i hi=>?_⟩⟩
 obtain⟨c1,c2,c3⟩:=tkCells_get l i hi
 rw[Nat.zero_add]
 exact⟨(World.ownsRow.cellAt h (i*3) (by omega)).trans c1,(World.ownsRow.cellAt h (i*3+1) (by omega)).trans c2,(World.ownsRow.cellAt h (i*3+2) (by omega)).trans c3⟩
def FitEndS (zs:List Int) (n:Nat) (m:Int) (w:World) (e:Ending) (w':World):Prop:=(∃b L,e=.returned (.slice (some ⟨b,0,none⟩) n n)∧Ints w' (some ⟨b,0,none⟩) L∧Df.FitL m zs L)∧Below w.heap.size w w'
theorem l3Fit_fitL (a:Option Addr) (n c:Nat) (l:List Int) (M:Nat) (w:World) (h:Ints w a l) (hn:l.length=n) (hM1:1≤M) (hM:M≤15) (hb:fitB l (M:Int)=true):
 Calls Tryz.prog 78 #[.slice a n c,.int .i64 (M:Int)] w (FitEndS l n (M:Int) w):=by
 refine (l3Fit_is a n c l M w h hn hM1 hM (Df.good_of hb)).mono ?_
 rintro e w' ⟨⟨b,f,rfl,hI,hF⟩,hB⟩
 refine⟨⟨b,_,rfl,hI,hb,f,hF,?_⟩,hB⟩
 rw[←hn]
 rfl
theorem l5Used_ints (b off L cap least:Nat) (l:List Int) (w:World) (h:Ints w (some ⟨b,off,none⟩) l) (hL:l.length=L) (hLb:L≤1000) (hle:least≤1000) (hl0:1≤least):
 Calls Tryz.prog 79 #[.slice (some ⟨b,off,none⟩) L cap,.int .i64 (least:Int)] w fun e w'=>e=.returned (.int .i64 ((Df.used l least:Nat):Int))∧Below w.heap.size w w':=
 (l5Used_any b off L cap least l w (ints_cells h) hL hLb hle hl0).mono (by
  rintro e w' ⟨h1,q,rfl⟩
  exact⟨h1,below_drewN _ _ _⟩)
theorem ints_take {w:World} {b:Nat} {l:List Int} (h:Ints w (some ⟨b,0,none⟩) l) (n:Nat):Ints w (some ⟨b,0,none⟩) (l.take n):=by
 rcases h with e|⟨b',off',e,hb,hc⟩
 · exact .inl (by rw[e];simp)
 cases e
 refine .inr ⟨b,0,rfl,hb,fun i hi=>?_⟩
 rw[List.length_take] at hi
 rw[List.getElem_take]
 exact hc i (by omega)
theorem oftS_fit {l:List Tk} (h:l.length≤5000):fitB (Df.oftS l) 15=true:=by
 refine Df.fitB_yes (by omega) (by omega) (by rw[Df.oftS_len];omega) (fun i _=>?_) (by rw[Df.oftS_len];decide)
 have:=Df.oftS_cnt l l.length (Nat.le_refl _) i
 rw[List.take_length] at this
 omega
theorem cntD_fit {l:List Tk} (h:l.length≤5000):fitB (Df.cntD l) 15=true:=by
 refine Df.fitB_yes (by omega) (by omega) (by rw[Df.cntD_len];omega) (fun i _=>?_) (by rw[Df.cntD_len];decide)
 have:=Df.cntD_cnt l l.length (Nat.le_refl _) i
 rw[List.take_length] at this
 omega
theorem cnt3_fit {R:List Tk} (h:R.length≤5000):fitB (Df.cnt3 R) 7=true:=by
 refine Df.fitB_yes (by omega) (by omega) (by rw[Df.cnt3_len];omega) (fun i _=>?_) (by rw[Df.cnt3_len];decide)
 have:=Df.cnt3_cnt R R.length (Nat.le_refl _) i
 rw[List.take_length] at this
 omega
set_option maxHeartbeats 2000000 in
theorem l4Order_any (w:World):
 Calls Tryz.prog 81 #[] w fun e w'=>e=.returned (.slice (some ⟨w.heap.size,0,none⟩) 19 19)∧Ints w' (some ⟨w.heap.size,0,none⟩) (Df.lord.map (fun (n:Nat)=>(n:Int)))∧Below w.heap.size w w':=by
 go_enter Tryz.func81,Tryz.ntmps81
 go_wp2_with fail
 go_ret
 exact⟨rfl,ints_arrD _ (Df.lord.map (fun (n:Nat)=>(n:Int))) _,(Below.refl _ _).alloc (Nat.le_refl _) _⟩
theorem wpList_appQ {ops:Array Oper} {rest:List Oper} {o:Oper} {a:Act} {w:World} {Q:Exit→Act→World→Prop} (hgd:o.guard=none) (s x:Operand)
 (ho:o.op=.call { callee:=.builtin .append,args:=#[s,x],argTypes:=#[39,39] })
 (base:Nat) (v:Value) (n:Nat) (l:List (Int×Int)) (hs:a.eval s=v) (hown:OwnP w base v n l) (B2:Nat) (ax:Option Addr) (m c:Nat) (ps:List (Int×Int)) (hx:a.eval x=.slice ax m c) (hsrc:OwnP w B2 (.slice ax m c) m ps) (h0:0<m) (hn:n+m≤2000000) (hb:base≤w.heap.size)
 (h:∀g cap w',OwnP w' base (.slice (some ⟨g,0,none⟩) (n+m) cap) (n+m) (l++ps)→Below base w w'→wpList Tryz.prog ops Q rest (a.put o.dst (.slice (some ⟨g,0,none⟩) (n+m) cap)) w'):
 wpList Tryz.prog ops Q (o::rest) a w:=by
 obtain⟨i0,hi0,hz0,hz1,hz2⟩:=info_parts info_bit
 have hl:=hsrc.len
 obtain⟨g2,rfl⟩:∃g2,ax=some ⟨g2,0,none⟩:=by
  rcases hsrc.2 with⟨e,e0⟩|⟨g,cap,cur,e,_⟩
  · omega
  cases e;exact⟨g,rfl⟩
 refine wpList_append_lies _ hgd s x _ ho base 38 i0 (.agg #[.int .i64 0,.int .i64 0]) 2 16 Tryz.underlying39 hi0 hz0 hz1 hz2 rfl (by decide) v n (cellsOf l) hs hown ⟨g2,0,none⟩ m c (cellsOf ps) hx (by rw[cellsOf_len,hl]) (fun j u hu=>?_) (cellsOf_one ps) h0 (by unfold maxLen;omega) (by omega) hb _ rfl ?_
 · have hj:j<m*2:=by
    rcases Nat.lt_or_ge j (cellsOf ps).length with h|h
    · rw[cellsOf_len,hl] at h;exact h
    rw[List.getElem?_eq_none h] at hu;cases hu
   have:=World.ownsRow.cellAt hsrc j hj
   rw[hu] at this
   have hadd:(⟨g2,0,none⟩:Addr).add j=⟨g2,j,none⟩:=by unfold Addr.add;split<;>simp_all
   rw[hadd]
   exact this
 intro g cap w' hown' hg _ _
 rw[cellsOf_app] at hown'
 exact h g cap w' hown' ((Below.refl base w).grown hg hb (fun k hk=>(World.ownsRow.lt (show World.ownsRow _ _ _ _ _ _ _ from hown) k hk).1))
theorem lord_lt:∀k,k<19→Df.lord.getD k 0<19:=by decide
theorem lord_map {k:Nat} (hk:k<19) (h:k<(Df.lord.map (fun (n:Nat)=>(n:Int))).length):(Df.lord.map (fun (n:Nat)=>(n:Int)))[k]=((Df.lord.getD k 0:Nat):Int):=by
 rw[List.getElem_map,List.getD_eq_getElem?_getD,List.getElem?_eq_getElem (show k<Df.lord.length from hk)]
 rfl
theorem ordered_take (BY:List Int) {k:Nat} (hk:k<19):(Df.ordered BY).take (k+1)=(Df.ordered BY).take k++[BY.getD (Df.lord.getD k 0) 0]:=by
 rw[List.take_succ_eq_append_getElem (by rw[Df.ordered_len];exact hk)]
 congr 2
 unfold Df.ordered
 rw[List.getElem_map,List.getD_eq_getElem?_getD (l:=Df.lord),List.getElem?_eq_getElem (show k<Df.lord.length from hk)]
 rfl
theorem getD_cell {w:World} {b:Nat} {l:List Int} (h:Ints w (some ⟨b,0,none⟩) l) {i:Nat} (hi:i<l.length):w.cell? ⟨b,i,none⟩=some (.int .i64 (l.getD i 0)):=by
 have:=ints_cells h i hi
 rw[Nat.zero_add] at this
 rw[this,List.getD_eq_getElem?_getD,List.getElem?_eq_getElem hi]
 rfl

structure Gr (B:Nat) (v v':Value) (w w':World):Prop where
 os:w'.os=w.os
 tape:w'.tape=w.tape
 output:w'.output=w.output
 size:w.heap.size≤w'.heap.size
 block:∀k,k<w.heap.size→k≠B→v.ownBlock≠some k→w'.heap[k]?=w.heap[k]?
 own:∀k,v'.ownBlock=some k→(v.ownBlock=some k∨w.heap.size≤k)∧k<w'.heap.size
theorem Gr.trans {B:Nat} {v v' v'':Value} {a b c:World} (h:Gr B v v' a b) (k:Gr B v' v'' b c):Gr B v v'' a c:=
 ⟨k.os.trans h.os,k.tape.trans h.tape,k.output.trans h.output,Nat.le_trans h.size k.size,
  fun i hi h1 h2=>(k.block i (Nat.lt_of_lt_of_le hi h.size) h1 (fun e=>by
   rcases (h.own i e).1 with e2|e2
   · exact h2 e2
   omega)).trans (h.block i hi h1 h2),
  fun i e=>by
   obtain⟨h1,h2⟩:=k.own i e
   refine⟨?_,h2⟩
   rcases h1 with h1|h1
   · exact (h.own i h1).1
   exact .inr (Nat.le_trans h.size h1)⟩
theorem Gr.cell {B:Nat} {v v':Value} {w w':World} (h:Gr B v v' w w') {a:Addr} (h0:a.block<w.heap.size) (h1:a.block≠B) (h2:v.ownBlock≠some a.block):w'.cell? a=w.cell? a:=World.cell?_of_block (w:=w) (h.block a.block h0 h1 h2)
theorem Gr.far {B g:Nat} {v v':Value} {w w':World} (h:Gr B v v' w w') (h0:g<w.heap.size) (h2:v.ownBlock≠some g):v'.ownBlock≠some g:=fun e=>by
 rcases (h.own g e).1 with e|e
 · exact h2 e
 omega
def OwnX (w:World) (B:Nat) (v:Value) (n:Nat) (l:List (Int×Int)):Prop:=OwnP w 0 v n l∧v.ownBlock≠some B
theorem OwnX.below {w w':World} {B n:Nat} {v:Value} {l:List (Int×Int)} (h:OwnX w B v n l) (b:Below w.heap.size w w'):OwnX w' B v n l:=⟨OwnP.below h.1 b,h.2⟩
theorem ownP_set {w:World} {B n:Nat} {v u:Value} {l:List (Int×Int)} (h:OwnP w 0 v n l) (hv:v.ownBlock≠some B) (i:Nat):OwnX (w.setCell ⟨B,i,none⟩ u) B v n l:=
 ⟨World.ownsRow.kept (show World.ownsRow _ _ _ _ _ _ _ from h) (w':=w.setCell ⟨B,i,none⟩ u) (row:=some B) ⟨rfl,rfl,rfl,by rw[World.size_setCell];exact Nat.le_refl _,fun k _ hk=>Below.heap_setCell w ⟨B,i,none⟩ u k (fun e=>hk (by rw[e]))⟩ (.inr hv),hv⟩
def PkDone (B:Nat) (x1 x2 v:Value) (n:Nat) (l:List (Int×Int)) (w:World) (v':Value) (w':World):Prop:=
 w'.heap[B]?=some (.cells #[v',x1,x2] 41 (0,0))∧OwnX w' B v' n l∧Gr B v v' w w'
def PkEnd (B:Nat) (x1 x2 v:Value) (n:Nat) (l:List (Int×Int)) (w:World) (e:Ending) (w':World):Prop:=(∃r,e=.returned r)∧∃v',PkDone B x1 x2 v n l w v' w'
theorem pk_cell {w:World} {B:Nat} {x0 x1 x2:Value} (h:w.heap[B]?=some (.cells #[x0,x1,x2] 41 (0,0))):w.cell? ⟨B,0,none⟩=some x0∧w.cell? ⟨B,1,none⟩=some x1∧w.cell? ⟨B,2,none⟩=some x2∧w.frozen? ⟨B,0,none⟩=false∧w.frozen? ⟨B,1,none⟩=false∧w.frozen? ⟨B,2,none⟩=false:=by
 refine⟨?_,?_,?_,?_,?_,?_⟩<;>simp[World.cell?,World.frozen?,h]
theorem pk_set {w:World} {B:Nat} {x0 x1 x2:Value} (h:w.heap[B]?=some (.cells #[x0,x1,x2] 41 (0,0))) (v:Value):(w.setCell ⟨B,0,none⟩ v).heap[B]?=some (.cells #[v,x1,x2] 41 (0,0)):=by
 rw[setCell_eq_setRow w B 0 _ _ (0,0) _ h]
 exact setRow_heap w B _ _ _ _ h
theorem pk_far {w:World} {B N:Nat} {v:Value} {l:List (Int×Int)} (h:OwnX w B v N l):v.ownBlock≠some B:=h.2
theorem pk_at2 {B N:Nat} {v x1 x2:Value} {l:List (Int×Int)} {w wz w2:World} (hB:w.heap[B]?=some (.cells #[v,x1,x2] 41 (0,0))) (hO:OwnX w B v N l) (hb:Below w.heap.size w wz) (hg:wz.grownBy w2 v.ownBlock):w2.cell? ⟨B,0,none⟩=some v∧w2.frozen? ⟨B,0,none⟩=false:=by
 have hlt:=(Array.getElem?_eq_some_iff.1 hB).1
 have h2:w2.heap[B]?=some (.cells #[v,x1,x2] 41 (0,0)):=(hg.block B (Nat.lt_of_lt_of_le hlt hb.size) (fun e=>pk_far hO e.symm)).trans ((hb.block B hlt).trans hB)
 exact⟨(pk_cell h2).1,(pk_cell h2).2.2.2.1⟩
theorem pk_done {B N M g2 cap2:Nat} {v x1 x2:Value} {l l2:List (Int×Int)} {w wz w2:World} (hB:w.heap[B]?=some (.cells #[v,x1,x2] 41 (0,0))) (hO:OwnX w B v N l) (hb:Below w.heap.size w wz) (hg:wz.grownBy w2 v.ownBlock) (hat:v.ownBlock=some g2∨g2=wz.heap.size) (hlt:g2<w2.heap.size) (hO2:OwnP w2 0 (.slice (some ⟨g2,0,none⟩) M cap2) M l2):
 PkDone B x1 x2 v M l2 w (.slice (some ⟨g2,0,none⟩) M cap2) (w2.setCell ⟨B,0,none⟩ (.slice (some ⟨g2,0,none⟩) M cap2)):=by
 have hl:=(Array.getElem?_eq_some_iff.1 hB).1
 have h2:w2.heap[B]?=some (.cells #[v,x1,x2] 41 (0,0)):=(hg.block B (Nat.lt_of_lt_of_le hl hb.size) (fun e=>pk_far hO e.symm)).trans ((hb.block B hl).trans hB)
 have hgB:(Value.slice (some ⟨g2,0,none⟩) M cap2).ownBlock≠some B:=fun e=>by
  obtain rfl:g2=B:=by simpa [Value.ownBlock] using e
  rcases hat with e2|e2
  · exact pk_far hO e2
  have:=hb.size;omega
 refine⟨pk_set h2 _,ownP_set hO2 hgB 0,⟨hg.os.trans hb.os,hg.tape.trans hb.tape,hg.output.trans hb.output,?_,fun k h1 h2 h3=>?_,fun k e=>?_⟩⟩
 · rw[World.size_setCell];exact Nat.le_trans hb.size hg.size
 · exact (Below.heap_setCell w2 ⟨B,0,none⟩ _ k h2).trans ((hg.block k (Nat.lt_of_lt_of_le h1 hb.size) (fun e=>h3 e.symm)).trans (hb.block k h1))
 obtain rfl:g2=k:=by simpa [Value.ownBlock] using e
 refine⟨?_,by rw[World.size_setCell];exact hlt⟩
 rcases hat with e2|e2
 · exact .inl e2
 exact .inr (by rw[e2];exact hb.size)
def LayPs (v:Value) (w:World) (ps:List (Int×Int)):Prop:=∃b:Nat,v=.slice (some ⟨b,0,none⟩) ps.length ps.length∧b<w.heap.size∧∀j u,(cellsOf ps)[j]?=some u→w.cell? ⟨b,j,none⟩=some u
theorem LayPs.kept {v:Value} {w w':World} {ps:List (Int×Int)} (h:LayPs v w ps) (hb:Below w.heap.size w w'):LayPs v w' ps:=by
 obtain⟨b,h1,h2,h3⟩:=h
 exact⟨b,h1,Nat.lt_of_lt_of_le h2 hb.size,fun j u hu=>(hb.cell (p:=⟨b,j,none⟩) h2).trans (h3 j u hu)⟩
theorem layPs_new (w:World) (ps:List (Int×Int)):LayPs (.slice (some ⟨w.heap.size,0,none⟩) ps.length ps.length) (w.alloc (.cells (cellsOf ps).toArray 38)) ps:=by
 refine⟨w.heap.size,rfl,by simp,fun j u hu=>?_⟩
 rw[World.cell?_alloc_at _ _ _ _ rfl]
 simpa using hu
theorem step_appL {ops:Array Oper} {o:Oper} {a:Act} {K:Act→World→Prop} {Q:Exit→Act→World→Prop} {E:Prop} (w:World) (hgd:o.guard=none) (s x:Operand)
 (ho:o.op=.call { callee:=.builtin .append,args:=#[s,x],argTypes:=#[39,39] })
 (base:Nat) (v:Value) (n:Nat) (l ps:List (Int×Int)) (b m:Nat) (hm:ps.length=m) (h0:0<m) (hs:a.eval s=v) (hown:OwnP w base v n l) (hx:a.eval x=.slice (some ⟨b,0,none⟩) m m) (hc:∀j u,(cellsOf ps)[j]?=some u→w.cell? ⟨b,j,none⟩=some u) (hn:n+m≤2000000) (hb:base≤w.heap.size)
 (h:∀g cap w',OwnP w' base (.slice (some ⟨g,0,none⟩) (n+m) cap) (n+m) (l++ps)→w.grownBy w' v.ownBlock→(v.ownBlock=some g∨g=w.heap.size)→g<w'.heap.size→K (a.put o.dst (.slice (some ⟨g,0,none⟩) (n+m) cap)) w'):
 if Region.wanted o (yielded ops a.tmps)=true then Oper.wp Tryz.prog o a w K Q else E:=by
 obtain⟨i0,hi0,hz0,hz1,hz2⟩:=info_parts info_bit
 refine step_append_lies _ hgd s x _ ho base 38 i0 (.agg #[.int .i64 0,.int .i64 0]) 2 16 Tryz.underlying39 hi0 hz0 hz1 hz2 rfl (by decide) v n (cellsOf l) hs hown ⟨b,0,none⟩ m m (cellsOf ps) hx (by rw[cellsOf_len,hm]) (fun j u hu=>?_) (cellsOf_one ps) h0 (by unfold maxLen;omega) (by omega) hb _ rfl ?_
 · have hadd:(⟨b,0,none⟩:Addr).add j=⟨b,j,none⟩:=by unfold Addr.add;split<;>simp_all
   rw[hadd];exact hc j u hu
 intro g cap w' hown' hg hat hlt
 rw[cellsOf_app] at hown'
 exact h g cap w' hown' hg hat hlt

set_option linter.unusedSimpArgs false in
set_option linter.unusedVariables false in
set_option maxHeartbeats 2000000 in
set_option maxRecDepth 20000 in
theorem sign_pk (B s N n c g:Nat) (u1 u2 t1 t2:Int) (v x1 x2:Value) (l:List (Int×Int)) (w:World) (hB:w.heap[B]?=some (.cells #[v,x1,x2] 41 (0,0))) (hO:OwnX w B v N l) (hN:N≤1000000)
 (hgl:g<w.heap.size) (hs:s<n) (hn:n≤1000) (hc1:w.cell? ⟨g,s*2,none⟩=some (.int .i64 u1)) (hc2:w.cell? ⟨g,s*2+1,none⟩=some (.int .i64 u2)):
 Calls Tryz.prog 53 #[.pointer (some ⟨B,0,none⟩),.agg #[.int .i64 (s:Int),.int .i64 t1,.int .i64 t2],.slice (some ⟨g,0,none⟩) n c] w (PkEnd B x1 x2 v (N+2) (l++[(u1,u2),(t1,t2)]) w):=by
 obtain⟨W0,hW0⟩:∃W0,W0=w.alloc (.cells #[.int .i64 (s:Int),.int .i64 t1,.int .i64 t2] 102):=⟨_,rfl⟩
 obtain⟨bx,hbx⟩:∃bx,bx=w.heap.size:=⟨_,rfl⟩
 have hBl:B<w.heap.size:=(Array.getElem?_eq_some_iff.1 hB).1
 have b0:Below w.heap.size w W0:=by rw[hW0];exact (Below.refl _ _).alloc (Nat.le_refl _) _
 have hB0:W0.heap[B]?=some (.cells #[v,x1,x2] 41 (0,0)):=(b0.block B hBl).trans hB
 have hs0:W0.heap.size=w.heap.size+1:=by rw[hW0];simp
 have k1:=(b0.cell (p:=⟨g,s*2,none⟩) hgl).trans hc1
 have k2:=(b0.cell (p:=⟨g,s*2+1,none⟩) hgl).trans hc2
 have s1:W0.cell? ⟨bx,0,none⟩=some (.int .i64 (s:Int)):=by rw[hW0,hbx,World.cell?_alloc_at _ _ _ _ rfl];rfl
 have s2:W0.cell? ⟨bx,1,none⟩=some (.int .i64 t1):=by rw[hW0,hbx,World.cell?_alloc_at _ _ _ _ rfl];rfl
 have s3:W0.cell? ⟨bx,2,none⟩=some (.int .i64 t2):=by rw[hW0,hbx,World.cell?_alloc_at _ _ _ _ rfl];rfl
 have HPK:Hid (W0.heap[B]?=some (.cells #[v,x1,x2] 41 (0,0))∧OwnX W0 B v N l):=⟨hB0,OwnX.below hO b0⟩
 have hvlt:∀k,v.ownBlock=some k→0≤k∧k<w.heap.size:=fun k e=>World.ownsRow.lt (show World.ownsRow _ _ _ _ _ _ _ from hO.1) k e
 have HG0:Hid (∀(n:Nat) (l':List (Int×Int)) (v':Value) (w':World),PkDone B x1 x2 v n l' W0 v' w'→PkDone B x1 x2 v n l' w v' w'):=fun n l' v' w' h=>⟨h.1,h.2.1,h.2.2.os.trans b0.os,h.2.2.tape.trans b0.tape,h.2.2.output.trans b0.output,Nat.le_trans b0.size h.2.2.size,fun k h1 h2 h3=>(h.2.2.block k (Nat.lt_of_lt_of_le h1 b0.size) h2 h3).trans (b0.block k h1),fun k e=>by
  obtain⟨h1,h2⟩:=h.2.2.own k e
  refine⟨?_,h2⟩
  rcases h1 with h1|h1
  · exact .inl h1
  exact .inr (Nat.le_trans b0.size h1)⟩
 have hsi:(s:Int)<(n:Int):=by omega
 have pc:=(pk_cell hB0).1
 have hgW:g<W0.heap.size:=by omega
 have hBW:B<W0.heap.size:=by omega
 have hbW:bx<W0.heap.size:=by omega
 clear hB hO hc1 hc2 b0 hB0 hs0 hvlt hgl
 go_enter Tryz.func53,Tryz.ntmps53
 go_wp2_with fail
 rw[←hW0,←hbx]
 clear hW0 hbx
 refine wp_region_any (by kernel_rfl) ?_
 refine wpAny_take (i:=0) (v:=(.pointer (some ⟨B,0,none⟩))) rfl (by kernel_rfl) (by kernel_rfl) (by kernel_rfl) (fun _ _ _ h=>h) (Or.inl ⟨by rfl,?_⟩) ?_
 · intro wy
   go_simp
 try simp only[Act.put,litE]
 refine wpAny_told (S:=(fun wz=>Below W0.heap.size W0 wz)) [0] 13 22 [.is (.pointer (some ⟨B,0,none⟩)),.is (.pointer (some ⟨B,0,none⟩)),.is (.pointer (some ⟨B,0,none⟩)),.is (.pointer (some ⟨B,0,none⟩)),.is (v),.is (.slice (some ⟨g,0,none⟩) n c),.is (.pointer (some ⟨bx,0,none⟩)),.is (.int .i64 (s:Int)),.is (.pointer (some ⟨g,s*2,none⟩)),.is (.agg #[.int .i64 u1,.int .i64 u2]),.is (.pointer (some ⟨bx,1,none⟩)),.is (.agg #[.int .i64 t1,.int .i64 t2]),.own (fun v w=>LayPs v w [(u1,u2),(t1,t2)]) (fun _ _ _ b h=>h.kept b)] (fun j=>if j=0 then (.pointer (some ⟨B,0,none⟩)) else undef) (by kernel_rfl) (by kernel_rfl) (by kernel_rfl) (by kernel_rfl) (by kernel_rfl) (by rfl) (fun _ _ _ _ hd h=>⟨hd.trans h.1,h.2⟩) (by kernel_rfl) (fun j hj=>by simp only[List.mem_cons,List.not_mem_nil,or_false] at hj;rcases hj with rfl<;>rfl) (fun vs=>by simp only[puts,List.getElem?_toArray,List.getElem?_cons_succ,List.getElem?_cons_zero,Option.bind_some,Act.put,List.setIfInBounds_toArray,List.set_cons_zero,List.set_cons_succ];exact rfl) ((Below.refl _ _).drew) ?_ ?_
 · refine TellsFrom.cons rfl (fun vs wz hS hd K hK=>?_) ?_
   · try dsimp only at hK ⊢
     try simp only[Act.put,litE]
     go_simp
     exact hK.out _ _ hS (Below.refl _ _) rfl
   refine TellsFrom.cons rfl (fun vs wz hS hd K hK=>?_) ?_
   · try dsimp only at hK ⊢
     try simp only[Act.put,litE]
     go_simp
     exact hK.out _ _ hS (Below.refl _ _) rfl
   refine TellsFrom.cons rfl (fun vs wz hS hd K hK=>?_) ?_
   · try dsimp only at hK ⊢
     have h1:vs 1=(.pointer (some ⟨B,0,none⟩)):=hd 1 (by kernel_rfl)
     generalize vs 1=x1 at*
     subst h1
     try simp only[Act.put,litE]
     go_simp
     exact hK.out _ _ hS (Below.refl _ _) rfl
   refine TellsFrom.cons rfl (fun vs wz hS hd K hK=>?_) ?_
   · try dsimp only at hK ⊢
     have h2:vs 2=(.pointer (some ⟨B,0,none⟩)):=hd 2 (by kernel_rfl)
     generalize vs 2=x2 at*
     subst h2
     try simp only[Act.put,litE]
     go_simp
     exact hK.out _ _ hS (Below.refl _ _) rfl
   refine TellsFrom.cons rfl (fun vs wz hS hd K hK=>?_) ?_
   · try dsimp only at hK ⊢
     have h3:vs 3=(.pointer (some ⟨B,0,none⟩)):=hd 3 (by kernel_rfl)
     generalize vs 3=x3 at*
     subst h3
     try simp only[Act.put,litE]
     have q0:=(hS.cell (p:=⟨B,0,none⟩) hBW).trans pc
     go_simp
     exact hK.out _ _ hS (Below.refl _ _) rfl
   refine TellsFrom.cons rfl (fun vs wz hS hd K hK=>?_) ?_
   · try dsimp only at hK ⊢
     try simp only[Act.put,litE]
     go_simp
     exact hK.out _ _ hS (Below.refl _ _) rfl
   refine TellsFrom.cons rfl (fun vs wz hS hd K hK=>?_) ?_
   · try dsimp only at hK ⊢
     try simp only[Act.put,litE]
     go_simp
     exact hK.out _ _ hS (Below.refl _ _) rfl
   refine TellsFrom.cons rfl (fun vs wz hS hd K hK=>?_) ?_
   · try dsimp only at hK ⊢
     have h6:vs 6=(.pointer (some ⟨bx,0,none⟩)):=hd 6 (by kernel_rfl)
     generalize vs 6=x6 at*
     subst h6
     try simp only[Act.put,litE]
     have q0:=(hS.cell (p:=⟨bx,0,none⟩) hbW).trans s1
     go_simp
     exact hK.out _ _ hS (Below.refl _ _) rfl
   refine TellsFrom.cons rfl (fun vs wz hS hd K hK=>?_) ?_
   · try dsimp only at hK ⊢
     have h5:vs 5=(.slice (some ⟨g,0,none⟩) n c):=hd 5 (by kernel_rfl)
     generalize vs 5=x5 at*
     subst h5
     have h7:vs 7=(.int .i64 (s:Int)):=hd 7 (by kernel_rfl)
     generalize vs 7=x7 at*
     subst h7
     try simp only[Act.put,litE]
     go_simp
     exact hK.out _ _ hS (Below.refl _ _) rfl
   refine TellsFrom.cons rfl (fun vs wz hS hd K hK=>?_) ?_
   · try dsimp only at hK ⊢
     have h8:vs 8=(.pointer (some ⟨g,s*2,none⟩)):=hd 8 (by kernel_rfl)
     generalize vs 8=x8 at*
     subst h8
     try simp only[Act.put,litE]
     have q0:=(hS.cell (p:=⟨g,s*2,none⟩) hgW).trans k1
     have q1:=(hS.cell (p:=⟨g,s*2+1,none⟩) hgW).trans k2
     go_simp
     exact hK.out _ _ hS (Below.refl _ _) rfl
   refine TellsFrom.cons rfl (fun vs wz hS hd K hK=>?_) ?_
   · try dsimp only at hK ⊢
     try simp only[Act.put,litE]
     go_simp
     exact hK.out _ _ hS (Below.refl _ _) rfl
   refine TellsFrom.cons rfl (fun vs wz hS hd K hK=>?_) ?_
   · try dsimp only at hK ⊢
     have h10:vs 10=(.pointer (some ⟨bx,1,none⟩)):=hd 10 (by kernel_rfl)
     generalize vs 10=x10 at*
     subst h10
     try simp only[Act.put,litE]
     have q0:=(hS.cell (p:=⟨bx,1,none⟩) hbW).trans s2
     have q1:=(hS.cell (p:=⟨bx,2,none⟩) hbW).trans s3
     go_simp
     exact hK.out _ _ hS (Below.refl _ _) rfl
   refine TellsFrom.cons rfl (fun vs wz hS hd K hK=>?_) ?_
   · try dsimp only at hK ⊢
     have h9:vs 9=(.agg #[.int .i64 u1,.int .i64 u2]):=hd 9 (by kernel_rfl)
     generalize vs 9=x9 at*
     subst h9
     have h11:vs 11=(.agg #[.int .i64 t1,.int .i64 t2]):=hd 11 (by kernel_rfl)
     generalize vs 11=x11 at*
     subst h11
     try simp only[Act.put,litE]
     go_simp
     exact hK.out _ _ (hS.trans (((Below.refl _ _).alloc (Nat.le_refl _) _).mono hS.size)) ((Below.refl _ _).alloc (Nat.le_refl _) _) (layPs_new wz [(u1,u2),(t1,t2)])
   exact TellsFrom.nil
 intro vs wz hS hd
 try dsimp only
 have h12:LayPs (vs 12) wz [(u1,u2),(t1,t2)]:=hd 12 (by omega)
 have h0:vs 0=.pointer (some ⟨B,0,none⟩):=hd 0 (by omega)
 have h4:vs 4=v:=hd 4 (by omega)
 clear hd
 generalize vs 0=y0 at*
 generalize vs 1=y1 at*
 generalize vs 2=y2 at*
 generalize vs 3=y3 at*
 generalize vs 4=y4 at*
 generalize vs 5=y5 at*
 generalize vs 6=y6 at*
 generalize vs 7=y7 at*
 generalize vs 8=y8 at*
 generalize vs 9=y9 at*
 generalize vs 10=y10 at*
 generalize vs 11=y11 at*
 generalize vs 12=y12 at*
 subst h0
 replace h4:=h4.symm
 subst h4
 obtain⟨Bn,rfl,hCl,hCn⟩:=h12
 have HS1:Hid (Below W0.heap.size W0 wz):=hS
 clear hS
 refine wpAnyH_ready (rs:=[13]) (by kernel_rfl) (by simp) ?_
 refine AllReadyH.cons rfl (fun K hK=>?_) AllReadyH.nil
 refine step_appL wz rfl _ _ rfl 0 v N l [(u1,u2),(t1,t2)] Bn 2 rfl (by omega) rfl (OwnP.below HPK.out.2.1 HS1.out) rfl hCn (by omega) (Nat.zero_le _) ?_
 intro g2 cap2 w2 ho2 hg2 hat2 hlt2
 have HD:Hid (PkDone B x1 x2 v (N+2) (l++[(u1,u2),(t1,t2)]) W0 (.slice (some ⟨g2,0,none⟩) (N+2) cap2) (w2.setCell ⟨B,0,none⟩ (.slice (some ⟨g2,0,none⟩) (N+2) cap2))):=pk_done HPK.out.1 HPK.out.2 HS1.out hg2 hat2 hlt2 ho2
 obtain⟨pc2,pf2⟩:=pk_at2 HPK.out.1 HPK.out.2 HS1.out hg2
 clear ho2 hg2 hat2 hlt2
 refine hK.out _ _ trivial (fun _=>?_)
 clear hK K
 try simp only[Act.put,litE]
 refine tkI (i:=14) (v:=.pointer (some ⟨B,0,none⟩)) rfl (Or.inl ⟨by rfl,?_⟩) trivial ?_
 · intro wy _
   go_simp
 try simp only[Act.put,litE]
 refine tkI (i:=15) (v:=.pointer (some ⟨B,0,none⟩)) rfl (Or.inl ⟨by rfl,?_⟩) trivial ?_
 · intro wy _
   go_simp
 try simp only[Act.put,litE]
 refine wpAnyH_ready (rs:=[16]) (by kernel_rfl) (by simp) ?_
 refine AllReadyH.cons rfl (fun K hK=>?_) AllReadyH.nil
 go_simp
 refine hK.out _ _ trivial (fun _=>?_)
 clear hK K
 refine wpAnyH_done (by kernel_rfl) ?_ _
 try simp only[Act.put,litE]
 go_wp2_with fail
 go_end0
 exact⟨⟨_,rfl⟩,_,HG0.out _ _ _ _ HD.out⟩
end Go.Proofs.YtejebodgfoihkaaGreat
namespace Go.Proofs.YtejebodgfoihkaaGreat
namespace Rt
def At (s:ByteArray):List (Int×Int)→Nat→Prop
 | [],_=>True
 | x::l,p=>Nf.nxt s x.2.toNat p=.ok x.1.toNat∧At s l (p+x.2.toNat)
theorem at_app {s:ByteArray}:∀{l m:List (Int×Int)} {p:Nat},At s (l++m) p↔At s l p∧At s m (p+Df.sz l)
 | [],m,p=>by
  show At s m p↔True∧At s m (p+0)
  rw[Nat.add_zero]
  exact⟨fun h=>⟨trivial,h⟩,fun h=>h.2⟩
 | x::l,m,p=>by
  have ih:=at_app (s:=s) (l:=l) (m:=m) (p:=p+x.2.toNat)
  show (_∧At s (l++m) _)↔(_∧At s l _)∧At s m (p+(x.2.toNat+Df.sz l))
  rw[ih,Nat.add_assoc]
  exact⟨fun h=>⟨⟨h.1,h.2.1⟩,h.2.2⟩,fun h=>⟨h.1.1,h.1.2,h.2⟩⟩
theorem tot_all:∀l:List (Int×Int),Bp.tot l l.length=Df.sz l
 | []=>rfl
 | x::l=>by
  have ih:=tot_all l
  unfold Bp.tot at ih ⊢
  rw[List.length_cons,List.take_succ_cons,List.map_cons,List.sum_cons,ih]
  rfl
theorem bytes_text {l:List (Int×Int)} (h:Bp.Fits l l.length):Df.bytes (Bp.text false l)=textOf false l:=by
 unfold Df.bytes textOf
 rw[Bp.answer_yes h]
theorem at_text {l:List (Int×Int)} (h:Bp.Fits l l.length):∀k,k≤l.length→At (textOf false l) (l.drop (l.length-k)) (Bp.tot l (l.length-k))
 | 0,_=>by
  rw[Nat.sub_zero,List.drop_length]
  exact trivial
 | k+1,hk=>by
  have hi:l.length-(k+1)<l.length:=by omega
  have ih:=at_text h k (by omega)
  rw[show l.length-k=l.length-(k+1)+1 by omega,Bp.tot_succ l _ hi] at ih
  rw[List.drop_eq_getElem_cons hi]
  refine⟨?_,ih⟩
  have ho:=(h _ hi hi).1
  obtain⟨V,hV⟩:=Int.eq_ofNat_of_zero_le ho.2.2.1
  obtain⟨S,hS⟩:=Int.eq_ofNat_of_zero_le ho.1
  have hb:=back (hi:=false) h _ hi V S hV hS
  have hsz:=textOf_size (hi:=false) h
  have hm:=tot_mono l l.length (Nat.le_refl _) (l.length-(k+1)+1) (by omega)
  rw[Bp.tot_succ l _ hi,hS,Int.toNat_natCast] at hm
  rw[hV,hS,Int.toNat_natCast,Int.toNat_natCast,Nf.nxt_yes (by omega)]
  congr 1
theorem at_all {l:List (Int×Int)} (h:Bp.Fits l l.length):At (textOf false l) l 0∧(textOf false l).size=(Df.sz l+7) / 8:=by
 have h1:=at_text h l.length (Nat.le_refl _)
 rw[Nat.sub_self] at h1
 refine⟨h1,?_⟩
 rw[textOf_size h,tot_all]
def Cov (ls zs:List Int):Prop:=Cd.okB ls=true∧Cd.okB zs=true∧∀i L V,Mk.Sym ls i L V→Mk.Sym zs i L V
theorem Cov.self {ls:List Int} (h:Cd.okB ls=true):Cov ls ls:=⟨h,h,fun _ _ _ h=>h⟩
theorem lt_of {ls:List Int} {y:Nat} (h:ls.getD y 0≠0):y<ls.length:=by
 rcases Nat.lt_or_ge y ls.length with g|g
 · exact g
 rw[List.getD_eq_getElem?_getD,List.getElem?_eq_none g] at h
 exact absurd rfl h
theorem sym_at {s:ByteArray} {ls zs:List Int} {y p:Nat} (c:Cov ls zs) (hz:ls.getD y 0≠0) (h:Nf.nxt s (Cp.bit ls y).2.toNat p=.ok (Cp.bit ls y).1.toNat):Nf.sym s zs p=.ok (y,p+(Cp.bit ls y).2.toNat):=by
 obtain⟨V,S,hV,hS,_,hS15⟩:=Cp.parts c.1 y (lt_of hz)
 rw[Cp.bit_of hV hS] at h ⊢
 simp only[Int.toNat_natCast] at h ⊢
 have hs:Mk.Sym ls y S V:=⟨lt_of hz,hS,by rw[hS] at hz;omega,hS15,hV⟩
 have hs2:=c.2.2 _ _ _ hs
 have hg:=goodC c.2.1
 obtain⟨h1,h2,_⟩:=Nf.nxt_ok h
 refine Nf.sym_some (Gt.get_hit hg hs2 (bitAt_lt _ _) h1 ?_)
 unfold Nf.num at h2
 have e:=Gt.turned_big (fun j=>bitAt s false (p+j)) (fun j=>bitAt_lt _ _ _) S
 have e2:=Gt.turned_back (Bg.big_lt (fun j=>bitAt s false (p+j)) (fun j=>bitAt_lt _ _ _) S)
 rw[←e2,e,←h2]
 exact Gt.turned_back (hs2.bits hg.taken)
theorem step_of {t:Tk} {out out2:List UInt8} (h:To.step t out=some out2):
 (t.2.1=0∧0≤t.1∧t.1≤255∧out.length<5000∧out2=out++[UInt8.ofNat t.1.toNat])∨(t.2.1≠0∧3≤t.2.1∧t.2.1≤258∧1≤t.2.2∧t.2.2≤(out.length:Int)∧out.length+t.2.1.toNat≤5000∧out2=To.again out t.2.2.toNat t.2.1.toNat):=by
 unfold To.step at h
 split at h
 · rename_i hok
   unfold To.okTok at hok
   split at h
   · rename_i h0
     split at h
     · rename_i hl
       injection h with h
       rw[if_pos h0] at hok
       simp only[Bool.and_eq_true,decide_eq_true_eq] at hok
       exact .inl ⟨h0,hok.1,hok.2.1,hl,h.symm⟩
     cases h
   rename_i h0
   split at h
   · rename_i hl
     injection h with h
     rw[if_neg h0] at hok
     simp only[Bool.and_eq_true,decide_eq_true_eq] at hok
     exact .inr ⟨h0,hok.2.1,hok.2.2.1,hok.2.2.2.1,hok.2.2.2.2,hl,h.symm⟩
   cases h
 cases h
def Has (LS LD:List Int) (t:Tk):Prop:=LS.getD (Df.sym t) 0≠0∧(t.2.1≠0→LD.getD (Df.dsSym t.2.2.toNat) 0≠0)
theorem body_at {s:ByteArray} {A B LS LD:List Int} {lim:Nat} (cA:Cov LS A) (cB:Cov LD B) (hl:5000≤lim) (hE:LS.getD 256 0≠0):∀(l:List Tk) (f p:Nat) (out out':List UInt8),l.length<f→(∀t∈l,Has LS LD t)→To.get l out=some out'→At s (Df.body LS LD l) p→Nf.body s lim A B f p out=.ok (out',p+Df.sz (Df.body LS LD l))
 | [],f,p,out,out',hf,_,hg,ha=>by
  obtain⟨f,rfl⟩:∃f',f=f'+1:=⟨f-1,by simp at hf;omega⟩
  have hg:some out=some out':=hg
  injection hg with hg
  subst hg
  have ha:At s [Cp.bit LS 256] p:=ha
  exact Nf.body_end (sym_at cA hE ha.1) rfl
 | t::l,f,p,out,out',hf,hh,hg,ha=>by
  obtain⟨f,rfl⟩:∃f',f=f'+1:=⟨f-1,by simp at hf;omega⟩
  have hf:l.length<f:=by simp at hf;omega
  have eb:Df.body LS LD (t::l)=Df.tok LS LD t++Df.body LS LD l:=by simp[Df.body,Df.toks]
  rw[eb] at ha ⊢
  rw[Df.sz_app,←Nat.add_assoc]
  obtain⟨ha1,ha2⟩:=at_app.1 ha
  have hg:(To.step t out).bind (To.get l)=some out':=hg
  cases hs:To.step t out with
  | none=>rw[hs] at hg;cases hg
  | some out2=>
   rw[hs] at hg
   have hg:To.get l out2=some out':=hg
   have ih:=fun q=>body_at (s:=s) cA cB hl hE l f q out2 out' hf (fun t ht=>hh t (List.mem_cons_of_mem _ ht)) hg
   obtain⟨hz1,hz2⟩:=hh t (List.mem_cons_self ..)
   unfold Df.tok at ha1 ha2 ⊢
   unfold Df.sym at hz1
   rcases step_of hs with⟨h0,h1,h2,h3,rfl⟩|⟨h0,h1,h2,h3,h4,h5,rfl⟩
   · rw[if_pos h0] at ha1 ha2 hz1 ⊢
     have e1:Df.sz [Cp.bit LS t.1.toNat]=(Cp.bit LS t.1.toNat).2.toNat:=rfl
     rw[e1] at ha2 ⊢
     rw[Nf.body_byte (sym_at cA hz1 ha1.1) (by omega) (by omega)]
     exact ih _ ha2
   rw[if_neg h0] at ha1 ha2 hz1 ⊢
   obtain⟨a1,a2,a3,a4,_⟩:=ha1
   have hk:=Df.szSym_lt t.2.1.toNat
   have hd:=Df.dsSym_lt t.2.2.toNat
   have hb1:=Df.szBit_all t.2.1.toNat (by omega) (by omega)
   have hb2:=Df.dsBit_all (x:=t.2.2.toNat) (by omega) (by omega)
   have e1:(Df.szBit t.2.1.toNat).2.toNat=(Df.szN (Df.szSym t.2.1.toNat)).2:=by unfold Df.szBit;simp
   have e2:(Df.szBit t.2.1.toNat).1.toNat=t.2.1.toNat-(Df.szN (Df.szSym t.2.1.toNat)).1:=by unfold Df.szBit;simp
   have e3:(Df.dsBit t.2.2.toNat).2.toNat=(Df.dsN (Df.dsSym t.2.2.toNat)).2:=by unfold Df.dsBit;simp
   have e4:(Df.dsBit t.2.2.toNat).1.toNat=t.2.2.toNat-(Df.dsN (Df.dsSym t.2.2.toNat)).1:=by unfold Df.dsBit;simp
   rw[e1,e2] at a2
   rw[e1] at a3
   rw[e1,e3,e4] at a4
   have c1:=sym_at cA hz1 a1
   have c2:=Nf.size_ok (k:=Df.szSym t.2.1.toNat) a2
   have c3:=Nf.dist_ok (sym_at cB (hz2 h0) a3) hd a4
   have c4:=Nf.rep_ok (lim:=lim) (n:=t.2.1.toNat) (d:=t.2.2.toNat) (out:=out) (by omega) (by omega)
   rw[show (Df.szN (Df.szSym t.2.1.toNat)).1+(t.2.1.toNat-(Df.szN (Df.szSym t.2.1.toNat)).1)=t.2.1.toNat by omega] at c2
   rw[show (Df.dsN (Df.dsSym t.2.2.toNat)).1+(t.2.2.toNat-(Df.dsN (Df.dsSym t.2.2.toNat)).1)=t.2.2.toNat by omega] at c3
   have c5:=Nf.copy_ok c2 c3 c4
   rw[Nf.body_copy c1 (by omega) (by omega) (by rw[show 257+Df.szSym t.2.1.toNat-257=Df.szSym t.2.1.toNat by omega];exact c5),ih _ (by
    refine Eq.mp (congrArg (At s _) ?_) ha2
    simp only[Df.sz,e1,e3]
    omega)]
   congr 2
   simp only[Df.sz,e1,e3]
   omega
end Rt
namespace Rt
def Tail (l:List Int) (n:Nat):Prop:=n≤l.length∧∀i,n≤i→l.getD i 0=0
theorem used_zero (l:List Int) (least:Nat):∀n i,Df.usedF l least n≤i→i<n→l.getD i 0=0
 | 0,_,_,h=>by omega
 | n+1,i,h,hi=>by
  unfold Df.usedF at h
  split at h
  · rename_i c
    by_cases e:i=n
    · rw[e];exact c.2
    exact used_zero l least n i h (by omega)
  omega
theorem tail_used (l:List Int) (least:Nat):Tail l (Df.used l least):=by
 refine⟨Df.used_le _ _,fun i hi=>?_⟩
 by_cases h:i<l.length
 · exact used_zero l least _ i hi h
 rw[List.getD_eq_getElem?_getD,List.getElem?_eq_none (by omega)]
 rfl
theorem zeros:∀l:List Int,(∀z∈l,z=0)→Cd.taken l=0∧Nf.come l=0
 | [],_=>⟨rfl,rfl⟩
 | z::l,h=>by
  obtain⟨h1,h2⟩:=zeros l (fun z hz=>h z (List.mem_cons_of_mem _ hz))
  have h0:=h z (List.mem_cons_self ..)
  subst h0
  refine⟨?_,?_⟩
  · show Cd.part 0+Cd.taken l=0
    rw[h1];rfl
  rw[Nf.come_cons,h2];rfl
theorem Tail.drop {l:List Int} {n:Nat} (h:Tail l n):∀z∈l.drop n,z=0:=fun z hz=>by
 obtain⟨i,hi,rfl⟩:=List.mem_iff_getElem.1 hz
 have h1:=h.2 (n+i) (by omega)
 rw[List.length_drop] at hi
 rw[List.getD_eq_getElem?_getD,List.getElem?_eq_getElem (by omega)] at h1
 rw[List.getElem_drop]
 exact h1
theorem Tail.taken {l:List Int} {n:Nat} (h:Tail l n):Cd.taken (l.take n)=Cd.taken l∧Nf.come (l.take n)=Nf.come l:=by
 obtain⟨h1,h2⟩:=zeros _ h.drop
 have e1:=Cd.taken_append (l.take n) (l.drop n)
 have e2:=Nf.come_append (l.take n) (l.drop n)
 rw[List.take_append_drop] at e1 e2
 omega
theorem Tail.may {l:List Int} {n:Nat} {b:Bool} (h:Tail l n) (g:Nf.may l b=true):Nf.may (l.take n) b=true:=by
 unfold Nf.may at g ⊢
 rw[h.taken.1,h.taken.2]
 exact g
theorem Tail.ok {l:List Int} {n:Nat} (h:Tail l n) (g:Cd.okB l=true):Cd.okB (l.take n)=true:=by
 unfold Cd.okB at g ⊢
 simp only[Bool.and_eq_true,decide_eq_true_eq] at g ⊢
 refine⟨?_,?_,?_⟩
 · rw[List.length_take];omega
 · unfold Cd.valid at g ⊢
   rw[List.all_eq_true]
   intro z hz
   exact List.all_eq_true.1 g.2.1 z (List.take_subset _ _ hz)
 rw[h.taken.1];exact g.2.2
theorem cnt_take {l:List Int} {n:Nat} (v:Int):∀k,k≤n→Mk.cnt (l.take n) v k=Mk.cnt l v k
 | 0,_=>rfl
 | k+1,hk=>by
  show Mk.cnt (l.take n) v k+_=Mk.cnt l v k+_
  rw[cnt_take v k (by omega),show (l.take n).getD k 0=l.getD k 0 by rw[Df.getD_take,if_pos (by omega)]]
theorem cnt_tail {l:List Int} {n:Nat} (h:Tail l n) {v:Int} (hv:v≠0):∀d,Mk.cnt l v (n+d)=Mk.cnt l v n
 | 0=>rfl
 | d+1=>by
  show Mk.cnt l v (n+d)+(if l.getD (n+d) 0=v then 1 else 0)=_
  rw[cnt_tail h hv d,h.2 (n+d) (by omega),if_neg (fun e=>hv e.symm)]
  rfl
theorem E_take {l:List Int} {n:Nat} (h:Tail l n):∀m,Mk.E (l.take n) m=Mk.E l m
 | 0=>rfl
 | m+1=>by
  have hn:=h.1
  rw[Mk.E_succ,Mk.E_succ,E_take h m,List.length_take,Nat.min_eq_left hn,cnt_take _ n (Nat.le_refl _)]
  have e:=cnt_tail h (v:=((m+1:Nat):Int)) (by omega) (l.length-n)
  rw[show n+(l.length-n)=l.length by omega] at e
  rw[e]
theorem Tail.cov {l:List Int} {n:Nat} (h:Tail l n) (g:Cd.okB l=true):Cov l (l.take n):=by
 refine⟨g,h.ok g,fun i L V hs=>?_⟩
 have hn:=h.1
 have hin:i<n:=by
  rcases Nat.lt_or_ge i n with q|q
  · exact q
  have:=h.2 i q
  have h1:=hs.len
  have h2:=hs.pos
  omega
 have hlt:i<(l.take n).length:=by rw[List.length_take];omega
 have hlen:(l.take n).getD i 0=(L:Int):=by rw[Df.getD_take,if_pos hin];exact hs.len
 refine⟨hlt,hlen,hs.pos,hs.le,?_⟩
 rw[Mk.mk_get hlt hlen hs.pos hs.le,E_take h,cnt_take _ i (by omega),←Mk.mk_get hs.lt hs.len hs.pos hs.le]
 exact hs.num
-- how much of a code is taken
theorem initT_leaf (zs:List Int):∀k,∀x∈initT zs k,∃s,x.2=.leaf s
 | 0,x,h=>by simp[initT] at h
 | k+1,x,h=>by
  unfold initT at h
  split at h
  · rcases List.mem_append.1 h with h|h
    · exact initT_leaf zs k x h
    simp only[List.mem_singleton] at h
    exact⟨k,by rw[h]⟩
  exact initT_leaf zs k x h
theorem iter_one (x:Ct.Nt):∀j,iterT [x] j=[x]
 | 0=>rfl
 | j+1=>by
  show Ct.step (iterT [x] j)=[x]
  rw[iter_one x j]
  rfl
theorem iter_nil:∀j,iterT [] j=[]
 | 0=>rfl
 | j+1=>by
  show Ct.step (iterT [] j)=[]
  rw[iter_nil j]
  rfl
theorem lens_single {zs:List Int} {f:Nat→Nat} (h:Ct.IsLens zs f) (hc:Ct.come zs≤1):∀i,f i≤1:=fun i=>by
 rcases h with⟨_,rfl⟩|⟨o,t,j,hit,rfl⟩
 · exact Nat.zero_le _
 unfold Ct.come at hc
 have hl:=initT_leaf zs zs.length
 cases hx:initT zs zs.length with
 | nil=>rw[hx,iter_nil] at hit;cases hit
 | cons x xs=>
  rw[hx] at hc hit hl
  have hxs:xs=[]:=by
   cases xs with
   | nil=>rfl
   | cons y ys=>simp at hc
  subst hxs
  rw[iter_one] at hit
  injection hit with hit _
  obtain⟨s,hs⟩:=hl x (List.mem_singleton.2 rfl)
  rw[hit] at hs
  have hs:t=.leaf s:=hs
  subst hs
  show (if i=s then 1 else 0)≤1
  split<;>omega
theorem fits_single {m:Nat} (hm:1≤m) {zs:List Int} {f:Nat→Nat} (h:Ct.Fits m zs f) (hc:Ct.come zs≤1):∀i,f i≤1:=by
 cases h with
 | stop h1 _=>exact lens_single h1 hc
 | more h1 h2 _=>
  obtain⟨i,_,hi⟩:=h2
  have:=lens_single h1 hc i
  omega
theorem come_eq {zs:List Int} {f:Nat→Nat}:∀n,n≤zs.length→(∀i,i<zs.length→(f i=0↔¬0<zs.getD i 0))→Nf.come (lens n f)=(initT zs n).length
 | 0,_,_=>rfl
 | n+1,hn,h=>by
  have ih:=come_eq n (by omega) h
  have hi:=h n (by omega)
  unfold lens at ih ⊢
  rw[List.range_succ,List.map_append,Nf.come_append,ih,Df.initT_one]
  congr 1
  show Nf.come [((f n:Nat):Int)]=_
  rw[Nf.come_cons]
  by_cases e:0<zs.getD n 0
  · have:((f n:Nat):Int)≠0:=by
     intro q
     exact hi.1 (by omega) e
    rw[if_pos e,if_pos (by simpa using this)]
    rfl
  have:((f n:Nat):Int)=0:=by
   have:=hi.2 e
   omega
  rw[if_neg e,this]
  rfl
theorem taken_one:∀l:List Int,(∀z∈l,z=0∨z=1)→Cd.taken l=16384*Nf.come l
 | [],_=>rfl
 | z::l,h=>by
  have ih:=taken_one l (fun z hz=>h z (List.mem_cons_of_mem _ hz))
  show Cd.part z+Cd.taken l=_
  rw[ih,Nf.come_cons]
  rcases h z (List.mem_cons_self ..) with rfl|rfl
  · show 0+_=16384*(_+0);omega
  show 16384+_=16384*(_+1);omega
theorem fitL_may {m:Int} {zs L:List Int} {b:Bool} (h:Df.FitL m zs L) (hb:Nf.come L=0→b=true):Nf.may L b=true:=by
 obtain⟨hb1,f,hf,rfl⟩:=h
 obtain⟨_,h2,_,h4,_,_⟩:=fitB_parts hb1
 obtain⟨w,_⟩:=hf.whole (by have:=(fitB_parts hb1).2.2.1;omega) h4
 have hc:Nf.come (lens zs.length f)=Ct.come zs:=come_eq zs.length (Nat.le_refl _) w.some
 unfold Nf.may
 split
 · rename_i h0;exact hb h0
 split
 · rename_i h0 h1
   rw[decide_eq_true_eq]
   have hs:=fits_single (by omega) hf (by omega)
   rw[taken_one _ (fun z hz=>by
    unfold lens at hz
    obtain⟨i,_,rfl⟩:=List.mem_map.1 hz
    have:=hs i
    omega),h1]
 rw[decide_eq_true_eq]
 have e:=w.full (by omega)
 unfold lens
 rw[Ct.taken_sg]
 exact e
-- what comes is counted
theorem inc_ge {a:List Int} {i j:Nat}:a.getD j 0≤(Df.inc a i).getD j 0:=by
 unfold Df.inc
 rw[Df.getD_set]
 split
 · rename_i h;rw[h.1];omega
 omega
theorem fold_ge {f:List Int→Tk→List Int} (hf:∀a t j,a.getD j 0≤(f a t).getD j 0):∀(l:List Tk) (a:List Int) (j:Nat),a.getD j 0≤(l.foldl f a).getD j 0
 | [],_,_=>Int.le_refl _
 | t::l,a,j=>Int.le_trans (hf a t j) (fold_ge hf l _ j)
theorem fold_pos {f:List Int→Tk→List Int} {g:Tk→Nat} {n:Nat} (hf:∀a t j,a.getD j 0≤(f a t).getD j 0) (hn:∀a t,(f a t).length=a.length) {t:Tk} (hg:∀a:List Int,a.length=n→(∀j,0≤a.getD j 0)→0<(f a t).getD (g t) 0):∀(l:List Tk) (a:List Int),a.length=n→(∀j,0≤a.getD j 0)→t∈l→0<(l.foldl f a).getD (g t) 0
 | [],_,_,_,h=>by simp at h
 | u::l,a,ha,h0,h=>by
  rw[List.foldl_cons]
  rcases List.mem_cons.1 h with e|h
  · subst e
    have h1:=hg a ha h0
    have h2:=fold_ge hf l (f a t) (g t)
    omega
  exact fold_pos hf hn hg l (f a u) (by rw[hn,ha]) (fun j=>Int.le_trans (h0 j) (hf a u j)) h
theorem inc_pos {a:List Int} {i:Nat} (h:i<a.length) (h0:0≤a.getD i 0):0<(Df.inc a i).getD i 0:=by
 unfold Df.inc
 rw[Df.getD_set,if_pos ⟨rfl,h⟩]
 omega
theorem rep_zero (n j:Nat):(0:Int)≤(List.replicate n (0:Int)).getD j 0:=by
 rw[List.getD_eq_getElem?_getD,List.getElem?_replicate]
 split<;>simp
theorem oftS_has {l:List Tk} (h:∀t∈l,Df.TkOk t) {t:Tk} (ht:t∈l):0<(Df.oftS l).getD (Df.sym t) 0:=by
 have hs:=Df.sym_ok (h t ht)
 unfold Df.oftS
 rw[Df.getD_set,if_neg (fun e=>hs.2 e.1.symm)]
 exact fold_pos (f:=Df.incS) (g:=Df.sym) (n:=286) (fun a t j=>inc_ge) (fun a t=>Df.inc_len a _) (fun a ha h0=>inc_pos (by omega) (h0 _)) l _ List.length_replicate (rep_zero 286) ht
theorem oftS_end (l:List Tk):0<(Df.oftS l).getD 256 0:=by
 unfold Df.oftS
 rw[Df.getD_set,if_pos ⟨rfl,by rw[Df.cntS_len];omega⟩]
 omega
theorem cntD_has {l:List Tk} {t:Tk} (ht:t∈l) (h0:t.2.1≠0):0<(Df.cntD l).getD (Df.dsSym t.2.2.toNat) 0:=by
 have hd:=Df.dsSym_lt t.2.2.toNat
 refine fold_pos (f:=Df.incD) (g:=fun t=>Df.dsSym t.2.2.toNat) (n:=30) (fun a t j=>?_) Df.incD_len (fun a ha hz=>?_) l _ List.length_replicate (rep_zero 30) ht
 · unfold Df.incD
   split
   · exact Int.le_refl _
   exact inc_ge
 unfold Df.incD
 rw[if_neg h0]
 exact inc_pos (by omega) (hz _)
theorem cnt3_has {R:List Tk} {t:Tk} (ht:t∈R) (h:t.1.toNat<19):0<(Df.cnt3 R).getD t.1.toNat 0:=by
 unfold Df.cnt3
 exact fold_pos (f:=fun a t=>Df.inc a t.1.toNat) (g:=fun t=>t.1.toNat) (n:=19) (fun a t j=>inc_ge) (fun a t=>Df.inc_len a _) (fun a ha h0=>inc_pos (by omega) (h0 _)) R _ List.length_replicate (rep_zero 19) ht
theorem fitL_has {m:Int} {zs L:List Int} (h:Df.FitL m zs L) {i:Nat} (hz:0<zs.getD i 0):L.getD i 0≠0:=by
 have hi:i<zs.length:=lt_of (by omega)
 have:=(h.le hi).2.2
 intro e
 exact this.1 e hz
end Rt
namespace Rt
-- the lengths of lengths
theorem lord_idx:∀k,k<19→Df.lord.idxOf k<19∧Df.lord.getD (Df.lord.idxOf k) 0=k:=by decide
theorem idx_lord:∀i,i<19→Df.lord.idxOf (Df.lord.getD i 0)=i∧Df.lord.getD i 0<19:=by decide
theorem ordered_get {BY:List Int} {i:Nat} (hi:i<19):(Df.ordered BY).getD i 0=BY.getD (Df.lord.getD i 0) 0:=by
 unfold Df.ordered
 have hl:i<Df.lord.length:=by show i<19;exact hi
 rw[List.getD_eq_getElem?_getD,List.getElem?_map,List.getElem?_eq_getElem hl,List.getD_eq_getElem?_getD (l:=Df.lord),List.getElem?_eq_getElem hl]
 rfl
theorem lol_at {s:ByteArray} {BY:List Int}:∀(m i p:Nat) (row:List Int),i+m≤19→row.length=19→(∀k,k<19→row.getD k 0=if Df.lord.idxOf k<i then BY.getD k 0 else 0)→(∀k,0≤BY.getD k 0)→At s (Df.threes (((Df.ordered BY).drop i).take m)) p→
 ∃row',Nf.lol s m i p row=.ok (row',p+Df.sz (Df.threes (((Df.ordered BY).drop i).take m)))∧row'.length=19∧∀k,k<19→row'.getD k 0=if Df.lord.idxOf k<i+m then BY.getD k 0 else 0
 | 0,i,p,row,_,hl,hr,_,_=>⟨row,by rw[Nf.lol];rfl,hl,hr⟩
 | m+1,i,p,row,hi,hl,hr,h0,ha=>by
  have hlen:=Df.ordered_len BY
  have hio:i<(Df.ordered BY).length:=by omega
  have e:((Df.ordered BY).drop i).take (m+1)=(Df.ordered BY)[i]::((Df.ordered BY).drop (i+1)).take m:=by
   rw[List.drop_eq_getElem_cons hio,List.take_succ_cons]
  have ev:(Df.ordered BY)[i]=BY.getD (Df.lord.getD i 0) 0:=by
   rw[←ordered_get (BY:=BY) (show i<19 by omega),List.getD_eq_getElem?_getD,List.getElem?_eq_getElem hio]
   rfl
  rw[e,ev] at ha ⊢
  obtain⟨a1,a2⟩:=ha
  have a1:Nf.nxt s 3 p=.ok (BY.getD (Df.lord.getD i 0) 0).toNat:=a1
  have h1:=h0 (Df.lord.getD i 0)
  obtain⟨hx,hx2⟩:=idx_lord i (by omega)
  rw[Nf.lol_ok a1]
  have ih:=lol_at (s:=s) (BY:=BY) m (i+1) (p+3) (row.set (Df.lord.getD i 0) (((BY.getD (Df.lord.getD i 0) 0).toNat:Nat):Int)) (by omega) (by rw[List.length_set,hl]) (fun k hk=>by
   rw[Df.getD_set]
   obtain⟨hy,hy2⟩:=lord_idx k hk
   by_cases q:Df.lord.getD i 0=k
   · rw[if_pos ⟨q,by omega⟩,←q,hx,if_pos (by omega)]
     omega
   rw[if_neg (fun z=>q z.1),hr k hk]
   have:Df.lord.idxOf k≠i:=fun z=>q (by rw[←z];exact hy2)
   by_cases c:Df.lord.idxOf k<i
   · rw[if_pos c,if_pos (by omega)]
   rw[if_neg c,if_neg (by omega)]) h0 a2
  obtain⟨row',r1,r2,r3⟩:=ih
  refine⟨row',?_,r2,?_⟩
  · rw[r1]
    congr 2
    show p+3+Df.sz _=p+(3+Df.sz _)
    rw[Nat.add_assoc]
    rfl
  rw[show i+(m+1)=i+1+m by omega]
  exact r3
theorem lol_back {s:ByteArray} {BY:List Int} {p:Nat} (hl:BY.length=19) (h0:∀k,0≤BY.getD k 0) (ha:At s (Df.threes ((Df.ordered BY).take (Df.used (Df.ordered BY) 4))) p):
 Nf.lol s (Df.used (Df.ordered BY) 4) 0 p (List.replicate 19 0)=.ok (BY,p+Df.sz (Df.threes ((Df.ordered BY).take (Df.used (Df.ordered BY) 4)))):=by
 have ht:=tail_used (Df.ordered BY) 4
 have hn:=ht.1
 rw[Df.ordered_len] at hn
 obtain⟨row,r1,r2,r3⟩:=lol_at (s:=s) (BY:=BY) (Df.used (Df.ordered BY) 4) 0 p (List.replicate 19 0) (by omega) List.length_replicate (fun k hk=>by
  rw[if_neg (by omega),List.getD_eq_getElem?_getD,List.getElem?_replicate,if_pos hk]
  rfl) h0 ha
 have e:row=BY:=by
  refine List.ext_getElem (by omega) (fun k h1 h2=>?_)
  have hk:k<19:=by omega
  have h3:=r3 k hk
  obtain⟨hy,hy2⟩:=lord_idx k hk
  have hb:BY.getD k 0=BY[k]:=by rw[List.getD_eq_getElem?_getD,List.getElem?_eq_getElem h2];rfl
  have hr:row.getD k 0=row[k]:=by rw[List.getD_eq_getElem?_getD,List.getElem?_eq_getElem h1];rfl
  rw[←hr,←hb,h3]
  split
  · rfl
  have:=ht.2 (Df.lord.idxOf k) (by omega)
  rw[ordered_get hy,hy2] at this
  exact this.symm
 rw[e] at r1
 exact r1
-- the lengths of both codes
theorem while_get {v:Int}:∀(l:List Int) (k:Nat),k<(l.takeWhile (fun z=>z==v)).length→k<l.length∧l.getD k 0=v
 | [],k,h=>by simp at h
 | z::l,k,h=>by
  rw[List.takeWhile_cons] at h
  split at h
  · rename_i hz
    have hz:z=v:=by simpa using hz
    cases k with
    | zero=>exact⟨by simp,hz⟩
    | succ k=>
     have:=while_get l k (by simpa using h)
     exact⟨by simpa using this.1,this.2⟩
  simp at h
theorem alike_get {l:List Int} {p i:Nat} (hp:p<l.length) (h:i<Df.alike l p):p+i<l.length∧l.getD (p+i) 0=l.getD p 0:=by
 cases i with
 | zero=>exact⟨hp,rfl⟩
 | succ i=>
  unfold Df.alike at h
  have h1:=while_get (v:=l.getD p 0) (l.drop (p+1)) i (by omega)
  rw[List.length_drop] at h1
  refine⟨by omega,?_⟩
  rw[←h1.2,List.getD_eq_getElem?_getD,List.getD_eq_getElem?_getD (l:=l.drop (p+1)),List.getElem?_drop]
  congr 2
  omega
theorem alike_take {l:List Int} {p:Nat} (hp:p<l.length):∀n,n≤Df.alike l p→l.take p++List.replicate n (l.getD p 0)=l.take (p+n)
 | 0,_=>by simp
 | n+1,hn=>by
  have ih:=alike_take hp n (by omega)
  obtain⟨h1,h2⟩:=alike_get hp (show n<Df.alike l p by omega)
  rw[List.replicate_succ',←List.append_assoc,ih,←Nat.add_assoc,List.take_succ_eq_append_getElem h1]
  congr 2
  rw[←h2,List.getD_eq_getElem?_getD,List.getElem?_eq_getElem h1]
  rfl
theorem runs_cons (BY:List Int) (t:Tk) (R:List Tk):Df.runBits BY (t::R)=Cp.bit BY t.1.toNat::t.2::Df.runBits BY R:=by simp[Df.runBits]
theorem run_at {s:ByteArray} {J BY:List Int} (hJ:∀i,0≤J.getD i 0∧J.getD i 0≤15) (hc:Cd.okB BY=true) {p q:Nat} (hp:p<J.length) (hs:BY.getD (Df.run J p).1.1.toNat 0≠0) (h1:Nf.nxt s (Cp.bit BY (Df.run J p).1.1.toNat).2.toNat q=.ok (Cp.bit BY (Df.run J p).1.1.toNat).1.toNat)
 (h2:Nf.nxt s (Df.run J p).1.2.2.toNat (q+(Cp.bit BY (Df.run J p).1.1.toNat).2.toNat)=.ok (Df.run J p).1.2.1.toNat):
 Nf.run s BY q (J.take p)=.ok ((J.getD p 0,(Df.run J p).2),q+(Cp.bit BY (Df.run J p).1.1.toNat).2.toNat+(Df.run J p).1.2.2.toNat)∧(Df.run J p).2≤Df.alike J p:=by
 have hy:=sym_at (Cov.self hc) hs h1
 have hal:=Df.alike_pos J p
 have hlt:(J.take p).length=p:=by rw[List.length_take];omega
 have hJp:=hJ p
 unfold Df.run at hy h2 ⊢
 split
 · rename_i c
   rw[if_pos c] at hy h2
   dsimp only at hy h2 ⊢
   refine⟨?_,by omega⟩
   have h3:=Nf.run_18 (l:=J.take p) hy h2
   rw[h3,c.1]
   congr 3
   simp only[Int.toNat_natCast]
   omega
 rename_i c
 rw[if_neg c] at hy h2
 split
 · rename_i d
   rw[if_pos d] at hy h2
   dsimp only at hy h2 ⊢
   refine⟨?_,by omega⟩
   have h3:=Nf.run_17 (l:=J.take p) hy h2
   rw[h3,d.1]
   congr 3
   simp only[Int.toNat_natCast]
   omega
 rename_i d
 rw[if_neg d] at hy h2
 split
 · rename_i e
   rw[if_pos e] at hy h2
   dsimp only at hy h2 ⊢
   refine⟨?_,by omega⟩
   have h3:=Nf.run_16 (l:=J.take p) hy (by omega) h2
   rw[h3,hlt,Df.getD_take,if_pos (by omega),←e.2.1]
   congr 3
   simp only[Int.toNat_natCast]
   omega
 rename_i e
 rw[if_neg e] at hy h2
 dsimp only at hy h2 ⊢
 refine⟨?_,hal⟩
 have h3:=Nf.run_one (l:=J.take p) hy (.inl (by omega))
 rw[h3,show (((J.getD p 0).toNat:Nat):Int)=J.getD p 0 by omega]
 rfl
theorem lens_at {s:ByteArray} {J BY:List Int} (hJ:∀i,0≤J.getD i 0∧J.getD i 0≤15) (hc:Cd.okB BY=true):∀(f p q:Nat),J.length-p<f→p≤J.length→(∀t∈Df.runsFrom J p,BY.getD t.1.toNat 0≠0)→At s (Df.runBits BY (Df.runsFrom J p)) q→
 Nf.lens s BY J.length f q (J.take p)=.ok (J,q+Df.sz (Df.runBits BY (Df.runsFrom J p)))
 | 0,_,_,h,_,_,_=>by omega
 | f+1,p,q,hf,hpl,hs,ha=>by
  have hlt:(J.take p).length=p:=by rw[List.length_take];omega
  by_cases hp:p<J.length
  · rw[Df.runs_step hp] at hs ha ⊢
    rw[runs_cons] at ha ⊢
    obtain⟨a1,a2,a3⟩:=ha
    obtain⟨r1,r2⟩:=run_at hJ hc hp (hs _ (List.mem_cons_self ..)) a1 a2
    have hin:=Df.run_in hp
    have hpos:=Df.run_pos J p
    have ih:=lens_at hJ hc f (p+(Df.run J p).2) _ (by omega) hin (fun t ht=>hs t (List.mem_cons_of_mem _ ht)) a3
    rw[Nf.lens_more (by omega) r1 (by omega),alike_take hp _ r2,ih]
    congr 2
    simp only[Df.sz]
    omega
  rw[Nf.lens_done (by omega),Df.runs_end hp,List.take_of_length_le (by omega)]
  rfl
theorem own_at {s:ByteArray} {l:List Tk} {LS LD BY:List Int} {lim p:Nat} {out:List UInt8} (hsm:Df.Small l) (ho:Df.IsOwn l LS LD BY) (hl:5000≤lim) (hg:To.get l []=some out) (ha:At s (Df.own LS LD BY l) p):
 Nf.own s lim p []=.ok (out,p+Df.sz (Df.own LS LD BY l)):=by
 obtain⟨f1,f2,f3⟩:=ho
 have lS:LS.length=286:=by rw[f1.len,Df.oftS_len]
 have lD:LD.length=30:=by rw[f2.len,Df.cntD_len]
 have lB:BY.length=19:=by rw[f3.len,Df.cnt3_len]
 have tS:=tail_used LS 257
 have tD:=tail_used LD 1
 have gS:257≤Df.used LS 257:=Df.used_ge (by omega)
 have gD:1≤Df.used LD 1:=Df.used_ge (by omega)
 have gB:4≤Df.used (Df.ordered BY) 4:=Df.used_ge (by rw[Df.ordered_len];omega)
 have uS:=tS.1
 have uD:=tD.1
 rw[lS] at uS
 rw[lD] at uD
 have aS:=f1.all (by omega)
 have aD:=f2.all (by omega)
 have aB:=f3.all (by omega)
 have hJ:=Df.joined_all aS aD
 have hJl:(Df.joined LS LD).length=Df.used LS 257+Df.used LD 1:=by
  unfold Df.joined
  rw[List.length_append,List.length_take,List.length_take]
  omega
 have hR:=Df.runs_ok hJ
 have hE:LS.getD 256 0≠0:=fitL_has f1 (oftS_end l)
 have hh:∀t∈l,Has LS LD t:=fun t ht=>⟨fitL_has f1 (oftS_has hsm.ok ht),fun h0=>fitL_has f2 (cntD_has ht h0)⟩
 have hB:∀t∈Df.runs (Df.joined LS LD),BY.getD t.1.toNat 0≠0:=fun t ht=>fitL_has f3 (cnt3_has ht (by have:=hR t ht;have h1:=this.1;have h2:=this.2.1;omega))
 have mS:=tS.may (fitL_may (b:=true) f1 (fun _=>rfl))
 have mD:=tD.may (fitL_may (b:=true) f2 (fun _=>rfl))
 have mB:Nf.may BY false=true:=fitL_may f3 (fun h0=>by
  exfalso
  have h1:Df.runs (Df.joined LS LD)=(Df.run (Df.joined LS LD) 0).1::Df.runsFrom (Df.joined LS LD) (0+(Df.run (Df.joined LS LD) 0).2):=Df.runs_step (by omega)
  have h2:=hB _ (by rw[h1];exact List.mem_cons_self ..)
  have h3:∀(l:List Int) (i:Nat),Nf.come l=0→l.getD i 0=0:=by
   intro l
   induction l with
   | nil=>intro i _;rfl
   | cons z l ih=>
    intro i h
    rw[Nf.come_cons] at h
    have hz:z=0:=by
     by_cases e:z=0
     · exact e
     rw[if_pos (by simp[e])] at h;omega
    cases i with
    | zero=>exact hz
    | succ i=>exact ih i (by omega)
  exact h2 (h3 BY _ h0))
 unfold Df.own Df.head at ha ⊢
 obtain⟨ha1,hb⟩:=at_app.1 ha
 obtain⟨ha2,hr⟩:=at_app.1 ha1
 obtain⟨ht,h3⟩:=at_app.1 ha2
 obtain⟨n1,n2,n3,_⟩:=ht
 have n1:Nf.nxt s 5 p=.ok (Df.used LS 257-257):=n1
 have n2:Nf.nxt s 5 (p+5)=.ok (Df.used LD 1-1):=n2
 have n3:Nf.nxt s 4 (p+10)=.ok (Df.used (Df.ordered BY) 4-4):=n3
 have e14:Df.sz (Df.top LS LD BY)=14:=rfl
 rw[e14] at h3
 rw[Df.sz_app,e14,←Nat.add_assoc] at hr
 have hlol:=lol_back lB (fun k=>(aB k).1) h3
 have hlens:=lens_at (s:=s) hJ f3.ok 400 0 _ (by omega) (Nat.zero_le _) hB hr
 rw[List.take_zero] at hlens
 have cS:=tS.cov f1.ok
 have cD:=tD.cov f2.ok
 have hb2:=fun q=>body_at (s:=s) (lim:=lim) cS cD hl hE l Nf.fuel q [] out (by have:=hsm.few;show _<72001;omega) hh hg
 have eT:(Df.joined LS LD).take (Df.used LS 257)=LS.take (Df.used LS 257):=by
  unfold Df.joined
  rw[List.take_append_of_le_length (by rw[List.length_take];omega),List.take_take,Nat.min_self]
 have eD:(Df.joined LS LD).drop (Df.used LS 257)=LD.take (Df.used LD 1):=by
  unfold Df.joined
  rw[List.drop_append_of_le_length (by rw[List.length_take];omega),List.drop_of_length_le (by rw[List.length_take];omega),List.nil_append]
 have e256:(Df.joined LS LD).getD 256 0≠0:=by
  have:(Df.joined LS LD).getD 256 0=LS.getD 256 0:=by
   rw[show (Df.joined LS LD).getD 256 0=((Df.joined LS LD).take (Df.used LS 257)).getD 256 0 by rw[Df.getD_take,if_pos (by omega)],eT,Df.getD_take,if_pos (by omega)]
  rw[this]
  exact hE
 unfold Nf.own
 rw[n1]
 dsimp only
 rw[n2]
 dsimp only
 rw[n3]
 dsimp only
 rw[show Df.used (Df.ordered BY) 4-4+4=Df.used (Df.ordered BY) 4 by omega,hlol]
 dsimp only
 rw[if_pos ⟨by omega,by omega,mB⟩,show Df.used LS 257-257+257=Df.used LS 257 by omega,show Df.used LD 1-1+1=Df.used LD 1 by omega,←hJl,hlens]
 dsimp only
 rw[eT,eD,if_pos ⟨mS,mD,e256⟩,hb2 _ (by
  refine Eq.mp (congrArg (At s _) ?_) hb
  rw[Df.sz_app,Df.sz_app,e14]
  unfold Df.runs
  omega)]
 congr 2
 rw[Df.sz_app,Df.sz_app,Df.sz_app,e14]
 unfold Df.runs
 omega
end Rt
namespace Rt
theorem fixS_has:∀y,y<288→Df.fixS.getD y 0≠0:=by decide +kernel
theorem fixD_has:∀y,y<32→Df.fixD.getD y 0≠0:=by decide +kernel
theorem flat_at {s:ByteArray} {l:List Tk} {lim p:Nat} {out:List UInt8} (hsm:Df.Small l) (hl:5000≤lim) (hg:To.get l []=some out) (ha:At s (Df.body Df.fixS Df.fixD l) p):
 Nf.body s lim Df.fixS Df.fixD Nf.fuel p []=.ok (out,p+Df.sz (Df.body Df.fixS Df.fixD l)):=
 body_at (Cov.self Df.fixS_ok) (Cov.self Df.fixD_ok) hl (fixS_has 256 (by omega)) l Nf.fuel p [] out (by have:=hsm.few;show _<72001;omega)
  (fun t ht=>⟨fixS_has _ (by have:=(Df.sym_ok (hsm.ok t ht)).1;omega),fun _=>fixD_has _ (by have:=Df.dsSym_lt t.2.2.toNat;omega)⟩) hg ha
theorem take_at {s:ByteArray} {lim:Nat}:∀(b:List Nat) (p:Nat) (out:List UInt8),(∀x∈b,x<256)→out.length+b.length≤lim→At s (b.map (fun (b:Nat)=>((b:Int),(8:Int)))) p→Nf.take s lim b.length p out=.ok (out++b.map UInt8.ofNat,p+8*b.length)
 | [],p,out,_,_,_=>by
  rw[List.map_nil,List.append_nil]
  rfl
 | x::b,p,out,hx,hl,ha=>by
  obtain⟨a1,a2⟩:=ha
  have a1:Nf.nxt s 8 p=.ok x:=a1
  have a2:At s (b.map (fun (b:Nat)=>((b:Int),(8:Int)))) (p+8):=a2
  rw[List.length_cons] at hl ⊢
  rw[Nf.take_ok a1 (by omega),take_at b (p+8) _ (fun y hy=>hx y (List.mem_cons_of_mem _ hy)) (by rw[List.length_append,List.length_singleton];omega) a2,List.append_assoc]
  congr 2
  omega
theorem plain_at {s:ByteArray} {b:List Nat} {lim p:Nat} (hp:p%8=0) (out:List UInt8) (hb:∀x∈b,x<256) (hl:out.length+b.length≤lim) (h5:b.length≤5000) (ha:At s [((b.length:Int),16),(((65535-b.length:Nat):Int),16)] (p+8)) (ha2:At s (b.map (fun (b:Nat)=>((b:Int),(8:Int)))) (p+40)):
 Nf.plain s lim (p+3) out=.ok (out++b.map UInt8.ofNat,p+40+8*b.length):=by
 obtain⟨a1,a2,_⟩:=ha
 have a1:Nf.nxt s 16 (p+8)=.ok b.length:=a1
 have a2:Nf.nxt s 16 (p+8+16)=.ok (65535-b.length):=a2
 have e:8*((p+3+7) / 8)=p+8:=by omega
 rw[Nf.plain_ok (n:=b.length) (m:=65535-b.length) (by rw[e];exact a1) (by rw[e];exact a2) (by omega),e]
 exact take_at b (p+40) out hb hl ha2
theorem nums_back (t:ByteArray):(Df.nums t).map UInt8.ofNat=t.data.toList:=by
 unfold Df.nums
 rw[List.map_map]
 refine (List.map_congr_left (g:=id) (fun b _=>?_)).trans (List.map_id _)
 simp
structure Whole (s:ByteArray) (k:Nat) (t:ByteArray) (q:Nat):Prop where
 last:Nf.nxt s 1 0=.ok 1
 kind:Nf.nxt s 2 1=.ok k
 block:∀lim,5000≤lim→Nf.block s lim k 3 []=.ok (t.data.toList,q)
 size:s.size=(q+7) / 8
theorem packed_whole {t:ByteArray} {k:Nat} {T:List Nat} (hs:t.size≤5000) (hk:k≤2) (h:Df.Packed t k T):∃q,Whole (Df.bytes T) k t q:=by
 have hsm:=Ty.small hs
 have hg:To.get (Ty.from_ t 0) []=some t.data.toList:=Ty.from_get hs
 unfold Df.Packed at h
 split at h
 · rename_i h0
   subst h0
   have hb:=Df.nums_lt t
   have hn:=Df.nums_len t
   have hf:=Df.plain_fits hb (by omega)
   rw[←Df.plain_text _ hb] at h
   rw[h,bytes_text hf]
   obtain⟨ha,hz⟩:=at_all hf
   generalize textOf false (Df.plainBits (Df.nums t))=s at*
   unfold Df.plainBits at ha hz
   obtain⟨⟨n1,n2,n3,n4,n5,_⟩,a2⟩:=at_app.1 ha
   have e40:∀x y:Nat,Df.sz [((1:Int),(1:Int)),(0,2),(0,5),((x:Int),16),((y:Int),16)]=40:=fun _ _=>rfl
   have e8:∀b:List Nat,Df.sz (b.map (fun (b:Nat)=>((b:Int),(8:Int))))=8*b.length:=fun b=>by
    induction b with
    | nil=>rfl
    | cons x b ih=>
     show 8+Df.sz (b.map _)=8*(b.length+1)
     rw[ih]
     omega
   rw[Df.sz_app,e40,e8] at hz
   rw[e40] at a2
   refine⟨40+8*t.size,n1,n2,fun lim hl=>?_,by rw[hz,hn]⟩
   have h1:=plain_at (s:=s) (b:=Df.nums t) (lim:=lim) (p:=0) rfl [] hb (by rw[hn];simp;omega) (by omega) ⟨n4,n5,trivial⟩ a2
   rw[nums_back,hn,List.nil_append] at h1
   unfold Nf.block
   rw[if_pos rfl]
   refine h1.trans ?_
   congr 2
 rename_i h0
 split at h
 · rename_i h1
   subst h1
   have hf:=Df.flat_fits hsm Df.fixS_ok Df.fixD_ok (by rw[Df.fixS_len];omega) (by rw[Df.fixD_len];omega) Df.fixS_le Df.fixD_le
   rw[h,bytes_text hf]
   obtain⟨ha,hz⟩:=at_all hf
   generalize textOf false _=s at*
   obtain⟨⟨n1,n2,_⟩,a2⟩:=at_app.1 ha
   refine⟨_,n1,n2,fun lim hl=>?_,hz⟩
   rw[Df.sz_app]
   have e3:Df.sz [((1:Int),(1:Int)),(1,2)]=3:=rfl
   rw[e3] at a2 ⊢
   exact flat_at hsm hl hg a2
 rename_i h1
 have h2:k=2:=by omega
 subst h2
 obtain⟨LS,LD,BY,ho,h⟩:=h
 have hf:=Df.own_fits hsm ho (v:=2) (.inr rfl)
 rw[h,bytes_text hf]
 obtain⟨ha,hz⟩:=at_all hf
 generalize textOf false _=s at*
 obtain⟨⟨n1,n2,_⟩,a2⟩:=at_app.1 ha
 refine⟨_,n1,n2,fun lim hl=>?_,hz⟩
 rw[Df.sz_app]
 have e3:Df.sz [((1:Int),(1:Int)),(2,2)]=3:=rfl
 rw[e3] at a2 ⊢
 exact own_at hsm ho hl hg a2
theorem whole_inflate {s t:ByteArray} {k q:Nat} (h:Whole s k t q) {lim:Nat} (hl:5000≤lim):Nf.inflate s lim=.ok ((t.data.toList,q),[(k:Int)]):=by
 show Nf.all s lim (72000+1) 0 [] []=_
 exact Nf.all_end h.last (by decide) h.kind (h.block lim hl)
end Rt
open Go.RowKit

theorem tot_le {L:List (Int×Int)} {n:Nat} (h:Df.sz L≤8*n):(Bp.text false L).length≤n:=by
 unfold Bp.text
 rw[Bp.pack_len]
 have:=Df.tot_sz L L.length
 omega

theorem packed_near {s:ByteArray} {k:Nat} {T:List Nat} (hs:s.size≤5000) (h:Df.Packed s k T):T.length≤3000+s.size:=by
 have hsm:=Ty.small (s:=s) (by omega)
 have hf:(Ty.from_ s 0).length+2*Df.again (Ty.from_ s 0)≤s.size:=by have:=(Ty.all_small (s:=s) (by omega) (s.size-0) 0).2;simpa [Ty.from_] using this
 unfold Df.Packed at h
 split at h
 · rw[h]
   unfold Df.stored
   rw[List.length_append,Df.nums_len]
   simp
   try omega
 split at h
 · rw[h]
   refine tot_le ?_
   have s2:=Df.sz_toks (LS:=Df.fixS) (LD:=Df.fixD) hsm.ok
   have a1:∀l:List Tk,Df.sumS (fun i=>(Df.fixS.getD i 0).toNat) l≤9*l.length:=fun l=>by
    induction l with
    | nil=>exact Nat.zero_le _
    | cons t l ih=>
     have:=Df.fixS_le (Df.sym t)
     show (Df.fixS.getD (Df.sym t) 0).toNat+Df.sumS _ l≤9*(l.length+1)
     omega
   have a2:∀l:List Tk,Df.sumD (fun i=>(Df.fixD.getD i 0).toNat) l≤5*Df.again l:=fun l=>by
    induction l with
    | nil=>exact Nat.zero_le _
    | cons t l ih=>
     have:=Df.fixD_le (Df.dsSym t.2.2.toNat)
     show (if t.2.1=0 then 0 else (Df.fixD.getD (Df.dsSym t.2.2.toNat) 0).toNat)+Df.sumD _ l≤5*((if t.2.1=0 then 0 else 1)+Df.again l)
     split<;>omega
   have b1:=a1 (Ty.from_ s 0)
   have b2:=a2 (Ty.from_ s 0)
   have b3:=Df.fixS_le 256
   unfold Df.body
   rw[Df.sz_app,Df.sz_app]
   have e1:Df.sz [((1:Int),(1:Int)),(1,2)]=3:=rfl
   have e2:Df.sz [Cp.bit Df.fixS 256]=(Df.fixS.getD 256 0).toNat:=by show _+0=_;rfl
   rw[e1,e2]
   omega
 obtain⟨LS,LD,BY,ho,h⟩:=h
 rw[h]
 refine tot_le ?_
 obtain⟨f1,f2,f3⟩:=ho
 have hLS:LS.length=286:=by rw[f1.len,Df.oftS_len]
 have hLD:LD.length=30:=by rw[f2.len,Df.cntD_len]
 have hBY:BY.length=19:=by rw[f3.len,Df.cnt3_len]
 have hR:∀t∈Df.runs (Df.joined LS LD),Df.RunOk t:=Df.runs_ok (Df.joined_all (f1.all (by omega)) (f2.all (by omega)))
 have hRl:=Df.runs_len (Df.joined LS LD)
 have hJ:=Df.joined_len (LS:=LS) (LD:=LD)
 have hBm:∀i,BY.getD i 0≤7:=fun i=>by
  by_cases hi:i<(Df.cnt3 (Df.runs (Df.joined LS LD))).length
  · exact (f3.le hi).2.1
  rw[List.getD_eq_getElem?_getD,List.getElem?_eq_none (by rw[f3.len];omega)]
  decide
 have hu1:=Df.used_le LS 257
 have hu2:=Df.used_le LD 1
 have hu3:=Df.used_le (Df.ordered BY) 4
 rw[Df.ordered_len] at hu3
 have hk:((Df.ordered BY).take (Df.used (Df.ordered BY) 4)).length=Df.used (Df.ordered BY) 4:=by rw[List.length_take,Df.ordered_len];omega
 have s1:=Df.sz_runBits hBm hR
 have s2:=Df.sz_body (LS:=LS) (LD:=LD) hsm.ok
 have s3:=Df.wtS_le hsm f1
 have s4:=Df.wtD_le hsm f2
 have s5:=Df.sz_threes ((Df.ordered BY).take (Df.used (Df.ordered BY) 4))
 rw[Df.sz_app]
 unfold Df.own Df.head
 rw[Df.sz_app,Df.sz_app,Df.sz_app]
 have e1:Df.sz [((1:Int),(1:Int)),(2,2)]=3:=rfl
 have e2:Df.sz (Df.top LS LD BY)=14:=rfl
 rw[e1,e2]
 split at s3<;>omega

theorem empty_df:(ByteArray.mk #[]).toList.isEmpty=true:=by decide +kernel
theorem pk_len (T:List Nat):(Df.bytes T).size=T.length:=by
 unfold Df.bytes
 show (T.map UInt8.ofNat).toArray.size=T.length
 simp
namespace Rt
theorem size_list (s:ByteArray):s.size=s.data.toList.length:=by rw[Array.length_toList];rfl
theorem byteAt_list (s:ByteArray) (i:Nat):byteAt s i=(s.data.toList.getD i 0).toNat:=by
 unfold byteAt
 rfl
theorem bitAt_same {s s':ByteArray} {i:Nat} (h:byteAt s (i / 8)=byteAt s' (i / 8)):bitAt s false i=bitAt s' false i:=by
 unfold bitAt
 rw[h]
end Rt
namespace Rt
theorem at_from {s s':ByteArray} {Q:Nat} (hs':Q≤8*s'.size) (hb:∀i,8≤i→i<Q→bitAt s false i=bitAt s' false i):∀(l:List (Int×Int)) (p:Nat),8≤p→p+Df.sz l≤Q→At s l p→At s' l p
 | [],_,_,_,_=>trivial
 | x::l,p,hp,hq,h=>by
  have hq:p+(x.2.toNat+Df.sz l)≤Q:=hq
  refine⟨?_,at_from hs' hb l _ (by omega) (by omega) h.2⟩
  have h1:=Nf.nxt_ok h.1
  rw[Nf.nxt_yes (by omega),h1.2.1]
  congr 1
  unfold Nf.num
  exact (Bg.low_same (fun i hi=>hb (p+i) (by omega) (by omega))).symm
theorem sz_eights (b:List Nat):Df.sz (b.map (fun (b:Nat)=>((b:Int),(8:Int))))=8*b.length:=by
 induction b with
 | nil=>rfl
 | cons x b ih=>
  show 8+Df.sz (b.map _)=8*(b.length+1)
  rw[ih]
  omega
theorem stored_at {t:ByteArray} {T:List Nat} (hs:t.size≤5000) (h:Df.Packed t 0 T):
 At (Df.bytes T) [(((Df.nums t).length:Int),16),(((65535-(Df.nums t).length:Nat):Int),16)] 8∧At (Df.bytes T) ((Df.nums t).map (fun (b:Nat)=>((b:Int),(8:Int)))) 40∧(Df.bytes T).size=t.size+5:=by
 have hb:=Df.nums_lt t
 have hn:=Df.nums_len t
 have hf:=Df.plain_fits hb (by omega)
 unfold Df.Packed at h
 rw[if_pos rfl,←Df.plain_text _ hb] at h
 rw[h,bytes_text hf]
 obtain⟨ha,hz⟩:=at_all hf
 generalize textOf false (Df.plainBits (Df.nums t))=s at*
 unfold Df.plainBits at ha hz
 obtain⟨⟨_,_,_,n4,n5,_⟩,a2⟩:=at_app.1 ha
 have e40:∀x y:Nat,Df.sz [((1:Int),(1:Int)),(0,2),(0,5),((x:Int),16),((y:Int),16)]=40:=fun _ _=>rfl
 rw[Df.sz_app,e40,sz_eights] at hz
 rw[e40] at a2
 exact⟨⟨n4,n5,trivial⟩,a2,by rw[hz,hn];omega⟩
theorem two_inflate {a b F S y:ByteArray} {T:List Nat} {K q:Nat} (hs:a.size+b.size≤5000) (hF:Df.Packed a 0 T) (eF:F=Df.bytes T) (W:Whole S K b q) (hy:y.data.toList=[0]++(F.data.toList.drop 1++S.data.toList)):
 y.size=F.size+S.size∧F.size=a.size+5∧∃q',Nf.inflate y 5000=.ok ((a.data.toList++b.data.toList,q'),[0,(K:Int)])∧y.size=(q'+7) / 8:=by
 obtain⟨s1,s2,s3⟩:=stored_at (by omega) hF
 rw[←eF] at s1 s2 s3
 have hys:y.size=F.size+S.size:=by
  rw[size_list y,hy,List.length_append,List.length_append,List.length_drop,size_list S,size_list F]
  have:=size_list F
  show 1+_=_
  omega
 refine⟨hys,s3,8*F.size+q,?_,by rw[hys,W.size];omega⟩
 have hbF:∀j,1≤j→j<F.size→byteAt F j=byteAt y j:=fun j h1 h2=>by
  obtain⟨i,rfl⟩:∃i,j=i+1:=⟨j-1,by omega⟩
  rw[byteAt_list,byteAt_list,hy]
  congr 1
  rw[List.getD_eq_getElem?_getD,List.getD_eq_getElem?_getD]
  show _=((0::(F.data.toList.drop 1++S.data.toList))[i+1]?).getD 0
  rw[List.getElem?_cons_succ,List.getElem?_append_left (by rw[List.length_drop,←size_list];omega),List.getElem?_drop]
  congr 2
  omega
 have hbS:∀j,byteAt y (F.size+j)=byteAt S j:=fun j=>by
  obtain⟨i,hi⟩:∃i,F.size=i+1:=⟨F.size-1,by omega⟩
  rw[byteAt_list,byteAt_list,hy]
  congr 1
  rw[List.getD_eq_getElem?_getD,List.getD_eq_getElem?_getD,hi]
  show ((0::(F.data.toList.drop 1++S.data.toList))[i+1+j]?).getD 0=_
  rw[show i+1+j=i+j+1 by omega,List.getElem?_cons_succ,List.getElem?_append_right (by rw[List.length_drop,←size_list];omega)]
  congr 2
  rw[List.length_drop,←size_list]
  omega
 have h0:byteAt y 0=0:=by rw[byteAt_list,hy];rfl
 have hz:∀i,i<8→bitAt y false i=0:=fun i hi=>by
  unfold bitAt
  rw[show i / 8=0 by omega,h0,Nat.zero_div]
 have hlow:∀n p,p+n≤8→Nf.num y n p=0:=fun n p=>by
  unfold Nf.num
  induction n with
  | zero=>exact fun _=>rfl
  | succ n ih=>
   intro h
   unfold Bg.low
   rw[ih (by omega),hz _ (by omega)]
   simp
 have g:Nf.Shf S y (8*F.size):=⟨by omega,by omega,fun i=>by
  unfold bitAt
  rw[show (8*F.size+i) / 8=F.size+i / 8 by omega,hbS]
  have e:Bg.spot false (8*F.size+i)=Bg.spot false i:=by unfold Bg.spot;simp only[Bool.false_eq_true,if_false];omega
  rw[e]⟩
 have hn:=Df.nums_len a
 have hagr:∀i,8≤i→i<8*F.size→bitAt F false i=bitAt y false i:=fun i h1 h2=>bitAt_same (hbF _ (by omega) (by omega))
 have t1:=at_from (Q:=8*F.size) (by omega) hagr _ 8 (Nat.le_refl _) (by show 8+32≤_;omega) s1
 have t2:=at_from (Q:=8*F.size) (by omega) hagr _ 40 (by omega) (by rw[sz_eights,hn];omega) s2
 have hb:=Df.nums_lt a
 have p1:=plain_at (s:=y) (b:=Df.nums a) (lim:=5000) (p:=0) rfl [] hb (by rw[hn];simp;omega) (by omega) t1 t2
 rw[nums_back,hn,List.nil_append,show 0+40+8*a.size=8*F.size by omega] at p1
 have hbl:(b.data.toList).length=b.size:=(size_list b).symm
 have hal:(a.data.toList).length=a.size:=(size_list a).symm
 have hI:=(Nf.inflate_lim (whole_inflate W (lim:=5000) (Nat.le_refl _)) (5000-a.size)).1 (by show (b.data.toList).length≤_;omega)
 have hall:=Nf.all_sh (P:=a.data.toList) (f:=71999) (ks':=[0]) g W.last W.kind hI
 rw[hal,show 5000-a.size+a.size=5000 by omega] at hall
 show Nf.all y 5000 (71999+1+1) 0 [] []=_
 have n1:Nf.nxt y 1 0=.ok 0:=by rw[Nf.nxt_yes (by omega),hlow 1 0 (by omega)]
 have n2:Nf.nxt y 2 (0+1)=.ok 0:=by rw[Nf.nxt_yes (by omega),hlow 2 1 (by omega)]
 rw[Nf.all_more n1 n2 (k:=0) (by unfold Nf.block;rw[if_pos rfl];exact p1)]
 exact hall
end Rt
end Go.Proofs.YtejebodgfoihkaaGreat
