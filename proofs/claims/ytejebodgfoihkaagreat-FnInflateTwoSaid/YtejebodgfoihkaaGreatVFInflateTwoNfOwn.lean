/- A block with codes of its own. -/
import Derived.Test.YtejebodgfoihkaaGreatKFInflateTwox0a
import Derived.Test.YtejebodgfoihkaaGreatKFInflateTwox1
namespace Go.Proofs.YtejebodgfoihkaaGreat
open Go.RowKit

section
variable {s:ByteArray} {lim p a b c q q2 N:Nat} {out:List UInt8} {by_ L:List Int}
theorem own_a {e:Nat} (h:Nf.nxt s 5 p=.error e):Nf.own s lim p out=.error e:=by unfold Nf.own;rw[h]
theorem own_b {e:Nat} (h1:Nf.nxt s 5 p=.ok a) (h:Nf.nxt s 5 (p+5)=.error e):Nf.own s lim p out=.error e:=by unfold Nf.own;rw[h1];simp only[h]
theorem own_c {e:Nat} (h1:Nf.nxt s 5 p=.ok a) (h2:Nf.nxt s 5 (p+5)=.ok b) (h:Nf.nxt s 4 (p+10)=.error e):Nf.own s lim p out=.error e:=by unfold Nf.own;rw[h1];simp only[h2,h]
def Head3 (s:ByteArray) (p a b c:Nat):Prop:=Nf.nxt s 5 p=.ok a∧Nf.nxt s 5 (p+5)=.ok b∧Nf.nxt s 4 (p+10)=.ok c
theorem own_lol {e:Nat} (h:Head3 s p a b c) (h2:Nf.lol s (c+4) 0 (p+14) (List.replicate 19 0)=.error e):Nf.own s lim p out=.error e:=by
 unfold Nf.own;rw[h.1];simp only[h.2.1,h.2.2,h2]
theorem own_bad {e:Nat} (h:Head3 s p a b c) (h2:Nf.lol s (c+4) 0 (p+14) (List.replicate 19 0)=.ok (by_,q)) (h3:¬(a+257≤286∧b+1≤30∧Nf.may by_ false=true)) (he:e=1):Nf.own s lim p out=.error e:=by
 subst he;unfold Nf.own;rw[h.1];simp only[h.2.1,h.2.2,h2,if_neg h3]
theorem own_lens {e:Nat} (h:Head3 s p a b c) (h2:Nf.lol s (c+4) 0 (p+14) (List.replicate 19 0)=.ok (by_,q)) (h3:a+257≤286∧b+1≤30∧Nf.may by_ false=true) (h4:Nf.lens s by_ N 400 q []=.error e) (hN:N=a+257+(b+1)):Nf.own s lim p out=.error e:=by
 subst hN;unfold Nf.own;rw[h.1];simp only[h.2.1,h.2.2,h2,if_pos h3,h4]
theorem own_bad2 {Y:Nat} (h:Head3 s p a b c) (h2:Nf.lol s (c+4) 0 (p+14) (List.replicate 19 0)=.ok (by_,q)) (h3:a+257≤286∧b+1≤30∧Nf.may by_ false=true) (h4:Nf.lens s by_ N 400 q []=.ok (L,q2)) (h5:¬(Nf.may (L.take Y) true=true∧Nf.may (L.drop Y) true=true∧L.getD 256 0≠0)) (hN:Y=a+257∧N=a+257+(b+1)):Nf.own s lim p out=.error 1:=by
 obtain⟨rfl,rfl⟩:=hN
 unfold Nf.own;rw[h.1];simp only[h.2.1,h.2.2,h2,if_pos h3,h4,if_neg h5]
theorem own_body {Y:Nat} (h:Head3 s p a b c) (h2:Nf.lol s (c+4) 0 (p+14) (List.replicate 19 0)=.ok (by_,q)) (h3:a+257≤286∧b+1≤30∧Nf.may by_ false=true) (h4:Nf.lens s by_ N 400 q []=.ok (L,q2)) (h5:Nf.may (L.take Y) true=true∧Nf.may (L.drop Y) true=true∧L.getD 256 0≠0) (hN:Y=a+257∧N=a+257+(b+1)):Nf.own s lim p out=Nf.body s lim (L.take Y) (L.drop Y) Nf.fuel q2 out:=by
 obtain⟨rfl,rfl⟩:=hN
 unfold Nf.own;rw[h.1];simp only[h.2.1,h.2.2,h2,if_pos h3,h4,if_pos h5]
end
theorem own_parts {w:World} {lb N cap Y:Nat} {ao:Option Addr} {L:List Int} (h:OwnI w lb (.slice ao N cap) N L) (hl:L.length=N) (hY2:Y<N) (h256:256<N):
 ∃g,ao=some ⟨g,0,none⟩∧Ints w (some ⟨g,0,none⟩) (L.take Y)∧Ints w (some ⟨g,Y,none⟩) (L.drop Y)∧N≤cap∧w.cell? ⟨g,256,none⟩=some (.int .i64 (L.getD 256 0)):=by
 rcases h.2 with⟨e,h0⟩|⟨g,cap',cur,e,_,hg,hnc,_⟩
 · omega
 cases e
 have hc:∀j (hj:j<L.length),w.cell? ⟨g,j,none⟩=some (.int .i64 L[j]):=fun j hj=>by
  have:=World.ownsRow.cellAt (show World.ownsRow _ _ _ _ _ _ _ from h) j (by omega)
  rw[this,intsV_get L j hj]
 have hlt:g<w.heap.size:=(Array.getElem?_eq_some_iff.1 hg).1
 refine⟨g,rfl,.inr ⟨g,0,rfl,hlt,fun j hj=>?_⟩,.inr ⟨g,Y,rfl,hlt,fun j hj=>?_⟩,hnc,?_⟩
 · rw[List.length_take] at hj
   rw[Nat.zero_add,hc j (by omega),List.getElem_take]
 · rw[List.length_drop] at hj
   rw[hc (Y+j) (by omega),List.getElem_drop]
 rw[hc 256 (by omega),List.getD_eq_getElem?_getD,List.getElem?_eq_getElem (by omega)]
 rfl

set_option linter.unusedSimpArgs false in
set_option maxHeartbeats 8000000 in
set_option maxRecDepth 20000 in
theorem nfOwn_any (R base p lim:Nat) (l:List UInt8) (vk fx:Value) (s:ByteArray) (w:World) (h:In w R base s p l lim vk fx) (hb:base≤w.heap.size) (hs:s.size≤9000) (hp:p≤8*s.size) (hl:l.length≤lim) (hlim:lim≤5000):
 Calls Tryz.prog 85 #[.pointer (some ⟨R,0,none⟩)] w (BlkEnd w R base s lim vk fx (Nf.own s lim p l)):=by
 obtain⟨ANS,hANS⟩:∃r,r=Nf.own s lim p l:=⟨_,rfl⟩
 have HANS:Hid (ANS=Nf.own s lim p l):=hANS
 have HB:Hid (base≤w.heap.size):=hb
 have HN1:Hid (Calls Tryz.prog 87 #[.pointer (some ⟨R,0,none⟩),.int .i64 5] w (NumEnd w R base s p 5 l lim vk fx)):=nfNumber_any R p 5 base lim l vk fx s w h hs hp (by omega)
 rw[←hANS]
 clear h hb hANS hp
 go_enter Tryz.func85,Tryz.ntmps85
 go_wp2_with fail
 refine HN1.out.mono ?_
 rintro e w1 (⟨a,ha,rfl,h2,h3⟩|⟨ha,rfl,h3⟩)
 · have hab:=(Nf.nxt_ok ha).2.2
   have HH1:Hid (Nf.nxt s 5 p=.ok a∧InF R base w w1):=⟨ha,InF.of_only h3⟩
   have HN2:Hid (Calls Tryz.prog 87 #[.pointer (some ⟨R,0,none⟩),.int .i64 5] w1 (NumEnd w1 R base s (p+5) 5 l lim vk fx)):=nfNumber_any R (p+5) 5 base lim l vk fx s w1 h2 hs (Nf.nxt_ok ha).1 (by omega)
   obtain⟨Y,hY⟩:∃Y:Nat,Y=a+257:=⟨_,rfl⟩
   have hYi:(a:Int)+257=(Y:Int):=by omega
   have hYw0:IntKind.i64.wrap ((a:Int)+257)=(Y:Int):=by rw[hYi];exact wrap_i64_nat Y (by omega)
   have HYY:Hid (Y=a+257):=hY
   have hYb:257≤Y:=by omega
   clear ha h2 h3 HN1 hY
   go_wp2_with fail
   refine HN2.out.mono ?_
   rintro e w2 (⟨b,hb,rfl,h2,h3⟩|⟨hb,rfl,h3⟩)
   · have hbb:=(Nf.nxt_ok hb).2.2
     have HH2:Hid (Nf.nxt s 5 (p+5)=.ok b∧InF R base w w2):=⟨hb,HH1.out.2.trans (InF.of_only h3)⟩
     have HN3:Hid (Calls Tryz.prog 87 #[.pointer (some ⟨R,0,none⟩),.int .i64 4] w2 (NumEnd w2 R base s (p+10) 4 l lim vk fx)):=nfNumber_any R (p+10) 4 base lim l vk fx s w2 h2 hs (Nf.nxt_ok hb).1 (by omega)
     obtain⟨X,hX⟩:∃X:Nat,X=b+1:=⟨_,rfl⟩
     have hXi:(b:Int)+1=(X:Int):=by omega
     have hXw0:IntKind.i64.wrap ((b:Int)+1)=(X:Int):=by rw[hXi];exact wrap_i64_nat X (by omega)
     have HXX:Hid (X=b+1):=hX
     have hXb:1≤X:=by omega
     clear hb h2 h3 HN2 hX
     go_wp2_with fail
     refine HN3.out.mono ?_
     rintro e w3 (⟨c,hc,rfl,h2,h3⟩|⟨hc,rfl,h3⟩)
     · have hcb:=(Nf.nxt_ok hc).2.2
       have HA:Hid (Head3 s p a b c):=⟨HH1.out.1,HH2.out.1,hc⟩
       have HF3:Hid (InF R base w w3):=HH2.out.2.trans (InF.of_only h3)
       obtain⟨C,hC⟩:∃C:Nat,C=c+4:=⟨_,rfl⟩
       have hCi:(c:Int)+4=(C:Int):=by omega
       have hCw0:IntKind.i64.wrap ((c:Int)+4)=(C:Int):=by rw[hCi];exact wrap_i64_nat C (by omega)
       have HLL:Hid (Calls Tryz.prog 111 #[.pointer (some ⟨R,0,none⟩),.int .i64 (C:Int)] w3 (LolEnd w3 R base s l lim vk fx (Nf.lol s (c+4) 0 (p+14) (List.replicate 19 0)))):=by rw[←hC];exact nfLol_any R base (p+14) lim C l vk fx s w3 h2 hs (Nf.nxt_ok hc).1 (by omega)
       have hp14:=(Nf.nxt_ok hc).1
       clear hc h2 h3 HN3 hC HH1 HH2
       go_wp2_with fail
       refine HLL.out.mono ?_
       rintro e w5 (⟨BY,q3,g0,hL,rfl,hrow,hrl,h2,h3⟩|⟨c,hc,hc0,rfl,h3⟩)
       · have hlk:=Nf.lol_ok' hL hp14 (by decide)
         have HLOL:Hid (Nf.lol s (c+4) 0 (p+14) (List.replicate 19 0)=.ok (BY,q3)):=hL
         have HW5:Hid (DRow w5 g0 BY∧In w5 R base s q3 l lim vk fx∧InF R base w w5):=⟨hrow,h2,HF3.out.trans h3⟩
         have hq3:q3≤8*s.size:=hlk.2.2
         have HBL:Hid (BY.length=19∧Cd.valid BY=true):=⟨hrl,hlk.1⟩
         have HMY:Hid (∀W:World,InF R base w5 W→In W R base s q3 l lim vk fx→g0≠R→Calls Tryz.prog 112 #[.slice (some ⟨g0,0,none⟩) 19 19,.bool false] W fun e w'=>e=.returned (.bool (Nf.may BY false))∧w'=W):=fun W hf _ hg=>nfMay_any _ 19 19 BY false W (show DRow W g0 BY from hf.block hrow hg (by decide)).ints' hrl (by omega) hlk.1
         have hg0R:g0≠R:=fun e=>by
          obtain⟨vo,h1,_⟩:=h2
          subst e
          have e2:=h1.symm.trans hrow
          simp only[Option.some.injEq,Obj.cells.injEq] at e2
          exact absurd e2.2.1 (by decide)
         have HMY5:Hid (Calls Tryz.prog 112 #[.slice (some ⟨g0,0,none⟩) 19 19,.bool false] w5 fun e w'=>e=.returned (.bool (Nf.may BY false))∧w'=w5):=HMY.out w5 (InF.refl _ _ _) h2 hg0R
         clear hL hrow hrl h2 h3 hlk HLL HMY hg0R
         by_cases h286:Y≤286
         · have h286i:(Y:Int)≤286:=by omega
           by_cases h30:X≤30
           · have h30i:(X:Int)≤30:=by omega
             cases hmy:Nf.may BY false with
             | false=>
              rw[hmy] at HMY5
              have HF:Hid (BlkEnd w R base s lim vk fx ANS (fault 1) w5):=.inr (Fails.mk (c:=1) (HANS.out.trans (own_bad HA.out HLOL.out (fun g=>by rw[hmy] at g;exact absurd g.2.2 (by decide)) rfl)) (by decide) (HW5.out.2.2))
              go_wp2_with fail
              refine HMY5.out.mono ?_
              rintro e w8 ⟨rfl,hw8⟩
              replace hw8:=hw8.symm
              subst hw8
              go_wp2_with fail
              refine (insist_not _ 1 _ (by first|rfl|simp<;>omega)).mono ?_
              rintro e w9 ⟨rfl,hw9⟩
              replace hw9:=hw9.symm
              subst hw9
              unfold fault
              go_wp2_with fail
              exact⟨rfl,HF.out⟩
             | true=>
              rw[hmy] at HMY5
              have HCK:Hid (a+257≤286∧b+1≤30∧Nf.may BY false=true):=⟨by rw[←HYY.out];exact h286,by rw[←HXX.out];exact h30,hmy⟩
              have HBY:Hid (BY.length=19∧GoodC BY):=⟨HBL.out.1,goodC (Nf.may_ok (by rw[HBL.out.1];omega) HBL.out.2 hmy)⟩
              obtain⟨N,hN⟩:∃N,N=Y+X:=⟨_,rfl⟩
              obtain⟨Z,hZX⟩:∃Z,Z=X:=⟨_,rfl⟩
              have HAB0:Hid (N=a+257+(b+1)):=by show _=_;rw[hN,HYY.out,HXX.out]
              have HAB:Hid (Y=a+257∧N=a+257+(b+1)):=⟨HYY.out,HAB0.out⟩
              have HNN:Hid (N=Y+X∧Z=X):=⟨hN,hZX⟩
              have hYN0:Y<N:=by omega
              have hN400:N≤320:=by omega
              clear HBL hmy hN hZX hYi hYw0 hXi hXw0 hCi hCw0
              go_wp2_with fail
              refine HMY5.out.mono ?_
              rintro e w8 ⟨rfl,hw8⟩
              replace hw8:=hw8.symm
              subst hw8
              clear HMY5
              go_wp2_with fail
              refine (insist_of _ 1 _ (by first|rfl|simp<;>omega)).mono ?_
              rintro e w9 ⟨rfl,hw9⟩
              replace hw9:=hw9.symm
              subst hw9
              have HT0:Hid (Calls Tryz.prog 109 #[.slice (some ⟨g0,0,none⟩) 19 19] w5 (Treed w5 BY)):=numberTree_any _ 19 19 BY w5 HW5.out.1.ints' HBY.out.1 HBY.out.2
              have HRL:Hid (R<w5.heap.size):=HW5.out.2.1.lt
              go_upto_region 4 with fail
              go_wp2_with fail
              refine HT0.out.mono ?_
              intro e w6 ht
              obtain⟨rfl,t1,bl1⟩:=ht.tree HRL.out
              have HLN0:Hid (Calls Tryz.prog 113 #[.pointer (some ⟨R,0,none⟩),.pointer (some ⟨w5.heap.size,0,none⟩),.int .i64 (N:Int)] w6 (LensEnd w6 R base s l lim vk fx N (Nf.lens s BY N 400 q3 []))):=nfLens_any R base q3 lim w5.heap.size N l vk fx s BY w6 (HW5.out.2.1.kept bl1) hs hq3 t1 HBY.out.2 (by omega)
              have HF6:Hid (InF R base w w6):=HW5.out.2.2.trans (InF.of_below bl1)
              obtain⟨BT,hBT⟩:∃BT,BT=w5.heap.size:=⟨_,rfl⟩
              rw[←hBT] at HLN0 ⊢
              have hYX:(Y:Int)+(X:Int)=(N:Int):=by have:=HNN.out;omega
              have hYw:IntKind.i64.wrap ((Y:Int)+(X:Int))=(N:Int):=by rw[hYX];exact wrap_i64_nat N (by omega)
              have HB6:Hid (base≤w6.heap.size):=Nat.le_trans HB.out HF6.out.size
              clear ht t1 bl1 HT0 hBT HW5
              go_wp2_with fail
              refine HLN0.out.mono ?_
              rintro e W4 (⟨L,q4,ao,cap,hL,rfl,hOL,h2,h3⟩|⟨c,hc,hc0,rfl,h3⟩)
              · have hlo:=Nf.lens_ok HBY.out.2 (by rw[HBY.out.1];omega) hL hq3 rfl (Nat.zero_le _)
                obtain⟨g,rfl,hIA,hIB,hcap,hC⟩:=own_parts hOL hlo.2.1 hYN0 (show 256<N by omega)
                have HLN:Hid (L.length=N∧Y+Z=N):=⟨hlo.2.1,by have:=HNN.out;omega⟩
                have HVT:Hid (Cd.valid (L.take Y)=true∧Cd.valid (L.drop Y)=true):=⟨Nf.valid_sub hlo.1 (fun z hz=>List.mem_of_mem_take hz),Nf.valid_sub hlo.1 (fun z hz=>List.mem_of_mem_drop hz)⟩
                have HLNS:Hid (Nf.lens s BY N 400 q3 []=.ok (L,q4)):=hL
                have HI4:Hid (In W4 R base s q4 l lim vk fx∧InF R base w W4∧base≤W4.heap.size∧q4≤8*s.size):=⟨h2,HF6.out.trans h3,Nat.le_trans HB6.out h3.size,hlo.2.2⟩
                have HIA:Hid (Ints W4 (some ⟨g,0,none⟩) (L.take Y)):=hIA
                have HIB:Hid (Ints W4 (some ⟨g,Y,none⟩) (L.drop Y)):=hIB
                obtain⟨z,hz⟩:∃z,z=L.getD 256 0:=⟨_,rfl⟩
                rw[←hz] at hC
                have HZ:Hid (z=L.getD 256 0):=hz
                have cZ:W4.cell? ⟨g,256,none⟩=some (.int .i64 z):=hC
                clear hYX hYw
                have hYc:Y≤cap:=by omega
                have hYN:Y≤N:=by omega
                have hZN:N-Y=Z:=by have:=HNN.out;omega
                have hYci:(Y:Int)≤(cap:Int):=by omega
                have hYNi:(Y:Int)≤(N:Int):=by omega
                have h256:(256:Int)<(N:Int):=by omega
                have hcY:¬cap=Y:=by omega
                have hcY2:¬cap-Y=0:=by omega
                clear hL hOL h2 h3 hlo hIA hIB hC hz HLN0
                have HM1:Hid (Calls Tryz.prog 112 #[.slice (some ⟨g,0,none⟩) Y cap,.bool true] W4 fun e w'=>e=.returned (.bool (Nf.may (L.take Y) true))∧w'=W4):=nfMay_any _ cap Y (L.take Y) true W4 HIA.out (by rw[List.length_take,HLN.out.1];omega) (by omega) HVT.out.1
                have HM2:Hid (Calls Tryz.prog 112 #[.slice (some ⟨g,Y,none⟩) Z (cap-Y),.bool true] W4 fun e w'=>e=.returned (.bool (Nf.may (L.drop Y) true))∧w'=W4):=nfMay_any _ (cap-Y) Z (L.drop Y) true W4 HIB.out (by rw[List.length_drop,HLN.out.1];exact hZN) (by omega) HVT.out.2
                cases m1:Nf.may (L.take Y) true with
                | false=>
                 rw[m1] at HM1
                 have HF:Hid (BlkEnd w R base s lim vk fx ANS (fault 1) W4):=.inr (Fails.mk (c:=1) (HANS.out.trans (own_bad2 HA.out HLOL.out HCK.out HLNS.out (fun g=>by rw[m1] at g;exact absurd g.1 (by decide)) HAB.out)) (by decide) (HI4.out.2.1))
                 clear HM2
                 go_wp2_with fail
                 refine HM1.out.mono ?_
                 rintro e w8 ⟨rfl,hw8⟩
                 replace hw8:=hw8.symm
                 subst hw8
                 go_wp2_with fail
                 refine (insist_not _ 1 _ (by first|rfl|simp<;>omega)).mono ?_
                 rintro e w9 ⟨rfl,hw9⟩
                 replace hw9:=hw9.symm
                 subst hw9
                 unfold fault
                 go_wp2_with fail
                 exact⟨rfl,HF.out⟩
                | true=>
                 rw[m1] at HM1
                 cases m2:Nf.may (L.drop Y) true with
                 | false=>
                  rw[m2] at HM2
                  have HF:Hid (BlkEnd w R base s lim vk fx ANS (fault 1) W4):=.inr (Fails.mk (c:=1) (HANS.out.trans (own_bad2 HA.out HLOL.out HCK.out HLNS.out (fun g=>by rw[m2] at g;exact absurd g.2.1 (by decide)) HAB.out)) (by decide) (HI4.out.2.1))
                  go_wp2_with fail
                  refine HM1.out.mono ?_
                  rintro e w8 ⟨rfl,hw8⟩
                  replace hw8:=hw8.symm
                  subst hw8
                  go_wp2_with fail
                  refine HM2.out.mono ?_
                  rintro e w8 ⟨rfl,hw8⟩
                  replace hw8:=hw8.symm
                  subst hw8
                  go_wp2_with fail
                  refine (insist_not _ 1 _ (by first|rfl|simp<;>omega)).mono ?_
                  rintro e w9 ⟨rfl,hw9⟩
                  replace hw9:=hw9.symm
                  subst hw9
                  unfold fault
                  go_wp2_with fail
                  exact⟨rfl,HF.out⟩
                 | true=>
                  rw[m2] at HM2
                  go_wp2_with fail
                  refine HM1.out.mono ?_
                  rintro e w8 ⟨rfl,hw8⟩
                  replace hw8:=hw8.symm
                  subst hw8
                  go_wp2_with fail
                  refine HM2.out.mono ?_
                  rintro e w8 ⟨rfl,hw8⟩
                  replace hw8:=hw8.symm
                  subst hw8
                  clear HM1 HM2
                  go_wp2_with fail
                  refine (insist_of _ 1 _ (by first|rfl|simp<;>omega)).mono ?_
                  rintro e w9 ⟨rfl,hw9⟩
                  replace hw9:=hw9.symm
                  subst hw9
                  go_upto_region 6 with fail
                  by_cases m3:z=0
                  · have z0:(z != 0)=false:=by simp[m3]
                    have HF:Hid (BlkEnd w R base s lim vk fx ANS (fault 1) W4):=.inr (Fails.mk (c:=1) (HANS.out.trans (own_bad2 HA.out HLOL.out HCK.out HLNS.out (fun g=>g.2.2 (by rw[←HZ.out];exact m3)) HAB.out)) (by decide) (HI4.out.2.1))
                    subst m3
                    go_wp2_with fail
                    refine (insist_not _ 1 _ (by first|rfl|simp<;>omega)).mono ?_
                    rintro e w9 ⟨rfl,hw9⟩
                    replace hw9:=hw9.symm
                    subst hw9
                    unfold fault
                    go_wp2_with fail
                    exact⟨rfl,HF.out⟩
                  have zne:(z != 0)=true:=by simp[m3]
                  replace m3:L.getD 256 0≠0:=by rw[←HZ.out];exact m3
                  have zni:¬z=0:=by rw[HZ.out];exact m3
                  go_wp2_with fail
                  refine (insist_of _ 1 _ (by first|rfl|simp<;>omega)).mono ?_
                  rintro e w9 ⟨rfl,hw9⟩
                  replace hw9:=hw9.symm
                  subst hw9
                  have HLA:Hid ((L.take Y).length=Y∧GoodC (L.take Y)):=⟨by rw[List.length_take,HLN.out.1];omega,goodC (Nf.may_ok (by rw[List.length_take];omega) HVT.out.1 m1)⟩
                  have HLB:Hid ((L.drop Y).length=Z∧GoodC (L.drop Y)):=⟨by rw[List.length_drop,HLN.out.1];exact hZN,goodC (Nf.may_ok (by rw[List.length_drop,HLN.out.1];omega) HVT.out.2 m2)⟩
                  have HBODY:Hid (ANS=Nf.body s lim (L.take Y) (L.drop Y) Nf.fuel q4 l):=HANS.out.trans (own_body HA.out HLOL.out HCK.out HLNS.out ⟨m1,m2,m3⟩ HAB.out)
                  have HT1:Hid (Calls Tryz.prog 109 #[.slice (some ⟨g,0,none⟩) Y cap] W4.drew (Treed W4.drew (L.take Y))):=numberTree_any _ cap Y (L.take Y) W4.drew HIA.out HLA.out.1 HLA.out.2
                  have HR4:Hid (R<W4.drew.heap.size):=HI4.out.1.lt
                  generalize L.take Y=LA at*
                  generalize L.drop Y=LB at*
                  clear m1 m2 m3 HLN HVT HLNS HCK HLOL HANS cZ zne
                  go_upto_region 7 with fail
                  refine wp_region_held_drew (S:=fun _=>True) (by kernel_rfl) trivial (fun hHeld=>?_)
                  refine tkI (i:=0) (v:=.pointer (some ⟨R,0,none⟩)) rfl (Or.inl ⟨by rfl,?_⟩) hHeld ?_
                  · intro w' _
                    go_simp
                  try simp only[Act.put,litE]
                  refine tkI (i:=1) (v:=.slice (some ⟨g,0,none⟩) N cap) rfl (Or.inl ⟨by rfl,?_⟩) hHeld ?_
                  · intro w' _
                    go_simp
                  try simp only[Act.put,litE]
                  refine tkI (i:=2) (v:=.int .i64 (Y:Int)) rfl (Or.inl ⟨by rfl,?_⟩) hHeld ?_
                  · intro w' _
                    go_simp
                  try simp only[Act.put,litE]
                  refine tkI (i:=3) (v:=.slice (some ⟨g,0,none⟩) Y cap) rfl (Or.inl ⟨by rfl,?_⟩) hHeld ?_
                  · intro w' _
                    go_simp
                  try simp only[Act.put,litE]
                  refine tkI (i:=5) (v:=.slice (some ⟨g,0,none⟩) N cap) rfl (Or.inl ⟨by rfl,?_⟩) hHeld ?_
                  · intro w' _
                    go_simp
                  try simp only[Act.put,litE]
                  refine tkI (i:=6) (v:=.int .i64 (Y:Int)) rfl (Or.inl ⟨by rfl,?_⟩) hHeld ?_
                  · intro w' _
                    go_simp
                  try simp only[Act.put,litE]
                  refine tkI (i:=7) (v:=.slice (some ⟨g,Y,none⟩) Z (cap-Y)) rfl (Or.inl ⟨by rfl,?_⟩) hHeld ?_
                  · intro w' _
                    go_simp
                  try simp only[Act.put,litE]
                  refine wpAnyH_ready (rs:=[4]) (by kernel_rfl) (by simp) ?_
                  refine AllReadyH.cons rfl (fun K hK=>?_) AllReadyH.nil
                  go_simp
                  refine (HT1.out).mono ?_
                  intro e w6 ht
                  obtain⟨rfl,t1,bl1⟩:=ht.tree HR4.out
                  have HE:Hid (Tree w6 R W4.drew.heap.size LA∧Below W4.heap.size W4 w6∧R<w6.heap.size):=⟨t1,((Below.refl _ W4).drew).trans bl1,Nat.lt_of_lt_of_le HR4.out bl1.size⟩
                  have HT2:Hid (Calls Tryz.prog 109 #[.slice (some ⟨g,Y,none⟩) Z (cap-Y)] w6 (Treed w6 LB)):=numberTree_any _ (cap-Y) Z LB w6 (HIB.out.kept HE.out.2.1) HLB.out.1 HLB.out.2
                  obtain⟨BA,hBA⟩:∃BA,BA=W4.drew.heap.size:=⟨_,rfl⟩
                  rw[←hBA] at HE ⊢
                  clear ht t1 bl1 HT1 hBA
                  refine hK.out _ _ trivial (fun hHeld=>?_)
                  clear hK K
                  try simp only[Act.put,litE]
                  refine wpAnyH_ready (rs:=[8]) (by kernel_rfl) (by simp) ?_
                  refine AllReadyH.cons rfl (fun K hK=>?_) AllReadyH.nil
                  go_simp
                  refine (HT2.out).mono ?_
                  intro e w7 ht
                  obtain⟨rfl,t2,bl2⟩:=ht.tree HE.out.2.2
                  have bw7:Below W4.heap.size W4 w7:=HE.out.2.1.trans (bl2.mono HE.out.2.1.size)
                  have HBD:Hid (Calls Tryz.prog 110 #[.pointer (some ⟨R,0,none⟩),.agg #[.pointer (some ⟨BA,0,none⟩),.pointer (some ⟨w6.heap.size,0,none⟩)]] w7 (BlkEnd w7 R base s lim vk fx (Nf.body s lim LA LB Nf.fuel q4 l))):=
                   nfBody_any R base q4 lim BA w6.heap.size l vk fx s LA LB w7 (HI4.out.1.kept bw7) (Nat.le_trans HI4.out.2.2.1 bw7.size) hs HI4.out.2.2.2 hl hlim (HE.out.1.kept bl2) t2 HLA.out.2 HLB.out.2 (by have:=HLA.out.1;omega)
                  have HF7:Hid (InF R base w w7):=HI4.out.2.1.trans (InF.of_below bw7)
                  obtain⟨BB,hBB⟩:∃BB,BB=w6.heap.size:=⟨_,rfl⟩
                  rw[←hBB] at HBD ⊢
                  clear ht t2 bl2 bw7 HT2 HE hBB
                  refine hK.out _ _ trivial (fun hHeld=>?_)
                  clear hK K
                  try simp only[Act.put,litE]
                  refine tkI (i:=9) (v:=.agg #[.pointer (some ⟨BA,0,none⟩),.pointer (some ⟨BB,0,none⟩)]) rfl (Or.inl ⟨by rfl,?_⟩) hHeld ?_
                  · intro w' _
                    go_simp
                  try simp only[Act.put,litE]
                  refine wpAnyH_ready (rs:=[10]) (by kernel_rfl) (by simp) ?_
                  refine AllReadyH.cons rfl (fun K hK=>?_) AllReadyH.nil
                  go_simp
                  refine (HBD.out).mono ?_
                  rintro e w8 (⟨L,q,h1,⟨r,rfl⟩,h3,h4,h5⟩|⟨c,h1,h2,rfl,h3⟩)
                  · have HF:Hid (BlkEnd w R base s lim vk fx ANS (.returned (.tuple #[])) w8):=.inl ⟨L,q,by rw[HBODY.out];exact h1,⟨_,rfl⟩,h3,HF7.out.trans h4,h5⟩
                    clear h1 h3 h4 h5 HBD
                    refine hK.out _ _ trivial (fun hHeld=>?_)
                    clear hK K
                    try simp only[Act.put,litE]
                    refine wpAnyH_done (by kernel_rfl) ?_ _
                    try simp only[Act.put,litE]
                    go_wp2_with fail
                    go_end0
                    exact HF.out
                  have HF:Hid (BlkEnd w R base s lim vk fx ANS (fault (c:Int)) w8):=.inr ⟨c,by rw[HBODY.out];exact h1,h2,rfl,HF7.out.trans h3⟩
                  clear h1 h3 HBD
                  unfold fault
                  go_wp2_with fail
                  exact⟨rfl,HF.out⟩
              have HF:Hid (BlkEnd w R base s lim vk fx ANS (fault (c:Int)) W4):=.inr (Fails.mk (HANS.out.trans (own_lens HA.out HLOL.out HCK.out hc HAB0.out)) hc0 (HF6.out.trans h3))
              clear hc h3 HLN0
              unfold fault
              go_wp2_with fail
              exact⟨rfl,HF.out⟩
           have h30i:¬(X:Int)≤30:=by omega
           have HF:Hid (BlkEnd w R base s lim vk fx ANS (fault 1) w5):=.inr (Fails.mk (c:=1) (HANS.out.trans (own_bad HA.out HLOL.out (fun g=>h30 (by rw[HXX.out];exact g.2.1)) rfl)) (by decide) (HW5.out.2.2))
           go_wp2_with fail
           refine (insist_not _ 1 _ (by first|rfl|simp<;>omega)).mono ?_
           rintro e w9 ⟨rfl,hw9⟩
           replace hw9:=hw9.symm
           subst hw9
           unfold fault
           go_wp2_with fail
           exact⟨rfl,HF.out⟩
         have h286i:¬(Y:Int)≤286:=by omega
         have HF:Hid (BlkEnd w R base s lim vk fx ANS (fault 1) w5):=.inr (Fails.mk (c:=1) (HANS.out.trans (own_bad HA.out HLOL.out (fun g=>h286 (by rw[HYY.out];exact g.1)) rfl)) (by decide) (HW5.out.2.2))
         go_wp2_with fail
         refine (insist_not _ 1 _ (by first|rfl|simp<;>omega)).mono ?_
         rintro e w9 ⟨rfl,hw9⟩
         replace hw9:=hw9.symm
         subst hw9
         unfold fault
         go_wp2_with fail
         exact⟨rfl,HF.out⟩
       have HF:Hid (BlkEnd w R base s lim vk fx ANS (fault (c:Int)) w5):=.inr (Fails.mk (HANS.out.trans (own_lol HA.out hc)) hc0 (HF3.out.trans h3))
       clear hc h3 HLL
       unfold fault
       go_wp2_with fail
       exact⟨rfl,HF.out⟩
     have HF:Hid (BlkEnd w R base s lim vk fx ANS (fault 2) w3):=.inr (Fails.mk (c:=2) (HANS.out.trans (own_c HH1.out.1 HH2.out.1 hc)) (by decide) (HH2.out.2.trans h3))
     clear hc h3 HN3
     unfold fault
     go_wp2_with fail
     exact⟨rfl,HF.out⟩
   have HF:Hid (BlkEnd w R base s lim vk fx ANS (fault 2) w2):=.inr (Fails.mk (c:=2) (HANS.out.trans (own_b HH1.out.1 hb)) (by decide) (HH1.out.2.trans h3))
   clear hb h3 HN2
   unfold fault
   go_wp2_with fail
   exact⟨rfl,HF.out⟩
 have HF:Hid (BlkEnd w R base s lim vk fx ANS (fault 2) w1):=.inr (Fails.mk (c:=2) (HANS.out.trans (own_a ha)) (by decide) (h3))
 clear ha h3 HN1
 unfold fault
 go_wp2_with fail
 exact⟨rfl,HF.out⟩
end Go.Proofs.YtejebodgfoihkaaGreat
