/- Deflate of the specification: its parts. -/
import Derived.Test.YtejebodgfoihkaaGreatKFInflateTwox0a
import Derived.Test.YtejebodgfoihkaaGreatKFInflateTwox0
import Derived.Test.YtejebodgfoihkaaGreatKFInflateTwox6
import Derived.Test.YtejebodgfoihkaaGreatVFInflateTwoDfOwnT
import Derived.Test.YtejebodgfoihkaaGreatKFInflateTwox1
import Derived.Test.YtejebodgfoihkaaGreatVFInflateTwoPutWalks
import Derived.Test.YtejebodgfoihkaaGreatVFInflateTwoEachReg
namespace Go.Proofs.YtejebodgfoihkaaGreat
open Go.RowKit

theorem stored_bytes (s:ByteArray):(⟨#[UInt8.ofNat 1]⟩:ByteArray)++⟨(Pt.low s.size 2).toArray⟩++⟨(Pt.low (65535-s.size) 2).toArray⟩++s=Df.bytes (Df.stored (Df.nums s)):=by
 have e:(Df.nums s).map UInt8.ofNat=s.data.toList:=by
  unfold Df.nums
  rw[List.map_map]
  refine (List.map_congr_left (g:=id) (fun c _=>?_)).trans (List.map_id _)
  exact UInt8.ofNat_toNat
 apply ByteArray.ext
 unfold Df.bytes Df.stored
 rw[List.map_append,Df.nums_len,e]
 simp[Pt.low,ByteArray.data_append]
theorem lay_textD {b:Nat} {w:World} {ns:List Nat} (h3:∀j (h:j<ns.length),w.cell? ⟨b,j,none⟩=some (.int .u8 (ns[j]:Int))):
 Sem.run Tryz.prog (convert 22 9 (.slice (some ⟨b,0,none⟩) ns.length ns.length)) w=.ok (.string ⟨(ns.map UInt8.ofNat).toArray⟩) w:=by
 refine run_text w ⟨b,0,none⟩ ns.length ns (fun j v hj=>?_)
 rw[List.getElem?_map] at hj
 cases hn:ns[j]? with
 | none=>rw[hn] at hj;cases hj
 | some x=>
  rw[hn] at hj
  obtain⟨hl,hx⟩:=List.getElem?_eq_some_iff.1 hn
  have:=h3 j hl
  rw[hx] at this
  simp only[Option.map_some,Option.some.injEq] at hj
  rw[←hj]
  have e:(Addr.mk b 0 none).add j=⟨b,j,none⟩:=by unfold Addr.add;split<;>simp_all
  rw[e]
  exact this
theorem layD1 (w:World) (a:Nat):Lay (.slice (some ⟨w.heap.size,0,none⟩) 1 1) (w.alloc (.cells #[.int .u8 (a:Int)] 5)) [a]:=
 ⟨w.heap.size,rfl,by simp,fun j h=>by
  match j,h with
  | 0,_=>simp⟩
set_option maxHeartbeats 2000000 in
set_option maxRecDepth 20000 in
set_option linter.unusedSimpArgs false in
theorem l5Stored_any (s:ByteArray) (w:World) (hs:s.size≤5000):
 Calls Tryz.prog 41 #[.string s] w fun e w'=>e=.returned (.string (Df.bytes (Df.stored (Df.nums s))))∧Below w.heap.size w w':=by
 obtain⟨n,hn⟩:∃n,n=s.size:=⟨_,rfl⟩
 have HSB0:Hid ((⟨#[UInt8.ofNat 1]⟩:ByteArray)++⟨(Pt.low n 2).toArray⟩++⟨(Pt.low (65535-n) 2).toArray⟩++s=Df.bytes (Df.stored (Df.nums s))):=by rw[hn];exact stored_bytes s
 have HL1:Hid (∀w:World,Calls Tryz.prog 70 #[.int .i64 (n:Int),.int .i64 2,.bool false] w fun e w'=>e=.returned (.string ⟨(Pt.low n 2).toArray⟩)∧Below w.heap.size w w'):=fun w=>l1Num_low n 2 w (by omega) (by omega)
 obtain⟨m,hm⟩:∃m,m=65535-n:=⟨_,rfl⟩
 have em:(65535:Int)-(n:Int)=(m:Int):=by omega
 have HL2:Hid (∀w:World,Calls Tryz.prog 70 #[.int .i64 (m:Int),.int .i64 2,.bool false] w fun e w'=>e=.returned (.string ⟨(Pt.low m 2).toArray⟩)∧Below w.heap.size w w'):=fun w=>l1Num_low m 2 w (by omega) (by omega)
 have hl1:(Pt.low n 2).length≤2:=by rw[Pt.low_len];omega
 have hl2:(Pt.low m 2).length≤2:=by rw[Pt.low_len];omega
 rw[←hm] at HSB0
 clear hm
 have hsz:s.size=n:=hn.symm
 have hnb:n≤5000:=by omega
 have wm:=wrap_i64_nat m (by omega)
 generalize Pt.low n 2=T1 at*
 generalize Pt.low m 2=T2 at*
 generalize Df.bytes (Df.stored (Df.nums s))=T at*
 obtain⟨X1,hX1⟩:∃X,X=[1].map UInt8.ofNat:=⟨_,rfl⟩
 have HX1:Hid (X1=[1].map UInt8.ofNat):=hX1
 have lX1:X1.length≤1:=by rw[hX1];exact Nat.le_refl _
 obtain⟨E1,hE1⟩:∃X,X=X1++T1:=⟨_,rfl⟩
 have HE1:Hid (E1=X1++T1):=hE1
 have lE1:E1.length≤3:=by rw[hE1,List.length_append];omega
 obtain⟨E2,hE2⟩:∃X,X=E1++T2:=⟨_,rfl⟩
 have HE2:Hid (E2=E1++T2):=hE2
 have lE2:E2.length≤5:=by rw[hE2,List.length_append];omega
 have HSB:Hid (⟨E2.toArray⟩++s=T):=by
  show _=_
  rw[←HSB0.out,hE2,hE1,hX1,←ByteArray.mk_append_mk,←ByteArray.mk_append_mk]
  rfl
 clear hX1 hE1 hE2 HSB0
 clear hn
 go_enter Tryz.func41,Tryz.ntmps41
 go_wp2_with fail
 refine wp_region_told (S:=(fun wz=>Below w.heap.size w wz)) 13 16 [.lay [1],.is (.string ⟨(X1).toArray⟩),.is (.string s),.is (.int .i64 (n:Int)),.is (.string ⟨(T1).toArray⟩),.is (.string ⟨(E1).toArray⟩),.is (.string s),.is (.int .i64 (n:Int)),.is (.int .i64 (m:Int)),.is (.string ⟨(T2).toArray⟩),.is (.string ⟨(E2).toArray⟩),.is (.string s),.is (.string T)] (by kernel_rfl) (by kernel_rfl) (by rfl) (fun _ _ _ _ hd h=>⟨hd.trans h.1,h.2⟩) (fun vs=>by simp only[puts,List.getElem?_toArray,List.getElem?_cons_succ,List.getElem?_cons_zero,Option.bind_some,Act.put,List.setIfInBounds_toArray,List.set_cons_zero,List.set_cons_succ];exact rfl) ((Below.refl _ _).drew) ?_ ?_
 · refine TellsFrom.cons rfl (fun vs wz hS hd K hK=>?_) ?_
   · try dsimp only at hK ⊢
     try simp only[Act.put,litE]
     go_simp
     exact hK.out _ _ (hS.trans (((Below.refl _ _).alloc (Nat.le_refl _) _).mono hS.size)) ((Below.refl _ _).alloc (Nat.le_refl _) _) (layD1 wz 1)
   refine TellsFrom.cons rfl (fun vs wz hS hd K hK=>?_) ?_
   · try dsimp only at hK ⊢
     have h0:Lay (vs 0) wz [1]:=hd 0 (by kernel_rfl)
     generalize vs 0=x0 at*
     obtain⟨B0,rfl,hB0,hC0⟩:=h0
     try simp only[Act.put,litE]
     have ht:Sem.run Tryz.prog (convert 22 9 (.slice (some ⟨B0,0,none⟩) 1 1)) wz=.ok (.string ⟨X1.toArray⟩) wz:=by rw[HX1.out];exact lay_textD hC0
     go_simp
     exact hK.out _ _ hS (Below.refl _ _) rfl
   refine TellsFrom.cons rfl (fun vs wz hS hd K hK=>?_) ?_
   · try dsimp only at hK ⊢
     try simp only[Act.put,litE]
     go_simp
     exact hK.out _ _ hS (Below.refl _ _) rfl
   refine TellsFrom.cons rfl (fun vs wz hS hd K hK=>?_) ?_
   · try dsimp only at hK ⊢
     have h2:vs 2=(.string s):=hd 2 (by kernel_rfl)
     generalize vs 2=x2 at*
     subst h2
     try simp only[Act.put,litE]
     go_simp
     exact hK.out _ _ hS (Below.refl _ _) rfl
   refine TellsFrom.cons rfl (fun vs wz hS hd K hK=>?_) ?_
   · try dsimp only at hK ⊢
     have h3:vs 3=(.int .i64 (n:Int)):=hd 3 (by kernel_rfl)
     generalize vs 3=x3 at*
     subst h3
     try simp only[Act.put,litE]
     go_simp
     refine (HL1.out _).mono ?_
     rintro e v1 ⟨rfl,b1⟩
     exact hK.out _ _ (Below.trans hS (b1.mono hS.size)) b1 rfl
   refine TellsFrom.cons rfl (fun vs wz hS hd K hK=>?_) ?_
   · try dsimp only at hK ⊢
     have h1:vs 1=(.string ⟨(X1).toArray⟩):=hd 1 (by kernel_rfl)
     generalize vs 1=x1 at*
     subst h1
     have h4:vs 4=(.string ⟨(T1).toArray⟩):=hd 4 (by kernel_rfl)
     generalize vs 4=x4 at*
     subst h4
     try simp only[Act.put,litE]
     have hlen:¬9223372036854775807<X1.length+T1.length:=by omega
     go_simp
     first|exact hK.out _ _ hS (Below.refl _ _) (show Value.string ⟨(X1++T1).toArray⟩=.string ⟨E1.toArray⟩ by rw[HE1.out])|exact hK.out _ _ hS (Below.refl _ _) (show Value.string (⟨X1.toArray⟩++⟨T1.toArray⟩)=.string ⟨E1.toArray⟩ by rw[HE1.out,ByteArray.mk_append_mk])
   refine TellsFrom.cons rfl (fun vs wz hS hd K hK=>?_) ?_
   · try dsimp only at hK ⊢
     try simp only[Act.put,litE]
     go_simp
     exact hK.out _ _ hS (Below.refl _ _) rfl
   refine TellsFrom.cons rfl (fun vs wz hS hd K hK=>?_) ?_
   · try dsimp only at hK ⊢
     have h6:vs 6=(.string s):=hd 6 (by kernel_rfl)
     generalize vs 6=x6 at*
     subst h6
     try simp only[Act.put,litE]
     go_simp
     exact hK.out _ _ hS (Below.refl _ _) rfl
   refine TellsFrom.cons rfl (fun vs wz hS hd K hK=>?_) ?_
   · try dsimp only at hK ⊢
     have h7:vs 7=(.int .i64 (n:Int)):=hd 7 (by kernel_rfl)
     generalize vs 7=x7 at*
     subst h7
     try simp only[Act.put,litE]
     go_simp
     exact hK.out _ _ hS (Below.refl _ _) rfl
   refine TellsFrom.cons rfl (fun vs wz hS hd K hK=>?_) ?_
   · try dsimp only at hK ⊢
     have h8:vs 8=(.int .i64 (m:Int)):=hd 8 (by kernel_rfl)
     generalize vs 8=x8 at*
     subst h8
     try simp only[Act.put,litE]
     go_simp
     refine (HL2.out _).mono ?_
     rintro e v1 ⟨rfl,b1⟩
     exact hK.out _ _ (Below.trans hS (b1.mono hS.size)) b1 rfl
   refine TellsFrom.cons rfl (fun vs wz hS hd K hK=>?_) ?_
   · try dsimp only at hK ⊢
     have h5:vs 5=(.string ⟨(E1).toArray⟩):=hd 5 (by kernel_rfl)
     generalize vs 5=x5 at*
     subst h5
     have h9:vs 9=(.string ⟨(T2).toArray⟩):=hd 9 (by kernel_rfl)
     generalize vs 9=x9 at*
     subst h9
     try simp only[Act.put,litE]
     have hlen:¬9223372036854775807<E1.length+T2.length:=by omega
     go_simp
     first|exact hK.out _ _ hS (Below.refl _ _) (show Value.string ⟨(E1++T2).toArray⟩=.string ⟨E2.toArray⟩ by rw[HE2.out])|exact hK.out _ _ hS (Below.refl _ _) (show Value.string (⟨E1.toArray⟩++⟨T2.toArray⟩)=.string ⟨E2.toArray⟩ by rw[HE2.out,ByteArray.mk_append_mk])
   refine TellsFrom.cons rfl (fun vs wz hS hd K hK=>?_) ?_
   · try dsimp only at hK ⊢
     try simp only[Act.put,litE]
     go_simp
     exact hK.out _ _ hS (Below.refl _ _) rfl
   refine TellsFrom.cons rfl (fun vs wz hS hd K hK=>?_) ?_
   · try dsimp only at hK ⊢
     have h10:vs 10=(.string ⟨(E2).toArray⟩):=hd 10 (by kernel_rfl)
     generalize vs 10=x10 at*
     subst h10
     have h11:vs 11=(.string s):=hd 11 (by kernel_rfl)
     generalize vs 11=x11 at*
     subst h11
     try simp only[Act.put,litE]
     have hlen:¬9223372036854775807<E2.length+n:=by omega
     go_simp
     exact hK.out _ _ hS (Below.refl _ _) (by show Value.string _=.string T;rw[HSB.out])
   exact TellsFrom.nil
 intro vs wz hS hd
 try dsimp only
 have h12:vs 12=.string T:=hd 12 (by omega)
 clear hd
 generalize vs 0=y0 at*
 generalize vs 1=y1 at*
 generalize vs 2=y2 at*
 generalize vs 3=y3 at*
 generalize vs 4=y4 at*
 generalize vs 5=y5 at*
 generalize vs 6=y6 at*
 generalize vs 7=y7 at*
 generalize vs 8=y8 at*
 generalize vs 9=y9 at*
 generalize vs 10=y10 at*
 generalize vs 11=y11 at*
 generalize vs 12=y12 at*
 subst h12
 refine tkI (i:=13) (v:=.string T) rfl (Or.inl ⟨by rfl,?_⟩) trivial ?_
 · intro wy _
   go_simp
 refine wpAnyH_done (by kernel_rfl) ?_ _
 try simp only[Act.put,litE]
 go_wp2_with fail
 go_ret
 exact⟨rfl,hS⟩

def HeadRow (w:World) (v:Int) (w1:World):Prop:=OwnP w1 w.heap.size (.slice (some ⟨w.heap.size,0,none⟩) 2 2) 2 [(1,1),(v,2)]
theorem headRow_new (w:World) (v:Int):HeadRow w v (w.alloc (.cells #[.int .i64 1,.int .i64 1,.int .i64 v,.int .i64 2] 38)):=World.ownsRow_lit w #[.int .i64 1,.int .i64 1,.int .i64 v,.int .i64 2] 2 (Nat.le_refl _) (by decide) rfl
def DefEnd (s:ByteArray) (k:Nat) (w:World) (e:Ending) (w':World):Prop:=(∃T,e=.returned (.string (Df.bytes T))∧Df.Packed s k T)∧Below w.heap.size w w'
set_option maxHeartbeats 2000000 in
theorem l5Deflate_0 (s:ByteArray) (w:World) (hs:s.size≤5000):Calls Tryz.prog 24 #[.string s,.int .i64 0] w (DefEnd s 0 w):=by
 have HST:Hid (∀w:World,Calls Tryz.prog 41 #[.string s] w fun e w'=>e=.returned (.string (Df.bytes (Df.stored (Df.nums s))))∧Below w.heap.size w w'):=fun w=>l5Stored_any s w hs
 go_enter Tryz.func24,Tryz.ntmps24
 go_wp2_with fail
 refine (HST.out _).mono ?_
 rintro e w1 ⟨rfl,b1⟩
 have HE:Hid (DefEnd s 0 w (.returned (.string (Df.bytes (Df.stored (Df.nums s))))) w1):=⟨⟨_,rfl,by unfold Df.Packed;rw[if_pos rfl]⟩,b1⟩
 generalize Df.bytes (Df.stored (Df.nums s))=T at*
 go_wp2_with fail
 go_ret
 exact HE.out
set_option maxHeartbeats 2000000 in
set_option maxRecDepth 20000 in
theorem l5Deflate_2 (s:ByteArray) (w:World) (hs:s.size≤5000):Calls Tryz.prog 24 #[.string s,.int .i64 2] w (DefEnd s 2 w):=by
 have hsm:=Ty.small hs
 have hlen:=Ty.from_len s 0
 have HTK:Hid (∀w:World,Calls Tryz.prog 44 #[.string s] w (TkIs w (Ty.from_ s 0))):=fun w=>l5Tokens_is s w hs
 have HPK:Hid (∀LS LD BY,Df.IsOwn (Ty.from_ s 0) LS LD BY→Df.Packed s 2 (Bp.text false ([(1,1),(2,2)]++Df.own LS LD BY (Ty.from_ s 0)))):=fun LS LD BY h=>by
  unfold Df.Packed
  rw[if_neg (by decide),if_neg (by decide)]
  exact⟨LS,LD,BY,h,rfl⟩
 generalize Ty.from_ s 0=l at*
 have HSM:Hid (Df.Small l):=hsm
 have hN5:l.length≤5000:=by omega
 clear hsm hlen
 have HH:=headRow_new w 2
 have HHH:Hid (HeadRow w 2 (w.alloc (.cells #[.int .i64 1,.int .i64 1,.int .i64 2,.int .i64 2] 38))):=HH
 clear HH
 have b0:Below w.heap.size w (w.alloc (.cells #[.int .i64 1,.int .i64 1,.int .i64 2,.int .i64 2] 38)):=(Below.refl _ _).alloc (Nat.le_refl _) _
 have HB0:Hid (Below w.heap.size w (w.alloc (.cells #[.int .i64 1,.int .i64 1,.int .i64 2,.int .i64 2] 38))):=b0
 clear b0
 obtain⟨W0,hW0⟩:∃W0,W0=w.alloc (.cells #[.int .i64 1,.int .i64 1,.int .i64 2,.int .i64 2] 38):=⟨_,rfl⟩
 rw[←hW0] at HHH HB0
 go_enter Tryz.func24,Tryz.ntmps24
 go_wp2_with fail
 rw[←hW0]
 clear hW0
 refine (HTK.out _).mono ?_
 rintro e w1 ⟨ao,cap,rfl,hO,b1⟩
 have HT1:Hid (∃ao',Toks w1 ao' l∧ao=ao'):=by
  obtain⟨ao',cap',e',ht⟩:=OwnK.toks hO
  cases e'
  exact⟨ao,ht,rfl⟩
 have HH1:Hid (HeadRow w 2 w1∧Below w.heap.size w w1):=⟨OwnP.below HHH.out b1,HB0.out.trans (b1.mono HB0.out.size)⟩
 clear hO b1 HHH HB0
 obtain⟨N,hN⟩:∃N,N=l.length:=⟨_,rfl⟩
 have HL5:Hid (Calls Tryz.prog 47 #[.slice ao N cap] w1 (OwnEndS w1 l)):=by
  obtain⟨ao',ht,e'⟩:=HT1.out
  subst e'
  exact l5Own_any ao N cap l w1 ht hN.symm (by omega) HSM.out.ok
 rw[←hN]
 clear hN HT1
 go_wp2_with fail
 refine HL5.out.mono ?_
 rintro e w2 ⟨LS,LD,BY,hio,⟨⟨a,L,cp,rfl,hO⟩,b2⟩⟩
 have hfit:=Df.own_fits HSM.out hio (v:=2) (.inr rfl)
 have hLl:L=(Df.own LS LD BY l).length:=hO.len.symm
 have hL0:0<L∧L≤30000:=by
  have h1:=Df.toks_len LS LD l
  have h2:=Df.runs_len (Df.joined LS LD)
  have h3:=Df.joined_len (LS:=LS) (LD:=LD)
  have h4:LS.length=286:=by rw[hio.1.len,Df.oftS_len]
  have h5:LD.length=30:=by rw[hio.2.1.len,Df.cntD_len]
  have h6:=Df.used_le (Df.ordered BY) 4
  rw[Df.ordered_len] at h6
  rw[hLl]
  unfold Df.own Df.head Df.body Df.threes Df.top
  simp only[List.length_append,List.length_map,List.length_take,Df.runBits_len,List.length_cons,List.length_nil]
  omega
 have HO2:Hid (OwnP w2 w1.heap.size (.slice a L cp) L (Df.own LS LD BY l)∧HeadRow w 2 w2∧Below w.heap.size w w2):=⟨hO,OwnP.below HH1.out.1 b2,HH1.out.2.trans (b2.mono HH1.out.2.size)⟩
 have HPT:=HPK.out LS LD BY hio
 have HFT:Hid (Bp.Fits ([(1,1),(2,2)]++Df.own LS LD BY l) ([(1,1),(2,2)]++Df.own LS LD BY l).length∧Df.Packed s 2 (Bp.text false ([(1,1),(2,2)]++Df.own LS LD BY l))):=⟨hfit,HPT⟩
 obtain⟨XL,hXL⟩:∃XL,XL=Df.own LS LD BY l:=⟨_,rfl⟩
 rw[←hXL] at HO2 HFT
 clear hfit HPT hLl hO b2 HH1 hXL HPK HL5
 go_wp2_with (at_builtin;refine wpList_appQ (by rfl) _ _ (by rfl) w.heap.size _ 2 [(1,1),(2,2)] (by rfl) HO2.out.2.1 w1.heap.size a L cp XL (by rfl) HO2.out.1 hL0.1 (by omega) HO2.out.2.2.size ?_)
 intro g cap9 w9 hown9 hb9
 have HP:Hid (Calls Tryz.prog 42 #[.slice (some ⟨g,0,none⟩) (2+L) cap9,.bool false] w9 fun e w'=>e=.returned (.string ⟨((Bp.text false ([(1,1),(2,2)]++XL)).map UInt8.ofNat).toArray⟩)∧Below w9.heap.size w9 w'):=by
  obtain⟨ax,cx,e,hb⟩:=OwnP.bits hown9
  cases e
  exact l1Put_low _ (2+L) cap9 _ w9 hb hown9.len (by omega) HFT.out.1
 have HB9:Hid (Below w.heap.size w w9):=HO2.out.2.2.trans hb9
 have HPD:Hid (Df.Packed s 2 (Bp.text false ([(1,1),(2,2)]++XL))):=HFT.out.2
 generalize Bp.text false ([(1,1),(2,2)]++XL)=TX at*
 clear hown9 hb9 HO2 HFT
 go_wp2_with fail
 refine HP.out.mono ?_
 rintro e w10 ⟨rfl,b10⟩
 have HE:Hid (DefEnd s 2 w (.returned (.string (Df.bytes TX))) w10):=⟨⟨TX,rfl,HPD.out⟩,HB9.out.trans (b10.mono HB9.out.size)⟩
 clear b10
 unfold Df.bytes at HE
 go_wp2_with fail
 go_ret
 exact HE.out
set_option maxHeartbeats 2000000 in
set_option maxRecDepth 20000 in
theorem l5Deflate_1 (s:ByteArray) (w:World) (hs:s.size≤5000):Calls Tryz.prog 24 #[.string s,.int .i64 1] w (DefEnd s 1 w):=by
 have hsm:=Ty.small hs
 have hlen:=Ty.from_len s 0
 have HTK:Hid (∀w:World,Calls Tryz.prog 44 #[.string s] w (TkIs w (Ty.from_ s 0))):=fun w=>l5Tokens_is s w hs
 have HPK:Hid (Df.Packed s 1 (Bp.text false ([(1,1),(1,2)]++Df.body Df.fixS Df.fixD (Ty.from_ s 0)))):=by
  show Df.Packed _ _ _
  unfold Df.Packed
  rw[if_neg (by decide),if_pos rfl]
 generalize Ty.from_ s 0=l at*
 have HSM:Hid (Df.Small l):=hsm
 have hN5:l.length≤5000:=by omega
 have HFT:Hid (Bp.Fits ([(1,1),(1,2)]++Df.body Df.fixS Df.fixD l) ([(1,1),(1,2)]++Df.body Df.fixS Df.fixD l).length):=Df.flat_fits hsm Df.fixS_ok Df.fixD_ok (by rw[Df.fixS_len];omega) (by rw[Df.fixD_len];omega) Df.fixS_le Df.fixD_le
 clear hsm hlen
 have HHH:Hid (HeadRow w 1 (w.alloc (.cells #[.int .i64 1,.int .i64 1,.int .i64 1,.int .i64 2] 38))):=headRow_new w 1
 have HB0:Hid (Below w.heap.size w (w.alloc (.cells #[.int .i64 1,.int .i64 1,.int .i64 1,.int .i64 2] 38))):=(Below.refl _ _).alloc (Nat.le_refl _) _
 obtain⟨W0,hW0⟩:∃W0,W0=w.alloc (.cells #[.int .i64 1,.int .i64 1,.int .i64 1,.int .i64 2] 38):=⟨_,rfl⟩
 rw[←hW0] at HHH HB0
 have HSA:Hid (∀w:World,Calls Tryz.prog 46 #[.int .i64 5,.int .i64 32] w fun e w'=>(∃a c,e=.returned (.slice a 32 c)∧OwnI w' w.heap.size (.slice a 32 c) 32 Df.fixD)∧Below w.heap.size w w'):=fun w=>l4Same_any 5 32 (by omega) w
 go_enter Tryz.func24,Tryz.ntmps24
 go_wp2_with fail
 rw[←hW0]
 clear hW0
 refine (HTK.out _).mono ?_
 rintro e w1 ⟨ao,cap,rfl,hO,b1⟩
 have HT1:Hid (Toks w1 ao l):=by
  obtain⟨ao',cap',e',ht⟩:=OwnK.toks hO
  cases e'
  exact ht
 have HH1:Hid (HeadRow w 1 w1∧Below w.heap.size w w1):=⟨OwnP.below HHH.out b1,HB0.out.trans (b1.mono HB0.out.size)⟩
 clear hO b1 HHH HB0
 obtain⟨N,hN⟩:∃N,N=l.length:=⟨_,rfl⟩
 rw[←hN]
 have HN:Hid (N=l.length):=hN
 have hNb:N≤5000:=by omega
 clear hN
 go_wp2_with fail
 refine (l4Fixed_any w1).mono ?_
 rintro e w2 ⟨⟨sa,sc,rfl,hS⟩,b2⟩
 have HS2:Hid (Ints w2 sa Df.fixS∧Toks w2 ao l∧HeadRow w 1 w2∧Below w.heap.size w w2):=by
  obtain⟨a',c',e',ho⟩:=OwnI.owns hS
  cases e'
  exact⟨ho.ints,HT1.out.kept b2,OwnP.below HH1.out.1 b2,HH1.out.2.trans (b2.mono HH1.out.2.size)⟩
 clear hS b2 HT1 HH1
 go_wp2_with fail
 refine (HSA.out w2).mono ?_
 rintro e w3 ⟨⟨da,dc,rfl,hD⟩,b3⟩
 have HS3:Hid (HeadRow w 1 w3∧Below w.heap.size w w3):=⟨OwnP.below HS2.out.2.2.1 b3,HS2.out.2.2.2.trans (b3.mono HS2.out.2.2.2.size)⟩
 have HBD:Hid (Calls Tryz.prog 43 #[.slice ao N cap,.slice sa 288 sc,.slice da 32 dc] w3 (L5End w3 (Df.body Df.fixS Df.fixD l))):=by
  obtain⟨a',c',e',ho⟩:=OwnI.owns hD
  cases e'
  exact l5Body_any ao N cap l sa 288 sc Df.fixS da 32 dc Df.fixD w3 (HS2.out.2.1.kept b3) HN.out.symm hNb (HS2.out.1.kept b3) Df.fixS_len (by omega) ho.ints Df.fixD_len (by omega) Df.fixS_ok Df.fixD_ok HSM.out.ok
 clear hD b3 HS2
 go_wp2_with fail
 refine HBD.out.mono ?_
 rintro e w4 ⟨⟨a,L,cp,rfl,hO⟩,b4⟩
 have hLl:L=(Df.body Df.fixS Df.fixD l).length:=hO.len.symm
 have hL0:0<L∧L≤30000:=by
  have h1:=Df.toks_len Df.fixS Df.fixD l
  rw[hLl]
  unfold Df.body
  rw[List.length_append,List.length_singleton]
  omega
 have HO2:Hid (OwnP w4 w3.heap.size (.slice a L cp) L (Df.body Df.fixS Df.fixD l)∧HeadRow w 1 w4∧Below w.heap.size w w4):=⟨hO,OwnP.below HS3.out.1 b4,HS3.out.2.trans (b4.mono HS3.out.2.size)⟩
 obtain⟨XL,hXL⟩:∃XL,XL=Df.body Df.fixS Df.fixD l:=⟨_,rfl⟩
 rw[←hXL] at HO2 HFT HPK
 clear hLl hO b4 HS3 HBD hXL
 go_wp2_with (at_builtin;refine wpList_appQ (by rfl) _ _ (by rfl) w.heap.size _ 2 [(1,1),(1,2)] (by rfl) HO2.out.2.1 w3.heap.size a L cp XL (by rfl) HO2.out.1 hL0.1 (by omega) HO2.out.2.2.size ?_)
 intro g cap9 w9 hown9 hb9
 have HP:Hid (Calls Tryz.prog 42 #[.slice (some ⟨g,0,none⟩) (2+L) cap9,.bool false] w9 fun e w'=>e=.returned (.string ⟨((Bp.text false ([(1,1),(1,2)]++XL)).map UInt8.ofNat).toArray⟩)∧Below w9.heap.size w9 w'):=by
  obtain⟨ax,cx,e,hb⟩:=OwnP.bits hown9
  cases e
  exact l1Put_low _ (2+L) cap9 _ w9 hb hown9.len (by omega) HFT.out
 have HB9:Hid (Below w.heap.size w w9):=HO2.out.2.2.trans hb9
 generalize Bp.text false ([(1,1),(1,2)]++XL)=TX at*
 clear hown9 hb9 HO2 HFT
 go_wp2_with fail
 refine HP.out.mono ?_
 rintro e w10 ⟨rfl,b10⟩
 have HE:Hid (DefEnd s 1 w (.returned (.string (Df.bytes TX))) w10):=⟨⟨TX,rfl,HPK.out⟩,HB9.out.trans (b10.mono HB9.out.size)⟩
 clear b10
 unfold Df.bytes at HE
 go_wp2_with fail
 go_ret
 exact HE.out
def DefTop (s:ByteArray) (k:Int) (w:World) (e:Ending) (w':World):Prop:=
 (if s.size≤5000∧0≤k∧k≤2 then ∃T,e=.returned (.string (Df.bytes T))∧Df.Packed s k.toNat T else e=.returned (.string ⟨#[]⟩))∧Below w.heap.size w w'
set_option maxHeartbeats 2000000 in
theorem spec_deflate (s:ByteArray) (k:Int) (w:World):Calls Tryz.prog 7 #[.string s,.int .i64 k] w (DefTop s k w):=by
 have HL:Hid (∀w:World,Calls Tryz.prog 23 #[.int .i64 k,.int .i64 0,.int .i64 2] w fun e w'=>e=.returned (.bool (decide (0≤k∧k≤2)))∧w'=w):=fun w=>by
  by_cases h:0≤k∧k≤2
  · rw[decide_eq_true h];exact l1In_yes k 0 2 w h.1 h.2
  rw[decide_eq_false h];exact l1In_no k 0 2 w h
 by_cases hs:s.size≤5000
 · have hsi:¬(5000:Int)<(s.size:Int):=by omega
   by_cases hk:0≤k∧k≤2
   · have HDF:Hid (∀w:World,Calls Tryz.prog 24 #[.string s,.int .i64 k] w (DefTop s k w)):=fun w=>by
      rcases (by omega:k=0∨k=1∨k=2) with rfl|rfl|rfl
      · refine (l5Deflate_0 s w hs).mono (fun e w' h=>⟨?_,h.2⟩);rw[if_pos ⟨hs,by decide⟩];exact h.1
      · refine (l5Deflate_1 s w hs).mono (fun e w' h=>⟨?_,h.2⟩);rw[if_pos ⟨hs,by decide⟩];exact h.1
      refine (l5Deflate_2 s w hs).mono (fun e w' h=>⟨?_,h.2⟩);rw[if_pos ⟨hs,by decide⟩];exact h.1
     rw[decide_eq_true hk] at HL
     clear hk hs
     go_enter Tryz.func7,Tryz.ntmps7
     go_wp2_with fail
     refine (HL.out _).mono ?_
     rintro e w1 ⟨rfl,hw1⟩
     replace hw1:=hw1.symm
     subst hw1
     go_wp2_with fail
     refine (HDF.out _).mono ?_
     intro e w2 hD
     have hret:∃T,e=.returned (.string T):=by
      have h1:=hD.1
      split at h1
      · obtain⟨T,rfl,_⟩:=h1;exact⟨_,rfl⟩
      exact⟨_,h1⟩
     obtain⟨T,rfl⟩:=hret
     have HE:Hid (DefTop s k w (.returned (.string T)) w2):=hD
     clear hD
     go_wp2_with fail
     go_ret
     exact HE.out
   have HE:Hid (∀e,e=.returned (.string ⟨#[]⟩)→DefTop s k w e w):=fun e he=>⟨by rw[if_neg (fun h=>hk h.2)];exact he,Below.refl _ _⟩
   rw[decide_eq_false hk] at HL
   clear hk hs
   go_enter Tryz.func7,Tryz.ntmps7
   go_wp2_with fail
   refine (HL.out _).mono ?_
   rintro e w1 ⟨rfl,hw1⟩
   replace hw1:=hw1.symm
   subst hw1
   go_wp2_with fail
   go_ret
   exact HE.out _ rfl
 have hsi:(5000:Int)<(s.size:Int):=by omega
 have HE:Hid (∀e,e=.returned (.string ⟨#[]⟩)→DefTop s k w e w):=fun e he=>⟨by rw[if_neg (fun h=>hs h.1)];exact he,Below.refl _ _⟩
 clear hs HL
 go_enter Tryz.func7,Tryz.ntmps7
 go_wp2_with fail
 go_ret
 exact HE.out _ rfl
end Go.Proofs.YtejebodgfoihkaaGreat
