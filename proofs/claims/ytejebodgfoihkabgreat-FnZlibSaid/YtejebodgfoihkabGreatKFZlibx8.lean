/- Texts laid together: ZpSpec, RtZlib. -/
import Derived.Test.YtejebodgfoihkabGreatVFZlibDfTopS
import Derived.Test.YtejebodgfoihkabGreatKFZlibx6
import Derived.Test.YtejebodgfoihkabGreatKFZlibx0
import Derived.Test.YtejebodgfoihkabGreatVFZlibPutWalks
import Derived.Test.YtejebodgfoihkabGreatKFZlibx2
/- ZlibPut of the specification. -/
namespace Go.Proofs.YtejebodgfoihkabGreat
open Go.RowKit

theorem full_of {X:ByteArray} (h:1≤X.size):X.toList.isEmpty=false:=by
 rcases e:X.toList.isEmpty with _|_
 · rfl
 rw[ByteArray.toList_eq,List.isEmpty_iff] at e
 have:X.size=0:=by
  show X.data.size=0
  rw[←Array.length_toList,e]
  rfl
 omega
theorem none_of:(⟨#[]⟩:ByteArray).toList.isEmpty=true:=by decide +kernel
theorem bytes_size (T:List Nat):(Df.bytes T).size=T.length:=by simp[Df.bytes,ByteArray.size]
def zpText (T:ByteArray) (A:Nat):ByteArray:=(⟨#[120,1]⟩++T)++⟨(Pt.num A 4 true).toArray⟩
def ZpTop (s:ByteArray) (k:Int) (w:World) (e:Ending) (w':World):Prop:=
 (if s.size≤5000∧0≤k∧k≤2 then ∃T,e=.returned (.string (zpText (Df.bytes T) (Ad.more 1 s.data.toList).toNat))∧Df.Packed s k.toNat T else e=.returned (.string ⟨#[]⟩))∧Below w.heap.size w w'
theorem zz_two:(⟨((Pt.low 30721 2).reverse).toArray⟩:ByteArray)=⟨#[120,1]⟩:=by decide +kernel
set_option maxHeartbeats 2000000 in
set_option maxRecDepth 20000 in
theorem spec_zlibPut (s:ByteArray) (k:Int) (w:World) (hsm:s.size≤maxLen):Calls Tryz.prog 19 #[.string s,.int .i64 k] w (ZpTop s k w):=by
 have HL:Hid (∀w:World,Calls Tryz.prog 27 #[.int .i64 k,.int .i64 0,.int .i64 2] w fun e w'=>e=.returned (.bool (decide (0≤k∧k≤2)))∧w'=w):=fun w=>by
  by_cases h:0≤k∧k≤2
  · rw[decide_eq_true h];exact l1In_yes k 0 2 w h.1 h.2
  rw[decide_eq_false h];exact l1In_no k 0 2 w h
 have HAD:Hid (∀w,Calls Tryz.prog 30 #[.string s] w fun e w'=>e=.returned (.int .i64 (Ad.more 1 s.data.toList))∧w'=w):=fun w=>spec_adler32 s w hsm
 have hab:=Ad.more_bounds 1 s.data.toList
 obtain⟨A,hA⟩:=Int.eq_ofNat_of_zero_le hab.1
 have HAA:Hid ((Ad.more 1 s.data.toList).toNat=A):=by show _=_;rw[hA];rfl
 rw[hA] at HAD hab
 have HNM:Hid (∀w,Calls Tryz.prog 46 #[.int .i64 (A:Int),.int .i64 4,.bool true] w fun e w'=>e=.returned (.string ⟨(Pt.num A 4 true).toArray⟩)∧Below w.heap.size w w'):=fun w=>l1Num_big A 4 w (by omega) (by omega)
 have HZZ:Hid (∀w,Calls Tryz.prog 46 #[.int .i64 30721,.int .i64 2,.bool true] w fun e w'=>e=.returned (.string ⟨#[120,1]⟩)∧Below w.heap.size w w'):=fun w=>by
  have h:=l1Num_big 30721 2 w (by omega) (by omega)
  rw[zz_two] at h
  exact h
 have hn4:(ByteArray.mk (Pt.num A 4 true).toArray).size=4:=by simp[ByteArray.size,Pt.num_len]
 clear hab hA
 by_cases hs:s.size≤5000
 · have hsi:¬(5000:Int)<(s.size:Int):=by omega
   by_cases hk:0≤k∧k≤2
   · have HC:Hid (s.size≤5000∧0≤k∧k≤2):=⟨hs,hk⟩
     have HDF:Hid (∀w:World,Calls Tryz.prog 44 #[.string s,.int .i64 k] w (DefTop s k w)):=fun w=>by
      rcases (by omega:k=0∨k=1∨k=2) with rfl|rfl|rfl
      · refine (l5Deflate_0 s w hs).mono (fun e w' h=>⟨?_,h.2⟩);rw[if_pos ⟨hs,by decide⟩];exact h.1
      · refine (l5Deflate_1 s w hs).mono (fun e w' h=>⟨?_,h.2⟩);rw[if_pos ⟨hs,by decide⟩];exact h.1
      refine (l5Deflate_2 s w hs).mono (fun e w' h=>⟨?_,h.2⟩);rw[if_pos ⟨hs,by decide⟩];exact h.1
     rw[decide_eq_true hk] at HL
     have hs5:=hs
     clear hk hs
     go_enter Tryz.func19,Tryz.ntmps19
     go_wp2_with fail
     refine (HL.out _).mono ?_
     rintro e w1 ⟨rfl,hw1⟩
     replace hw1:=hw1.symm
     subst hw1
     go_wp2_with fail
     refine (HZZ.out _).mono ?_
     rintro e w1 ⟨rfl,b1⟩
     have HB1:Hid (Below w.heap.size w w1):=b1
     clear b1
     go_wp2_with fail
     refine (HDF.out _).mono ?_
     rintro e w2 ⟨h1,b2⟩
     rw[if_pos HC.out] at h1
     obtain⟨T,rfl,hp⟩:=h1
     have HP:Hid (Df.Packed s k.toNat T∧Below w.heap.size w w2):=⟨hp,HB1.out.trans (b2.mono HB1.out.size)⟩
     obtain⟨l1,l2⟩:=packed_len hs5 hp
     rw[←bytes_size] at l1 l2
     obtain⟨X,hX⟩:∃X,X=Df.bytes T:=⟨_,rfl⟩
     have HX:Hid (X=Df.bytes T):=hX
     rw[←hX] at l1 l2 ⊢
     have z0:(⟨#[120,1]⟩:ByteArray).size=2:=rfl
     have z1:((⟨#[120,1]⟩:ByteArray)++X).size=X.size+2:=by rw[ByteArray.size_append];show 2+_=_;omega
     clear hX hp b2 HB1
     go_wp2_with fail
     refine (HAD.out _).mono ?_
     rintro e w3 ⟨rfl,hw3⟩
     replace hw3:=hw3.symm
     subst hw3
     go_wp2_with fail
     refine (HNM.out _).mono ?_
     rintro e w3 ⟨rfl,b3⟩
     have HE:Hid (ZpTop s k w (.returned (.string ((⟨#[120,1]⟩++X)++⟨(Pt.num A 4 true).toArray⟩))) w3):=by
      refine⟨?_,HP.out.2.trans (b3.mono HP.out.2.size)⟩
      rw[if_pos HC.out]
      exact⟨T,by rw[HX.out,HAA.out];rfl,HP.out.1⟩
     clear b3
     go_wp2_with fail
     go_ret
     exact HE.out
   have HE:Hid (∀e,e=.returned (.string ⟨#[]⟩)→ZpTop s k w e w):=fun e he=>⟨by rw[if_neg (fun h=>hk h.2)];exact he,Below.refl _ _⟩
   rw[decide_eq_false hk] at HL
   clear hk hs
   go_enter Tryz.func19,Tryz.ntmps19
   go_wp2_with fail
   refine (HL.out _).mono ?_
   rintro e w1 ⟨rfl,hw1⟩
   replace hw1:=hw1.symm
   subst hw1
   go_wp2_with fail
   go_ret
   exact HE.out _ rfl
 have hsi:(5000:Int)<(s.size:Int):=by omega
 have HE:Hid (∀e,e=.returned (.string ⟨#[]⟩)→ZpTop s k w e w):=fun e he=>⟨by rw[if_neg (fun h=>hs h.1)];exact he,Below.refl _ _⟩
 clear hs HL
 go_enter Tryz.func19,Tryz.ntmps19
 go_wp2_with fail
 go_ret
 exact HE.out _ rfl
namespace Rt
theorem zget_of {S t y:ByteArray} {K:Nat} {rest:List UInt8} (p:PkIs t K S) (hy:y.data.toList=[120,1]++(S.data.toList++rest)) (h9:y.size≤9000):
 ∃q,S.size=(q+7) / 8∧Nf.zget y 5000=Nf.ztail y (.ok ((t.data.toList,q),[(K:Int)])):=by
 obtain⟨q,h1,h2⟩:=p.back
 refine⟨q,h2,?_⟩
 have hys:y.size=2+(S.size+rest.length):=by
  rw[size_list y,hy,List.length_append,List.length_append,size_list S]
  rfl
 have hex:(y.extract 2 y.size).size=S.size+rest.length:=by rw[ByteArray.size_extract];omega
 have hb:∀j,j<S.size→byteAt S j=byteAt (y.extract 2 y.size) j:=fun j hj=>by
  rw[extract_from y 2 j (by omega),byteAt_list,byteAt_list,hy]
  congr 1
  rw[List.getD_eq_getElem?_getD,List.getD_eq_getElem?_getD,List.getElem?_append_right (by show 2≤_;omega)]
  rw[show 2+j-([120,1]:List UInt8).length=j by show 2+j-2=j;omega,List.getElem?_append_left (by rw[←size_list];exact hj)]
 have hA:Nf.Agr S (y.extract 2 y.size) q:=⟨fun i hi=>bitAt_same (hb _ (by omega)),by rw[hex];omega⟩
 have hin:=Nf.inflate_pre hA h1 (Nat.le_refl _)
 have h0:byteAt y 0=120:=by rw[byteAt_list,hy];rfl
 have h01:byteAt y 1=1:=by rw[byteAt_list,hy];rfl
 rw[Nf.zget_go ⟨h9,by omega,by omega⟩ (by omega) (by rw[h0,h01];decide)]
 exact congrArg (Nf.ztail y) hin
theorem zp_list (S:ByteArray) (A:Nat):(zpText S A).data.toList=[120,1]++(S.data.toList++Pt.num A 4 true):=by
 unfold zpText
 rw[ByteArray.data_append,ByteArray.data_append,Array.toList_append,Array.toList_append,List.append_assoc]
theorem num4 (A:Nat):(Pt.num A 4 true).length=4:=Pt.num_len A 4 true
theorem zget_whole {S t:ByteArray} {K A:Nat} (p:PkIs t K S) (hA:(A:Int)=Ad.more 1 t.data.toList) (hA2:A<256^4):Nf.zget (zpText S A) 5000=.ok t.data.toList:=by
 have hl:=zp_list S A
 have hs:(zpText S A).size=2+S.size+4:=by
  rw[size_list,hl,List.length_append,List.length_append,num4,←size_list]
  show 2+_=_
  omega
 have:=p.most
 obtain⟨q,h1,h2⟩:=zget_of p hl (by omega)
 rw[h2]
 refine Nf.ztail_ok h1 (by omega) ⟨hs,?_⟩
 rw[←hA]
 congr 1
 unfold Nf.sumAt
 refine Np.get_put A 4 true hA2 (fun i=>byteAt (zpText S A) (2+S.size+i)) (fun i hi=>⟨?_,byteAt_lt _ _⟩)
 have hi2:i<(Pt.num A 4 true).length:=by rw[num4];exact hi
 rw[byteAt_list,hl,List.getD_eq_getElem?_getD,List.getElem?_append_right (by show 2≤_;omega),show 2+S.size+i-([120,1]:List UInt8).length=S.size+i by show 2+S.size+i-2=_;omega,List.getElem?_append_right (by rw[←size_list];omega),←size_list,Nat.add_sub_cancel_left,List.getElem?_eq_getElem hi2]
 show some _=some (UInt8.ofNat (UInt8.toNat _))
 rw[UInt8.ofNat_toNat]
 rfl
theorem zget_more {S t:ByteArray} {K A:Nat} (p:PkIs t K S) (x:UInt8):Nf.zget (zpText S A++⟨#[x]⟩) 5000=.error 1:=by
 have hl:(zpText S A++⟨#[x]⟩).data.toList=[120,1]++(S.data.toList++(Pt.num A 4 true++[x])):=by
  rw[ByteArray.data_append,Array.toList_append,zp_list,List.append_assoc,List.append_assoc]
 have hs:(zpText S A++⟨#[x]⟩).size=2+S.size+5:=by
  rw[size_list,hl,List.length_append,List.length_append,List.length_append,num4,←size_list]
  show 2+(_+(4+1))=_
  omega
 have:=p.most
 obtain⟨q,h1,h2⟩:=zget_of p hl (by omega)
 rw[h2]
 exact Nf.ztail_bad h1 (by omega) (fun e=>by have:=e.1;omega)
theorem zget_less {S t:ByteArray} {K A:Nat} (p:PkIs t K S):Nf.zget ((zpText S A).extract 0 ((zpText S A).size-1)) 5000=.error 2:=by
 have hs:(zpText S A).size=2+S.size+4:=by
  rw[size_list,zp_list,List.length_append,List.length_append,num4,←size_list]
  show 2+_=_
  omega
 have hl:((zpText S A).extract 0 ((zpText S A).size-1)).data.toList=[120,1]++(S.data.toList++(Pt.num A 4 true).take 3):=by
  rw[hs,ByteArray.data_extract,Array.toList_extract,zp_list]
  show List.take _ (List.drop 0 _)=_
  rw[List.drop_zero,List.take_append,List.take_append]
  rw[List.take_of_length_le (by show 2≤_;omega),List.take_of_length_le (by rw[←size_list];show S.size≤2+S.size+4-1-0-2;omega)]
  congr 3
  rw[←size_list]
  show 2+S.size+4-1-0-2-S.size=3
  omega
 have hs2:((zpText S A).extract 0 ((zpText S A).size-1)).size=2+S.size+3:=by rw[ByteArray.size_extract];omega
 have:=p.most
 obtain⟨q,h1,h2⟩:=zget_of p hl (by omega)
 rw[h2]
 exact Nf.ztail_short h1 (by omega)
end Rt
end Go.Proofs.YtejebodgfoihkabGreat
