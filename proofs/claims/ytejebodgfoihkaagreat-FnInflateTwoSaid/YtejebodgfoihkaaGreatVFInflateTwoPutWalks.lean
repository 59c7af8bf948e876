/- What the functions that write a number in bytes return. -/
import Derived.Test.YtejebodgfoihkaaGreatKFInflateTwox0
namespace Go.Proofs.YtejebodgfoihkaaGreat
open Go.RowKit

set_option maxHeartbeats 400000 in
theorem l1Num_low (n size:Nat) (w:World) (hn:n≤4294967295) (hs:size≤4):
 Calls Tryz.prog 70 #[.int .i64 n,.int .i64 size,.bool false] w fun e w'=>e=.returned (.string ⟨(Pt.low n size).toArray⟩)∧Below w.heap.size w w':=by
 go_enter Tryz.func70,Tryz.ntmps70
 go_wp2_with fail
 go_loopw [0,7,8] (fun x o i wr=>∃k y:Nat,k≤size∧i=.int .i64 k∧y=n / 256^k∧x=.int .i64 y∧o=.string ⟨(Pt.low n k).toArray⟩∧Below w.heap.size w wr) (fun _ _ i _=>size-(intOf i).toNat)
 case atStart=>exact⟨0,n,Nat.zero_le _,rfl,by simp,rfl,rfl,Below.refl _ _⟩
 case round=>
  obtain⟨k,y,hk,rfl,hy,rfl,rfl,hbel⟩:=hrel
  have hyb:y≤n:=by rw[hy];exact Nat.div_le_self _ _
  have hll:=Pt.low_len k n
  by_cases hlt:k<size
  · have HN:Hid (Pt.low n (k+1)=Pt.low n k++[UInt8.ofNat (y%256)]):=by rw[hy];exact Pt.low_snoc k n
    have HY:Hid (y / 256=n / 256^(k+1)):=by rw[hy];show _=_;rw[Nat.div_div_eq_div_mul,Nat.pow_succ]
    clear hy
    generalize Pt.low n k=l at*
    obtain⟨c,hc⟩:∃c:Nat,c=y%256:=⟨_,rfl⟩
    have hci:(y:Int)%256=(c:Int):=by omega
    rw[←hc] at HN
    have hcb:c<256:=by omega
    clear hc
    have htx:=run_text1 wr c wr.heap.size rfl
    go_wp2_with fail
    go_roundw
    case rel=>exact⟨k+1,y / 256,by omega,by go_num,HY.out,by go_num,by rw[HN.out,←ByteArray.mk_append_mk],hbel.alloc hbel.size _⟩
    case measure=>simp[intOf];omega
  have hk':k=size:=by omega
  subst hk'
  clear hy
  go_wp2_with fail
  go_ret
  exact⟨rfl,hbel⟩

end Go.Proofs.YtejebodgfoihkaaGreat
