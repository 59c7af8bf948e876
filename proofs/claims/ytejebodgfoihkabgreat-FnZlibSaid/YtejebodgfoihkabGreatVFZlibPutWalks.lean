/- What the functions that write a number in bytes return. -/
import Derived.Test.YtejebodgfoihkabGreatKFZlibx0
namespace Go.Proofs.YtejebodgfoihkabGreat
open Go.RowKit

set_option maxHeartbeats 400000 in
theorem l1Num_low (n size:Nat) (w:World) (hn:n≤4294967295) (hs:size≤4):
 Calls Tryz.prog 46 #[.int .i64 n,.int .i64 size,.bool false] w fun e w'=>e=.returned (.string ⟨(Pt.low n size).toArray⟩)∧Below w.heap.size w w':=by
 go_enter Tryz.func46,Tryz.ntmps46
 go_wp2_with fail
 go_loopw [0,7,8] (fun x o i wr=>∃k y:Nat,k≤size∧i=.int .i64 k∧y=n / 256^k∧x=.int .i64 y∧o=.string ⟨(Pt.low n k).toArray⟩∧Below w.heap.size w wr) (fun _ _ i _=>size-(intOf i).toNat)
 case atStart=>exact⟨0,n,Nat.zero_le _,rfl,by simp,rfl,rfl,Below.refl _ _⟩
 case round=>
  obtain⟨k,y,hk,rfl,hy,rfl,rfl,hbel⟩:=hrel
  have hyb:y≤n:=by rw[hy];exact Nat.div_le_self _ _
  have hll:=Pt.low_len k n
  by_cases hlt:k<size
  · have HN:Hid (Pt.low n (k+1)=Pt.low n k++[UInt8.ofNat (y%256)]):=by rw[hy];exact Pt.low_snoc k n
    have HY:Hid (y / 256=n / 256^(k+1)):=by rw[hy];show _=_;rw[Nat.div_div_eq_div_mul,Nat.pow_succ]
    clear hy
    generalize Pt.low n k=l at*
    obtain⟨c,hc⟩:∃c:Nat,c=y%256:=⟨_,rfl⟩
    have hci:(y:Int)%256=(c:Int):=by omega
    rw[←hc] at HN
    have hcb:c<256:=by omega
    clear hc
    have htx:=run_text1 wr c wr.heap.size rfl
    go_wp2_with fail
    go_roundw
    case rel=>exact⟨k+1,y / 256,by omega,by go_num,HY.out,by go_num,by rw[HN.out,←ByteArray.mk_append_mk],hbel.alloc hbel.size _⟩
    case measure=>simp[intOf];omega
  have hk':k=size:=by omega
  subst hk'
  clear hy
  go_wp2_with fail
  go_ret
  exact⟨rfl,hbel⟩

theorem str_cons (c:UInt8) (l:List UInt8):(ByteArray.mk #[c]++ByteArray.mk l.toArray)=ByteArray.mk (c::l).toArray:=ByteArray.mk_append_mk [c] l

set_option maxHeartbeats 400000 in
theorem l1Num_big (n size:Nat) (w:World) (hn:n≤4294967295) (hs:size≤4):
 Calls Tryz.prog 46 #[.int .i64 n,.int .i64 size,.bool true] w fun e w'=>e=.returned (.string ⟨((Pt.low n size).reverse).toArray⟩)∧Below w.heap.size w w':=by
 go_enter Tryz.func46,Tryz.ntmps46
 go_wp2_with fail
 go_loopw [0,7,8] (fun x o i wr=>∃(k y:Nat) (l:List UInt8),k≤size∧i=.int .i64 k∧y=n / 256^k∧x=.int .i64 y∧l=(Pt.low n k).reverse∧o=.string ⟨l.toArray⟩∧Below w.heap.size w wr) (fun _ _ i _=>size-(intOf i).toNat)
 case atStart=>exact⟨0,n,[],Nat.zero_le _,rfl,by simp,rfl,rfl,rfl,Below.refl _ _⟩
 case round=>
  obtain⟨k,y,l,hk,rfl,hy,rfl,hl,rfl,hbel⟩:=hrel
  have hyb:y≤n:=by rw[hy];exact Nat.div_le_self _ _
  have hll:l.length=k:=by rw[hl];simp[Pt.low_len]
  by_cases hlt:k<size
  · have HN:Hid (UInt8.ofNat (y%256)::l=(Pt.low n (k+1)).reverse):=by rw[hy,hl];show _=_;rw[Pt.low_snoc];simp
    have HY:Hid (y / 256=n / 256^(k+1)):=by rw[hy];show _=_;rw[Nat.div_div_eq_div_mul,Nat.pow_succ]
    clear hy hl
    obtain⟨c,hc⟩:∃c:Nat,c=y%256:=⟨_,rfl⟩
    have hci:(y:Int)%256=(c:Int):=by omega
    rw[←hc] at HN
    have hcb:c<256:=by omega
    clear hc
    have htx:=run_text1 wr c wr.heap.size rfl
    go_wp2_with fail
    go_roundw
    case rel=>exact⟨k+1,y / 256,_,by omega,by go_num,HY.out,by go_num,HN.out,by rw[str_cons],hbel.alloc hbel.size _⟩
    case measure=>simp[intOf];omega
  have hk':k=size:=by omega
  subst hk'
  have HL:Hid (l=(Pt.low n k).reverse):=hl
  clear hy hl
  go_wp2_with fail
  go_ret
  exact⟨by rw[←HL.out];rfl,hbel⟩

def NumFits (n size:Int):Prop:=1≤size∧size≤4∧0≤n∧n.toNat<256^size.toNat

theorem pow8 (S:Nat):(2:Nat)^(8*S)=256^S:=by rw[Nat.pow_mul]

theorem fits_nat {N S:Nat} (h:NumFits (N:Int) (S:Int)):1≤S∧S≤4∧N<256^S:=by
 obtain⟨h1,h2,h3,h4⟩:=h
 rw[Int.toNat_natCast,Int.toNat_natCast] at h4
 exact⟨by omega,by omega,h4⟩

theorem pow_le4 {S:Nat} (h:S≤4):256^S≤4294967296:=Nat.le_trans (Nat.pow_le_pow_right (by omega) h) (by decide)

def putArr (f:Nat→Nat) (S k:Nat):Array Value:=((List.range S).map fun j=>Value.int .u8 (if j<k then (f j:Int) else 0)).toArray

theorem putArr_size (f:Nat→Nat) (S k:Nat):(putArr f S k).size=S:=by simp[putArr]

theorem putArr_get (f:Nat→Nat) (S k j:Nat) (h:j<S):(putArr f S k)[j]?=some (Value.int .u8 (if j<k then (f j:Int) else 0)):=by
 simp[putArr,h]

theorem putArr_set (f:Nat→Nat) (S k:Nat) (h:k<S):(putArr f S k).setIfInBounds k (.int .u8 (f k:Int))=putArr f S (k+1):=by
 apply Array.ext_getElem?
 intro j
 rw[Array.getElem?_setIfInBounds,putArr_size]
 by_cases hj:j<S
 · rw[putArr_get _ _ _ _ hj,putArr_get _ _ _ _ hj]
   by_cases e:k=j
   · subst e;simp[h]
   rw[if_neg e]
   by_cases l:j<k
   · rw[if_pos l,if_pos (by omega)]
   rw[if_neg l,if_neg (by omega)]
 rw[if_neg (by omega),Array.getElem?_eq_none (by rw[putArr_size];omega),Array.getElem?_eq_none (by rw[putArr_size];omega)]

theorem putArr_text (f:Nat→Nat) (S b:Nat) (w:World) (hb:b=w.heap.size):
 Sem.run Tryz.prog (convert 22 9 (.slice (some ⟨b,0,none⟩) S S)) (w.alloc (.cells (putArr f S S) 5))=.ok (.string ⟨(((List.range S).map f).map UInt8.ofNat).toArray⟩) (w.alloc (.cells (putArr f S S) 5)):=by
 subst hb
 have h:=run_text (w.alloc (.cells (putArr f S S) 5)) ⟨w.heap.size,0,none⟩ S ((List.range S).map f) ?_
 · rw[List.length_map,List.length_range] at h;exact h
 intro j v hj
 have hjS:j<S:=by
  have:=(List.getElem?_eq_some_iff.1 hj).1
  simpa using this
 rw[show (⟨w.heap.size,0,none⟩:Addr).add j=⟨w.heap.size,j,none⟩ from by simp[Addr.add];omega,World.cell?_alloc_at _ _ _ _ rfl,putArr_get _ _ _ _ hjS,if_pos hjS,←hj]
 simp[hjS]

theorem make_bytes1 (f:Nat→Nat) (w:World):
 (Instr.makeSlice 22 (.int .i64 ((1:Nat):Int)) (.int .i64 ((1:Nat):Int))).run Tryz.prog w=.ok (.slice (some ⟨w.heap.size,0,none⟩) 1 1) (w.alloc (.cells (putArr f 1 0) 5)):=by kernel_rfl
theorem make_bytes2 (f:Nat→Nat) (w:World):
 (Instr.makeSlice 22 (.int .i64 ((2:Nat):Int)) (.int .i64 ((2:Nat):Int))).run Tryz.prog w=.ok (.slice (some ⟨w.heap.size,0,none⟩) 2 2) (w.alloc (.cells (putArr f 2 0) 5)):=by kernel_rfl
theorem make_bytes3 (f:Nat→Nat) (w:World):
 (Instr.makeSlice 22 (.int .i64 ((3:Nat):Int)) (.int .i64 ((3:Nat):Int))).run Tryz.prog w=.ok (.slice (some ⟨w.heap.size,0,none⟩) 3 3) (w.alloc (.cells (putArr f 3 0) 5)):=by kernel_rfl
theorem make_bytes4 (f:Nat→Nat) (w:World):
 (Instr.makeSlice 22 (.int .i64 ((4:Nat):Int)) (.int .i64 ((4:Nat):Int))).run Tryz.prog w=.ok (.slice (some ⟨w.heap.size,0,none⟩) 4 4) (w.alloc (.cells (putArr f 4 0) 5)):=by kernel_rfl

theorem make_bytes (f:Nat→Nat) (S:Nat) (h1:1≤S) (h4:S≤4) (w:World):
 (Instr.makeSlice 22 (.int .i64 (S:Int)) (.int .i64 (S:Int))).run Tryz.prog w=.ok (.slice (some ⟨w.heap.size,0,none⟩) S S) (w.alloc (.cells (putArr f S 0) 5)):=by
 have h:S=1∨S=2∨S=3∨S=4:=by omega
 rcases h with rfl|rfl|rfl|rfl
 · exact make_bytes1 f w
 · exact make_bytes2 f w
 · exact make_bytes3 f w
 exact make_bytes4 f w

theorem shr_none (N S:Nat) (h:N<256^S):((N:Int) / 2^(8*S) != 0)=false:=by
 have e:(N:Int) / 2^(8*S)=((N / 2^(8*S):Nat):Int):=by simp
 rw[e,pow8,Nat.div_eq_of_lt h];rfl

theorem shr_byte (N j:Nat):(N:Int) / 2^(8*j)%256=((N / 256^j%256:Nat):Int):=by
 have e:(N:Int) / 2^(8*j)=((N / 2^(8*j):Nat):Int):=by simp
 rw[e,pow8];omega

set_option maxHeartbeats 400000 in
theorem impl_numPut_low (N S:Nat) (w:World) (h1:1≤S) (h2:S≤4) (h3:N<256^S):
 Calls Tryz.prog 45 #[.int .i64 N,.int .i64 S,.bool false] w fun e w'=>e=.returned (.string ⟨(Pt.low N S).toArray⟩)∧Below w.heap.size w w':=by
 have h4:=pow_le4 h2
 have hN:N≤4294967295:=by omega
 have hd1:decide ((S:Int)<1)=false:=by simp;omega
 have hd4:decide ((4:Int)<(S:Int))=false:=by simp;omega
 have hd0:decide ((N:Int)<0)=false:=by simp
 have hsr:=shr_none N S h3
 have hmk:=fun w=>make_bytes (fun j=>N / 256^j%256) S h1 h2 w
 clear h4 h3
 go_enter Tryz.func45,Tryz.ntmps45
 go_wp2_with fail
 refine (orderOf_low _).mono ?_
 rintro e w1 ⟨rfl,rfl⟩
 go_wp2_with fail
 go_loopw [33] (fun i wr=>∃k:Nat,k≤S∧i=.int .i64 k∧wr=w1.alloc (.cells (putArr (fun j=>N / 256^j%256) S k) 5)) (fun i _=>S-(intOf i).toNat)
 case atStart=>exact⟨0,Nat.zero_le _,rfl,rfl⟩
 case round=>
  obtain⟨k,hk,rfl,rfl⟩:=hrel
  clear hmk hsr
  by_cases hlt:k<S
  · have hb:=shr_byte N k
    have HT:Hid ((putArr (fun j=>N / 256^j%256) S k).setIfInBounds k (.int .u8 ((N / 256^k%256:Nat):Int))=_):=putArr_set (fun j=>N / 256^j%256) S k hlt
    have hg:(putArr (fun j=>N / 256^j%256) S k)[k]?=some (.int .u8 0):=by rw[putArr_get _ _ _ _ hlt];simp
    generalize putArr (fun j=>N / 256^j%256) S k=A at*
    obtain⟨c,hc⟩:∃c:Nat,c=N / 256^k%256:=⟨_,rfl⟩
    rw[←hc] at HT hb
    clear hc
    go_wp2_with fail
    refine (order_low _ _ _).mono ?_
    rintro e w2 ⟨rfl,rfl⟩
    go_wp2_with fail
    go_roundw
    case rel=>exact⟨k+1,by omega,by go_num,by rw[HT.out]⟩
    case measure=>simp[intOf];omega
  have hk':k=S:=by omega
  subst hk'
  have htx:=putArr_text (fun j=>N / 256^j%256) k w1.heap.size w1 rfl
  rw[Pt.range_low] at htx
  go_wp2_with fail
  go_ret
  exact⟨rfl,(Below.refl _ _).alloc (Nat.le_refl _) _⟩

set_option maxHeartbeats 400000 in
theorem impl_numPut_high (N S:Nat) (w:World) (h1:1≤S) (h2:S≤4) (h3:N<256^S):
 Calls Tryz.prog 45 #[.int .i64 N,.int .i64 S,.bool true] w fun e w'=>e=.returned (.string ⟨((Pt.low N S).reverse).toArray⟩)∧Below w.heap.size w w':=by
 have h4:=pow_le4 h2
 have hN:N≤4294967295:=by omega
 have hd1:decide ((S:Int)<1)=false:=by simp;omega
 have hd4:decide ((4:Int)<(S:Int))=false:=by simp;omega
 have hd0:decide ((N:Int)<0)=false:=by simp
 have hsr:=shr_none N S h3
 have hmk:=fun w=>make_bytes (fun j=>N / 256^(S-1-j)%256) S h1 h2 w
 clear h4 h3
 go_enter Tryz.func45,Tryz.ntmps45
 go_wp2_with fail
 refine (orderOf_high _).mono ?_
 rintro e w1 ⟨rfl,rfl⟩
 go_wp2_with fail
 go_loopw [33] (fun i wr=>∃k:Nat,k≤S∧i=.int .i64 k∧wr=w1.alloc (.cells (putArr (fun j=>N / 256^(S-1-j)%256) S k) 5)) (fun i _=>S-(intOf i).toNat)
 case atStart=>exact⟨0,Nat.zero_le _,rfl,rfl⟩
 case round=>
  obtain⟨k,hk,rfl,rfl⟩:=hrel
  clear hmk hsr
  by_cases hlt:k<S
  · have hb:=shr_byte N (S-1-k)
    have HT:Hid ((putArr (fun j=>N / 256^(S-1-j)%256) S k).setIfInBounds k (.int .u8 ((N / 256^(S-1-k)%256:Nat):Int))=_):=putArr_set (fun j=>N / 256^(S-1-j)%256) S k hlt
    have hg:(putArr (fun j=>N / 256^(S-1-j)%256) S k)[k]?=some (.int .u8 0):=by rw[putArr_get _ _ _ _ hlt];simp
    generalize putArr (fun j=>N / 256^(S-1-j)%256) S k=A at*
    obtain⟨c,hc⟩:∃c:Nat,c=N / 256^(S-1-k)%256:=⟨_,rfl⟩
    rw[←hc] at HT hb
    clear hc
    go_wp2_with fail
    refine (order_high _ _ _ (by omega) (by omega) (by omega)).mono ?_
    rintro e w2 ⟨rfl,rfl⟩
    go_wp2_with fail
    go_roundw
    case rel=>exact⟨k+1,by omega,by go_num,by rw[HT.out]⟩
    case measure=>simp[intOf];omega
  have hk':k=S:=by omega
  subst hk'
  have htx:=putArr_text (fun j=>N / 256^(k-1-j)%256) k w1.heap.size w1 rfl
  rw[Pt.range_high] at htx
  go_wp2_with fail
  go_ret
  exact⟨rfl,(Below.refl _ _).alloc (Nat.le_refl _) _⟩

theorem impl_numPut_yes (N S:Nat) (hi:Bool) (w:World) (h:NumFits (N:Int) (S:Int)):
 Calls Tryz.prog 45 #[.int .i64 N,.int .i64 S,.bool hi] w fun e w'=>e=.returned (.string ⟨(Pt.num N S hi).toArray⟩)∧Below w.heap.size w w':=by
 obtain⟨h1,h2,h3⟩:=fits_nat h
 cases hi
 · exact impl_numPut_low N S w h1 h2 h3
 exact impl_numPut_high N S w h1 h2 h3

end Go.Proofs.YtejebodgfoihkabGreat
