/- BitsPut of the program, walked whole. -/
import Derived.Test.YtejebodgfoihkaaGreatKFInflateTwox1
namespace Go.Proofs.YtejebodgfoihkaaGreat
open Go.RowKit

def I64s (l:List (Int×Int)):Prop:=∀p∈l,-9223372036854775808≤p.1∧p.1≤9223372036854775807

set_option maxHeartbeats 2000000 in
set_option maxRecDepth 20000 in
theorem impl_bitsPut_low (a:Option Addr) (n cap:Nat) (l:List (Int×Int)) (w:World) (h:Bits2 w a l) (hn:l.length=n) (hl:n≤2000000) (hr:I64s l):
 Calls Tryz.prog 22 #[.slice a n cap,.bool false] w fun e w'=>e=.returned (.string ⟨((Bp.answer false l).map UInt8.ofNat).toArray⟩)∧Below w.heap.size w w':=by
 have HB:Hid (Bits2 w a l):=h
 have hn1:l.length≤n:=by omega
 have hn2:n≤l.length:=by omega
 have HR:Hid (I64s l):=hr
 have HW0:Hid (Writes (w.alloc (.cells #[(.func (.func 69) #[] #[]),.slice none 0 0,.int .i64 0] 88)) w.heap.size false (Bp.fOf false l) 0):=writes_new w false (Bp.fOf false l) _
 have HF:Hid (∀i,Bp.fOf false l i<2):=Bp.fOf_lt false l
 have hOO:=orderOf_any false w
 have HOO:Hid (Calls Tryz.prog 38 #[.bool false] w fun e w'=>e=.returned ((.func (.func 69) #[] #[]))∧w'=w):=hOO
 have HMV:Hid (∀(N V S:Nat) (w':World),Writes w' w.heap.size false (Bp.fOf false l) N→N+S≤72000→S≤24→V<16777216→(∀q,q<S→Bp.fOf false l (N+q)=Bp.bitIn false V S q)→
  Calls Tryz.prog 40 #[.iface 86 (.pointer (some ⟨w.heap.size,0,none⟩)),(.func (.func 69) #[] #[]),.int .i64 V,.int .i64 S] w' fun e w''=>(∃z,e=.returned (.tuple #[.int .i64 z,.bool true]))∧Writes w'' w.heap.size false (Bp.fOf false l) (N+S)∧Below w.heap.size w' w''):=
  fun N V S w' hw h1 h2 h3 h4=>wmove_low w.heap.size N V S _ w' hw h1 (by omega) (by omega) (Bp.fOf_lt false l) h4
 have HMN:Hid (∀(N S:Nat) (v:Int) (w':World),Writes w' w.heap.size false (Bp.fOf false l) N→N≤72000→72000<N+S→
  Calls Tryz.prog 40 #[.iface 86 (.pointer (some ⟨w.heap.size,0,none⟩)),(.func (.func 69) #[] #[]),.int .i64 v,.int .i64 S] w' fun e w''=>e=.returned (.tuple #[.int .i64 0,.bool false])∧w''=w'):=
  fun N S v w' hw h1 h2=>wmove_no w.heap.size N S v false _ _ w' hw h1 h2
 clear h hn hr hOO
 go_enter Tryz.func22,Tryz.ntmps22
 go_wp2_with fail
 refine HOO.out.mono ?_
 rintro e w1 ⟨rfl,hw1⟩
 subst hw1
 go_wp2_with fail
 go_loopw [18] (fun i wr=>∃k N:Nat,k≤n∧i=.int .i64 k∧N=Bp.tot l k∧N≤72000∧Bp.Fits l k∧Writes wr w1.heap.size false (Bp.fOf false l) N∧Below w1.heap.size w1 wr) (fun i _=>n-(intOf i).toNat)
 case atStart=>exact⟨0,0,Nat.zero_le _,rfl,rfl,by omega,Bp.fits_zero l,HW0.out,(Below.refl _ _).alloc (Nat.le_refl _) _⟩
 case round=>
  obtain⟨k,N,hk,rfl,hN,hN7,hfit,hWr,hbel⟩:=hrel
  have HT:Hid (N=Bp.tot l k):=hN
  have HFT:Hid (Bp.Fits l k):=hfit
  have HWR:Hid (Writes wr w1.heap.size false (Bp.fOf false l) N):=hWr
  clear hN hfit hWr HW0 HOO
  by_cases hlt:k<n
  · have hkl:k<l.length:=by omega
    obtain⟨b,off,rfl,hbB,hc1,hc2⟩:=HB.out.at hkl
    have e1:=(hbel.cell (p:=⟨b,off+k*2,none⟩) hbB).trans hc1
    have e2:=(hbel.cell (p:=⟨b,off+k*2+1,none⟩) hbB).trans hc2
    have hki:(k:Int)<(n:Int):=by omega
    have hrk:=HR.out l[k] (List.getElem_mem hkl)
    have HOK:=fun w=>bitOk_any l[k] w hrk.1 hrk.2
    have HTS:=Bp.tot_succ l k hkl
    rw[←HT.out] at HTS
    have HNF:Hid (¬(Bp.Ok l[k]∧Bp.tot l (k+1)≤72000)→Bp.answer false l=[]):=fun g=>Bp.answer_no (Bp.fits_not hkl hkl g)
    have HYF:Hid (Bp.Ok l[k]→Bp.tot l (k+1)≤72000→Bp.Fits l (k+1)):=fun g1 g2=>Bp.fits_succ hkl HFT.out g1 g2
    have HA:Hid (∀q,q<(l[k]).2.toNat→Bp.fOf false l (N+q)=Bp.bitIn false (l[k]).1.toNat (l[k]).2.toNat q):=by
     intro q hq;rw[HT.out];exact Bp.fOf_at false l k q hkl hq
    by_cases hok:Bp.Ok l[k]
    · have HO:Hid (Bp.Ok l[k]):=hok
      rw[Bp.okB_true hok] at HOK
      obtain⟨o1,o2,o3,o4⟩:=hok
      obtain⟨S,hS⟩:=Int.eq_ofNat_of_zero_le o1
      obtain⟨V,hV⟩:=Int.eq_ofNat_of_zero_le o3
      rw[hS] at HTS o2 e2
      rw[hV] at e1
      rw[hV,hS] at HA o4
      simp only[Int.toNat_natCast] at HTS HA o4
      have hS24:S≤24:=by omega
      have hVb:V<16777216:=Nat.lt_of_lt_of_le o4 (Nat.le_trans (Nat.pow_le_pow_right (by omega) hS24) (by decide))
      have HTT:Hid (Bp.tot l (k+1)=N+S):=HTS
      have HL:Hid (∀w,Calls Tryz.prog 39 #[.agg #[.int .i64 (V:Int),.int .i64 (S:Int)]] w fun e w'=>e=.returned (.bool true)∧Below w.heap.size w w'):=by
       intro w;have:=HOK w;rw[hS,hV] at this;exact this
      clear HTS HOK hS hV o1 o2 o3 o4 hrk hc1 hc2
      go_wp2_with fail
      refine (HL.out _).mono ?_
      rintro e w2 ⟨rfl,bel1⟩
      have e3:w2.cell? ⟨wr.heap.size,0,none⟩=some (.int .i64 (V:Int)):=(bel1.cell (p:=⟨wr.heap.size,0,none⟩) (by simp)).trans (by rw[World.cell?_alloc_at _ _ _ _ rfl];rfl)
      have e4:w2.cell? ⟨wr.heap.size,1,none⟩=some (.int .i64 (S:Int)):=(bel1.cell (p:=⟨wr.heap.size,1,none⟩) (by simp)).trans (by rw[World.cell?_alloc_at _ _ _ _ rfl];rfl)
      have belw:Below wr.heap.size wr w2:=((Below.refl wr.heap.size wr).alloc (Nat.le_refl _) _).trans (bel1.mono (by simp))
      have HW2:Hid (Writes w2 w1.heap.size false (Bp.fOf false l) N):=HWR.out.kept belw
      have hb2:Below w1.heap.size w1 w2:=hbel.trans (belw.mono hbel.size)
      clear bel1 belw e1 e2 HWR hbel HL
      by_cases h7:72000<N+S
      · have HAS:Hid (Bp.answer false l=[]):=HNF.out (fun g=>by have:=g.2;rw[HTT.out] at this;omega)
        go_wp2_with fail
        refine (HMN.out N S V w2 HW2.out hN7 h7).mono ?_
        rintro e w3 ⟨rfl,hw3⟩
        subst hw3
        go_wp2_with fail
        go_ret
        exact⟨by rw[HAS.out];rfl,hb2⟩
      have HF2:Hid (Bp.Fits l (k+1)):=HYF.out HO.out (by rw[HTT.out];omega)
      go_wp2_with fail
      refine (HMV.out N V S w2 HW2.out (by omega) hS24 hVb HA.out).mono ?_
      rintro e w3 ⟨⟨z,rfl⟩,hW3,bel3⟩
      have hb3:=hb2.trans bel3
      have HW3:Hid (Writes w3 w1.heap.size false (Bp.fOf false l) (N+S)):=hW3
      clear hW3 bel3 hb2 e3 e4
      go_wp2_with fail
      go_roundw
      case rel=>exact⟨k+1,N+S,by omega,by go_num,HTT.out.symm,by omega,HF2.out,HW3.out,hb3⟩
      case measure=>simp[intOf];omega
    rw[Bp.okB_false hok] at HOK
    have HAS:Hid (Bp.answer false l=[]):=HNF.out (fun g=>hok g.1)
    have HL:Hid (∀w,Calls Tryz.prog 39 #[.agg #[.int .i64 (l[k]).1,.int .i64 (l[k]).2]] w fun e w'=>e=.returned (.bool false)∧Below w.heap.size w w'):=HOK
    clear HOK HTS HNF HYF HA hok hc1 hc2 hrk
    generalize (l[k]).1=v at*
    generalize (l[k]).2=s at*
    go_wp2_with fail
    refine (HL.out _).mono ?_
    rintro e w2 ⟨rfl,bel1⟩
    have belw:Below wr.heap.size wr w2:=((Below.refl wr.heap.size wr).alloc (Nat.le_refl _) _).trans (bel1.mono (by simp))
    have hb2:Below w1.heap.size w1 w2:=hbel.trans (belw.mono hbel.size)
    clear e1 e2 bel1 hbel HL belw
    go_wp2_with fail
    go_ret
    exact⟨by rw[HAS.out];rfl,hb2⟩
  have hk':k=l.length:=by omega
  have hfits:Bp.Fits l l.length:=by rw[←hk'];exact HFT.out
  have HAN:Hid (Bp.pack false (Bp.fOf false l) N=Bp.answer false l):=by show _=_;rw[Bp.answer_yes hfits,HT.out,hk'];rfl
  obtain⟨_,⟨v,L,k1,hown,hLL⟩,_,_,_,_⟩:=HWR.out
  obtain⟨cap',ao,rfl,htx⟩:=hown.text
  rw[HAN.out] at htx
  clear hown hfits hk' hLL
  go_wp2_with fail
  go_ret
  exact⟨rfl,hbel⟩

end Go.Proofs.YtejebodgfoihkaaGreat
