/- The law that tokens behind tokens make more, walked. -/
import Derived.Test.YtddlldbljnhfmaaDrawTokens2
import Derived.Test.YtddlldbljnhfmaaToTop
import Derived.Test.YtddlldbljnhfmaaTkMore
namespace Go.Proofs.Ytddlldbljnhfmaa
open Go.RowKit

theorem Toks.less {w : World} {a : Option Addr} {l : List Tk} (h : Toks w a l) (k : Nat) : Toks w a (l.take k) := by
  rcases h with h | ⟨b, off, rfl, hbB, hc⟩
  · left; rw [h]; simp
  · refine .inr ⟨b, off, rfl, hbB, fun i hi => ?_⟩
    rw [List.length_take] at hi
    rw [List.getElem_take]
    exact hc i (by omega)

set_option maxHeartbeats 4000000 in
set_option maxRecDepth 20000 in
theorem lawTokensOut (a : Option Addr) (len cap : Nat) (b : Option Addr) (len2 cap2 : Nat) (w : World) (h : Code8 w a len cap) (_h' : Code8 w b len2 cap2) :
    Calls Try.prog 3 #[.slice a len cap, .slice b len2 cap2] w fun e w' => e = .returned (.bool true) ∧ Below w.heap.size w w' := by
  by_cases hbig : 1048576 < len
  · have d0 : decide ((len : Int) > 1048576) = true := by simp; omega
    clear h
    go_enter Try.func3, Try.ntmps3
    go_wp2_with fail
    go_ret
    exact ⟨rfl, Below.refl _ _⟩
  have d0 : decide ((len : Int) > 1048576) = false := by simp; omega
  by_cases hbig2 : 1048576 < len2
  · have d1 : decide ((len2 : Int) > 1048576) = true := by simp; omega
    clear h
    go_enter Try.func3, Try.ntmps3
    go_wp2_with fail
    go_ret
    exact ⟨rfl, Below.refl _ _⟩
  have d1 : decide ((len2 : Int) > 1048576) = false := by simp; omega
  have HD : Hid (Calls Try.prog 4 #[.slice a len cap] w (OutDrawn w)) := drawTokensOut_any a len cap w h
  clear h _h'
  go_enter Try.func3, Try.ntmps3
  go_wp2_with fail
  refine HD.out.mono ?_
  rintro e w1 ⟨l, ao, cp, rfl, hl, hcp, hT, b1⟩
  have HT1 : Hid (Toks w1 ao l) := hT
  have HB1 : Hid (Below w.heap.size w w1) := b1
  clear HD b1 d0 d1 hT
  have HIM : Hid (∀ w : World, Toks w ao l → Calls Try.prog 5 #[.slice ao l.length cp] w fun e w' => e = .returned (.tuple #[.string ⟨(To.ansL l).toArray⟩, .bool (To.ansB l)]) ∧ Below w.heap.size w w') := fun w hw => impl_tokensOut ao l.length cp l w hw rfl (by omega)
  have HSP : Hid (∀ w : World, Toks w ao l → Calls Try.prog 6 #[.slice ao l.length cp] w fun e w' => e = .returned (.tuple #[.string ⟨(To.ansL l).toArray⟩, .bool (To.ansB l)]) ∧ Below w.heap.size w w') := fun w hw => spec_tokensOut ao l.length cp l w hw rfl (by omega)
  rcases hg : To.get l [] with _ | r
  · obtain ⟨e1, e2⟩ := To.ans_none hg
    rw [e1, e2] at HIM HSP
    clear hg e1 e2
    go_wp2_with fail
    refine (HIM.out _ HT1.out).mono ?_
    rintro e w2 ⟨rfl, b2⟩
    have HT2 : Hid (Toks w2 ao l) := HT1.out.kept b2
    have HB2 : Hid (Below w.heap.size w w2) := HB1.out.trans (b2.mono HB1.out.size)
    clear b2 HT1 HB1 HIM
    go_wp2_with fail
    refine (HSP.out _ HT2.out).mono ?_
    rintro e w3 ⟨rfl, b3⟩
    have HB3 : Hid (Below w.heap.size w w3) := HB2.out.trans (b3.mono HB2.out.size)
    clear b3 HT2 HB2 HSP
    go_wp2_with fail
    go_ret
    exact ⟨rfl, HB3.out⟩
  · obtain ⟨e1, e2⟩ := To.ans_some hg
    rw [e1, e2] at HIM HSP
    obtain ⟨K, hK⟩ : ∃ K, K = len2 % (l.length + 1) := ⟨_, rfl⟩
    have hKn : K < l.length + 1 := by rw [hK]; exact Nat.mod_lt _ (by omega)
    obtain ⟨N1, hN1⟩ : ∃ N1, N1 = l.length + 1 := ⟨_, rfl⟩
    have eN : (l.length : Int) + 1 = (N1 : Int) := by omega
    have hN0 : (0 : Int) < (N1 : Int) := by omega
    have hKi : (len2 : Int) % (N1 : Int) = (K : Int) := by rw [hK, hN1]; rfl
    obtain ⟨m, hm1, hm2⟩ := To.get_less l K [] r hg
    have hr5 := To.get_short l [] r (Nat.zero_le _) hg
    have hml : m.length ≤ r.length := hm2.length_le
    obtain ⟨R, hR⟩ : ∃ R, R = (⟨r.toArray⟩ : ByteArray) := ⟨_, rfl⟩
    obtain ⟨Q, hQ⟩ : ∃ Q, Q = (⟨m.toArray⟩ : ByteArray) := ⟨_, rfl⟩
    have hRs : R.size = r.length := by rw [hR]; simp [ByteArray.size]
    have hQs : Q.size = m.length := by rw [hQ]; simp [ByteArray.size]
    have hex : R.extract 0 Q.size = Q := by rw [hQs, hR, hQ]; exact To.extract_prefix hm2
    rw [← hR] at HIM HSP
    have HLE : Hid (∀ w : World, Toks w ao l → Calls Try.prog 5 #[.slice ao K cp] w fun e w' => e = .returned (.tuple #[.string Q, .bool true]) ∧ Below w.heap.size w w') := fun w hw => by
      obtain ⟨f1, f2⟩ := To.ans_some hm1
      have h1 := impl_tokensOut ao K cp (l.take K) w (hw.less K) (by rw [List.length_take]; omega) (by omega)
      have h2 : ToEnd w (l.take K) = fun e w' => e = .returned (.tuple #[.string Q, .bool true]) ∧ Below w.heap.size w w' := by
        funext e w'
        unfold ToEnd
        rw [f1, f2, hQ]
      rw [h2] at h1
      exact h1
    have hQR : Q.size ≤ R.size := by omega
    have hQRi : (Q.size : Int) ≤ (R.size : Int) := by omega
    have hR5 : R.size ≤ 5000 := by omega
    have hR5i : (R.size : Int) ≤ 5000 := by omega
    have hKc : K ≤ cp := by omega
    have hKci : (K : Int) ≤ (cp : Int) := by omega
    have hll : l.length ≤ 5001 := hl
    clear hg e1 e2 hK hm1 hm2 hr5 hml hR hQ hRs hQs hN1
    go_wp2_with fail
    refine (HIM.out _ HT1.out).mono ?_
    rintro e w2 ⟨rfl, b2⟩
    have HT2 : Hid (Toks w2 ao l) := HT1.out.kept b2
    have HB2 : Hid (Below w.heap.size w w2) := HB1.out.trans (b2.mono HB1.out.size)
    clear b2 HT1 HB1 HIM
    go_wp2_with fail
    refine (HSP.out _ HT2.out).mono ?_
    rintro e w3 ⟨rfl, b3⟩
    have HT3 : Hid (Toks w3 ao l) := HT2.out.kept b3
    have HB3 : Hid (Below w.heap.size w w3) := HB2.out.trans (b3.mono HB2.out.size)
    clear b3 HT2 HB2 HSP
    go_wp2_with fail
    refine (HLE.out _ HT3.out).mono ?_
    rintro e w4 ⟨rfl, b4⟩
    have HB4 : Hid (Below w.heap.size w w4) := HB3.out.trans (b4.mono HB3.out.size)
    clear b4 HT3 HB3 HLE
    go_wp2_with fail
    go_ret
    exact ⟨rfl, HB4.out⟩
end Go.Proofs.Ytddlldbljnhfmaa
