/- A text, a depth and a count, drawn. -/
import Derived.Test.YtjikjjganloobaaDrawRowPut
import Derived.Test.YtjikjjganloobaaRpSpecTop
import Derived.Test.YtjikjjganloobaaRpBack
namespace Go.Proofs.Ytjikjjganloobaa
open Go.RowKit

theorem put_short (d : Int) (zs : List Int) : (⟨((Rp.put d zs).map UInt8.ofNat).toArray⟩ : ByteArray).size ≤ 9001 := by
  have e : (⟨((Rp.put d zs).map UInt8.ofNat).toArray⟩ : ByteArray).size = (Rp.put d zs).length := by simp [ByteArray.size]
  rw [e]
  rcases Classical.em (Rp.Fit d zs) with g | g
  · rw [Rp.put_yes g]
    obtain ⟨hd, hl, hs⟩ := g
    obtain ⟨D, rfl, _, hD, hDD⟩ := Rw.dep_nat hd
    rw [Int.toNat_natCast] at hs ⊢
    have hR := row_of hDD hl hs
    unfold Bp.text
    rw [Bp.pack_len, hR.tot]
    have : zs.length * D ≤ 1000 * 32 := Nat.mul_le_mul hl hD
    omega
  · rw [Rp.put_no g]; simp

theorem arr5 (n : Nat) (hn : n ≤ 12) (v : Nat) (hv : (v : Int) < 5) : ∃ z c : Int, (-1 ≤ c ∧ c ≤ 13) ∧ IntKind.i64.wrap ((n : Int) + z) = c ∧ (#[Value.int .i64 0, Value.int .i64 0, Value.int .i64 0, Value.int .i64 1, Value.int .i64 (-1)])[v]? = some (Value.int .i64 z) := by
  have hw : ∀ z : Int, -1 ≤ z → z ≤ 1 → IntKind.i64.wrap ((n : Int) + z) = (n : Int) + z := by
    intro z h1 h2; simp [IntKind.wrap, IntKind.bits, IntKind.signed]; omega
  have h : v = 0 ∨ v = 1 ∨ v = 2 ∨ v = 3 ∨ v = 4 := by omega
  rcases h with rfl | rfl | rfl | rfl | rfl
  · exact ⟨0, (n : Int) + 0, by omega, hw _ (by omega) (by omega), rfl⟩
  · exact ⟨0, (n : Int) + 0, by omega, hw _ (by omega) (by omega), rfl⟩
  · exact ⟨0, (n : Int) + 0, by omega, hw _ (by omega) (by omega), rfl⟩
  · exact ⟨1, (n : Int) + 1, by omega, hw _ (by omega) (by omega), rfl⟩
  · exact ⟨-1, (n : Int) + -1, by omega, hw _ (by omega) (by omega), rfl⟩

/-- the end of the draw: from where the text stands -/
def Ends (w : World) (e : Ending) (w' : World) : Prop := (∃ (s : ByteArray) (d c : Int), e = .returned (.tuple #[.string s, .int .i64 d, .int .i64 c]) ∧ s.size ≤ 9001 ∧ 0 ≤ d ∧ d ≤ 32 ∧ -1 ≤ c ∧ c ≤ 13) ∧ Below w.heap.size w w'

set_option maxHeartbeats 2000000 in
set_option maxRecDepth 20000 in
theorem drawRowGet_any (a : Option Addr) (len cap : Nat) (w : World) (h : Code8 w a len cap) :
    Calls Try.prog 18 #[.slice a len cap] w fun e w' => Ends w e w' := by
  go_enter Try.func18, Try.ntmps18
  go_wp2_with fail
  refine (open_any a len cap w h).mono ?_
  rintro e w1 ⟨rfl, hR, bel⟩
  have h1 := h.kept bel
  have hlt1 := hR.lt
  clear h
  go_wp2_with fail
  refine (drawRowPut_any a len cap w1 h1).mono ?_
  rintro e w2 ⟨⟨v, n, l, d, rfl, hown, hn, hz, hd0, hd1⟩, b2⟩
  have hlen := hown.len
  obtain ⟨ao, c, rfl, hOw⟩ := hown.owns
  have hI := hOw.ints
  have hR2 := hR.kept (b2.mono hlt1)
  have bel2 := bel.trans (b2.mono (by omega))
  clear hown hOw h1 hR bel b2 hz
  obtain ⟨T, hT⟩ : ∃ T, T = (⟨((Rp.put d l).map UInt8.ofNat).toArray⟩ : ByteArray) := ⟨_, rfl⟩
  have hTs : T.size ≤ 9001 := by rw [hT]; exact put_short d l
  have HS : Hid (Calls Try.prog 16 #[.slice ao n c, .int .i64 d] w2 fun e w' => e = .returned (.string T) ∧ Below w2.heap.size w2 w') := by
    rw [hT]; exact spec_rowPut ao n c d l w2 hI hlen (by omega)
  clear hT hI hlen
  have hlt2 : w.heap.size < w2.heap.size := hR2.lt
  go_wp2_with fail
  refine HS.out.mono ?_
  rintro e w3 ⟨rfl, b3⟩
  have HR3 : Hid (RdAt w3 w.heap.size 0) := hR2.kept (b3.mono hlt2)
  have HB3 : Hid (Below w.heap.size w w3) := bel2.trans (b3.mono (by omega))
  clear HS hR2 bel2 b3
  go_wp2_with fail
  refine (pick_named w.heap.size 0 _ _ HR3.out (by omega) (by omega) (by omega)).mono ?_
  rintro e w4 ⟨u, rfl, hu, hR4, hO4, hs4⟩
  have bel4 : Below w.heap.size w w4 := HB3.out.trans hO4.below
  clear HR3 HB3 hO4 hs4
  by_cases hu0 : u = 0
  · subst hu0
    have HT : Hid (Calls Try.prog 40 #[.pointer (some ⟨w.heap.size, 0, none⟩)] w4 fun e w' => (∃ t : ByteArray, e = .returned (.string t) ∧ t.size ≤ 9001) ∧ (∃ q, q ≤ 1 + 100 ∧ RdAt w' w.heap.size q) ∧ Only w.heap.size w4 w') := text_any w.heap.size 1 w4 hR4 (by omega)
    clear hR4
    go_wp2_with fail
    refine HT.out.mono ?_
    rintro e w5 ⟨⟨t, rfl, ht⟩, ⟨q, hq, hR5⟩, hO5⟩
    have bel5 := bel4.trans hO5.below
    have hlt5 := hR5.lt
    have hne : ¬ w5.heap.size = w.heap.size := by omega
    clear HT hO5 bel4
    go_wp2_with fail
    go_region_with (go_at_call 35; refine (pick_named w.heap.size q 5 _ ?_ (by omega) (by omega) (by omega)).mono ?_; (repeat (first | exact hR5 | refine RdAt.drew ?_ | refine RdAt.alloc ?_ _)); rintro e w6 ⟨v, rfl, hv, hR6, hO6, hs6⟩; obtain ⟨sv, cc, hcc, hwc, hget⟩ := arr5 n hn v hv; have hc6 := hO6.cell)
    all_goals go_wp2_with fail
    all_goals go_ret3
    all_goals refine ⟨⟨t, d, cc, rfl, ht, hd0, hd1, hcc.1, hcc.2⟩, ?_⟩
    all_goals (repeat (first | exact bel5 | refine Below.drew ?_ | refine below_alloc0 ?_ _ | refine Below.trans ?_ hO6.below))
  · have hui : ((u : Int) == 0) = false := by simp; omega
    have hlt5 := hR4.lt
    have hne : ¬ w4.heap.size = w.heap.size := by omega
    go_wp2_with fail
    go_region_with (go_at_call 35; refine (pick_named w.heap.size 1 5 _ ?_ (by omega) (by omega) (by omega)).mono ?_; (repeat (first | exact hR4 | refine RdAt.drew ?_ | refine RdAt.alloc ?_ _)); rintro e w6 ⟨v, rfl, hv, hR6, hO6, hs6⟩; obtain ⟨sv, cc, hcc, hwc, hget⟩ := arr5 n hn v hv; have hc6 := hO6.cell)
    all_goals go_wp2_with fail
    all_goals go_ret3
    all_goals refine ⟨⟨T, d, cc, rfl, hTs, hd0, hd1, hcc.1, hcc.2⟩, ?_⟩
    all_goals (repeat (first | exact bel4 | refine Below.drew ?_ | refine below_alloc0 ?_ _ | refine Below.trans ?_ hO6.below))
end Go.Proofs.Ytjikjjganloobaa
