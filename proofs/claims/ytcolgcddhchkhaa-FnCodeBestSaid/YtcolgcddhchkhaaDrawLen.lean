/- Lengths drawn, mostly of a code. -/
import Derived.Test.YtcolgcddhchkhaaDrawOften
namespace Go.Proofs.Ytcolgcddhchkhaa
open Go.RowKit

/-- a row lies behind block B -/
def Beside (B : Nat) (a : Option Addr) : Prop := ∀ b off, a = some ⟨b, off, none⟩ → B < b
theorem Ints.only {w w' : World} {B : Nat} {a : Option Addr} {l : List Int} (h : Ints w a l) (hb : Beside B a) (ho : Only B w w') : Ints w' a l := by
  rcases h with h | ⟨b, off, rfl, hbB, hc⟩
  · exact .inl h
  · exact .inr ⟨b, off, rfl, Nat.lt_of_lt_of_le hbB ho.below.size, fun i hi => (ho.cell b _ hbB (Nat.ne_of_gt (hb b off rfl))).trans (hc i hi)⟩
/-- what is drawn -/
def LenDrawn (B p : Nat) (w : World) (e : Ending) (w' : World) : Prop :=
  (∃ (a : Option Addr) (n c : Nat) (l : List Int), e = .returned (.slice a n c) ∧ Ints w' a l ∧ l.length = n ∧ n ≤ 300 ∧ n ≤ c ∧ Beside B a) ∧ (∃ q, q ≤ p + 200 ∧ RdAt w' B q) ∧ Only B w w'
theorem lenDrawn_own {B p : Nat} {w w' : World} {b n q : Nat} {f : Nat → Int} (h1 : Own w' b n f) (hb : B < b) (h2 : n ≤ 300) (h4 : q ≤ p + 200) (h5 : RdAt w' B q) (h6 : Only B w w') : LenDrawn B p w (.returned (.slice (some ⟨b, 0, none⟩) n n)) w' := by
  refine ⟨⟨_, n, n, (List.range n).map f, rfl, .inr ⟨b, 0, rfl, h1.1, fun i hi => ?_⟩, by simp, h2, Nat.le_refl _, fun b' off e => by cases e; exact hb⟩, ⟨q, h4, h5⟩, h6⟩
  rw [List.length_map, List.length_range] at hi
  rw [Nat.zero_add, List.getElem_map, List.getElem_range]
  exact (h1.2 i hi).1
theorem lenDrawn_ownI {B p lo : Nat} {w w' : World} {a : Option Addr} {n c q : Nat} {l : List Int} (h1 : OwnI w' lo (.slice a n c) n l) (hlo : B < lo) (h2 : n ≤ 300) (h4 : q ≤ p + 200) (h5 : RdAt w' B q) (h6 : Only B w w') : LenDrawn B p w (.returned (.slice a n c)) w' := by
  have hc : n ≤ c := by
    rcases h1.2 with ⟨e, h0⟩ | ⟨g, cap', cur, e, _, _, h3, _⟩
    · cases e; omega
    · cases e; exact h3
  have hbs : Beside B a := by
    intro b off e
    subst e
    have : off = 0 := by
      rcases h1.2 with ⟨e, h0⟩ | ⟨g, cap', cur, e, _⟩
      · cases e
      · cases e; rfl
    subst this
    have := (World.ownsRow.lt (show World.ownsRow _ _ _ _ _ _ _ from h1) b rfl).1
    omega
  obtain ⟨a7, c7, e7, h7⟩ := h1.owns
  cases e7
  exact ⟨⟨a, n, c, l, rfl, h7.ints, h1.len, h2, hc, hbs⟩, ⟨q, h4, h5⟩, h6⟩
/-- a number is set down in a row of the call's own -/
theorem ownI_set {w : World} {lo n c g k : Nat} {l : List Int} (h : OwnI w lo (.slice (some ⟨g, 0, none⟩) n c) n l) (hk : k < n) (v : Int) : w.cell? ⟨g, k, none⟩ = some (.int .i64 (l.getD k 0)) ∧ w.frozen? ⟨g, k, none⟩ = false ∧ OwnI (w.setCell ⟨g, k, none⟩ (.int .i64 v)) lo (.slice (some ⟨g, 0, none⟩) n c) n (l.set k v) := by
  have hl := h.len
  rcases h.2 with ⟨e, h0⟩ | ⟨g', cap, cur, e, h1, h2, h3, h4, h5, h6⟩
  · cases e
  · cases e
    have hget : cur[k]? = some (.int .i64 (l.getD k 0)) := by
      have : (cur.toList.take (n * 1))[k]? = some (.int .i64 (l[k]'(by omega))) := by rw [h6, intsV_get _ k (by omega)]
      rw [List.getElem?_take_of_lt (by omega)] at this
      rw [List.getD_eq_getElem?_getD, List.getElem?_eq_getElem (show k < l.length by omega)]
      simpa using this
    refine ⟨by simp [World.cell?, h2, hget], by simp [World.frozen?, h2], ⟨by rw [intsV_len, List.length_set]; omega, .inr ⟨g, c, cur.setIfInBounds k (.int .i64 v), rfl, h1, ?_, h3, h4, by simpa using h5, ?_⟩⟩⟩
    · rw [setCell_eq_setRow w g k _ _ (0, 0) _ h2]
      exact setRow_heap w g _ _ _ _ h2
    · have e1 : intsV (l.set k v) = (intsV l).set k (.int .i64 v) := by unfold intsV; rw [List.map_set]
      rw [e1, ← h6, Array.toList_setIfInBounds, List.take_set]

set_option maxHeartbeats 4000000 in
set_option maxRecDepth 20000 in
theorem l14Lengths_any (B p : Nat) (w : World) (hr : RdAt w B p) (hp : p ≤ 500) :
    Calls Try.prog 47 #[.pointer (some ⟨B, 0, none⟩)] w (LenDrawn B p w) := by
  have hlt0 := hr.lt
  have HR0 : Hid (RdAt w B p) := hr
  clear hr
  go_enter Try.func47, Try.ntmps47
  go_wp2_with fail
  refine (pick_named B p _ _ HR0.out (by omega) (by omega) (by omega)).mono ?_
  rintro e w1 ⟨x0, rfl, hx0, hR1, hO1, -⟩
  have H1 : Hid (RdAt w1 B (p + 1) ∧ Only B w w1) := ⟨hR1, hO1⟩
  clear hR1 hO1 HR0
  by_cases hx : 0 < x0
  · have hxi : (0 : Int) < (x0 : Int) := by omega
    go_wp2_with fail
    refine (l14Often_any B (p + 1) w1 H1.out.1 (by omega)).mono ?_
    rintro e w2 ⟨⟨a2, n2, c2, l2, rfl, hI2, hn2, hb2, hok⟩, ⟨q2, hq2, hR2⟩, hO2⟩
    have HFT : Hid (Calls Try.prog 12 #[.slice a2 n2 c2, .int .i64 15] w2 (Fitted w2)) := spec_codeFit15 a2 n2 c2 l2 w2 hI2 hn2 (by omega) hok
    have H2 : Hid (RdAt w2 B q2 ∧ Only B w w2) := ⟨hR2, H1.out.2.trans hO2⟩
    clear hI2 hn2 hok hR2 hO2 H1
    go_wp2_with fail
    refine HFT.out.mono ?_
    rintro e w3 ⟨⟨b, n, f, rfl, hbl, hO3, hn3⟩, b3⟩
    have hlt2 : B < w2.heap.size := H2.out.1.lt
    have H3 : Hid (RdAt w3 B q2 ∧ Only B w w3 ∧ Own w3 b n (fun i => ((f i : Nat) : Int))) := ⟨H2.out.1.kept (b3.mono hlt2), H2.out.2.trans (Only.of_below b3 hlt2), hO3⟩
    have hBb : B ≠ b := by omega
    have hBl : B < b := by omega
    have hwb : w.heap.size ≤ b := Nat.le_trans H2.out.2.below.size hbl
    clear HFT hO3 b3 H2
    by_cases hn0 : 0 < n
    · have hni : (0 : Int) < (n : Int) := by omega
      go_wp2_with fail
      refine (pick_named B q2 _ _ H3.out.1 (by omega) (by omega) (by omega)).mono ?_
      rintro e w4 ⟨y, rfl, hy, hR4, hO4, -⟩
      have H4 : Hid (RdAt w4 B (q2 + 1) ∧ Only B w w4 ∧ Own w4 b n (fun i => ((f i : Nat) : Int))) := ⟨hR4, H3.out.2.1.trans hO4, ⟨Nat.lt_of_lt_of_le H3.out.2.2.1 hO4.below.size, fun i hi => ⟨(hO4.cell b i H3.out.2.2.1 (fun e => hBb e.symm)).trans (H3.out.2.2.2 i hi).1, by
        have := hO4.rest b H3.out.2.2.1 (fun e => hBb e.symm)
        have h2 := (H3.out.2.2.2 i hi).2
        simp only [World.frozen?, this] at h2 ⊢
        exact h2⟩⟩⟩
      clear hR4 hO4 H3
      by_cases hy0 : y = 0
      · subst hy0
        go_wp2_with fail
        refine (pick_named B (q2 + 1) _ _ H4.out.1 (by omega) (by omega) (by omega)).mono ?_
        rintro e w5 ⟨k, rfl, hk, hR5, hO5, -⟩
        have hkn : k < n := by omega
        have hki : (k : Int) < (n : Int) := by omega
        have H5 : Hid (RdAt w5 B (q2 + 2) ∧ Only B w w5 ∧ Own w5 b n (fun i => ((f i : Nat) : Int))) := ⟨hR5, H4.out.2.1.trans hO5, ⟨Nat.lt_of_lt_of_le H4.out.2.2.1 hO5.below.size, fun i hi => ⟨(hO5.cell b i H4.out.2.2.1 (fun e => hBb e.symm)).trans (H4.out.2.2.2 i hi).1, by
          have := hO5.rest b H4.out.2.2.1 (fun e => hBb e.symm)
          have h2 := (H4.out.2.2.2 i hi).2
          simp only [World.frozen?, this] at h2 ⊢
          exact h2⟩⟩⟩
        clear hR5 hO5 H4 hk
        go_wp2_with fail
        refine (pick_named B (q2 + 2) _ _ H5.out.1 (by omega) (by omega) (by omega)).mono ?_
        rintro e w6 ⟨z, rfl, hz, hR6, hO6, -⟩
        have hO6' : Own w6 b n (fun i => ((f i : Nat) : Int)) := ⟨Nat.lt_of_lt_of_le H5.out.2.2.1 hO6.below.size, fun i hi => ⟨(hO6.cell b i H5.out.2.2.1 (fun e => hBb e.symm)).trans (H5.out.2.2.2 i hi).1, by
          have := hO6.rest b H5.out.2.2.1 (fun e => hBb e.symm)
          have h2 := (H5.out.2.2.2 i hi).2
          simp only [World.frozen?, this] at h2 ⊢
          exact h2⟩⟩
        obtain ⟨c1, f1⟩ := hO6'.2 k hkn
        have c1' : w6.cell? ⟨b, k, none⟩ = some (.int .i64 ((f k : Nat) : Int)) := c1
        have HF : Hid (LenDrawn B p w (.returned (.slice (some ⟨b, 0, none⟩) n n)) (w6.setCell ⟨b, k, none⟩ (.int .i64 (z : Int)))) := by
          refine lenDrawn_own (f := fun i => if i = k then (z : Int) else ((f i : Nat) : Int)) (q := q2 + 3) (own_set (z : Int) hO6' hkn (by simp) (fun i _ hi => by simp [hi])) hBl hn3 (by omega) ?_ ?_
          · have h1 : RdAt w6 B (q2 + 3) := hR6
            exact h1.kept ((Below.refl _ _).setCell (p := ⟨b, k, none⟩) (by show B + 1 ≤ b; omega) _)
          · exact (H5.out.2.1.trans hO6).set hwb hlt0 k _
        clear c1 hO6' hR6 hO6 H5
        go_wp2_with fail
        go_ret
        exact HF.out
      · have hyi : ¬ (y : Int) = 0 := by omega
        have HF : Hid (LenDrawn B p w (.returned (.slice (some ⟨b, 0, none⟩) n n)) w4) := lenDrawn_own H4.out.2.2 hBl hn3 (show q2 + 1 ≤ p + 200 by omega) H4.out.1 H4.out.2.1
        clear H4
        go_wp2_with fail
        go_ret
        exact HF.out
    · have hni : ¬ (0 : Int) < (n : Int) := by omega
      have HF : Hid (LenDrawn B p w (.returned (.slice (some ⟨b, 0, none⟩) n n)) w3) := lenDrawn_own H3.out.2.2 hBl hn3 (show q2 ≤ p + 200 by omega) H3.out.1 H3.out.2.1
      clear H3
      go_wp2_with fail
      go_ret
      exact HF.out
  · have hxi : ¬ (0 : Int) < (x0 : Int) := by omega
    have hlt1 : B < w1.heap.size := H1.out.1.lt
    have HE : Hid (OwnI (w1.alloc (.cells #[] 3)) w1.heap.size (.slice (some ⟨w1.heap.size, 0, none⟩) 0 0) 0 []) := ownI_none w1
    have HRa : Hid (RdAt (w1.alloc (.cells #[] 3)) B (p + 1)) := H1.out.1.alloc _
    have HOa : Hid (Only B w (w1.alloc (.cells #[] 3))) := H1.out.2.alloc hlt1 _
    go_wp2_with fail
    refine (pick_named B (p + 1) _ _ HRa.out (by omega) (by omega) (by omega)).mono ?_
    rintro e w2 ⟨k0, rfl, hk0, hR2, hO2, -⟩
    have HD2 : Hid (OwnI w2 w1.heap.size (.slice (some ⟨w1.heap.size, 0, none⟩) 0 0) 0 []) := HE.out.only hO2 hlt1
    have HR2 : Hid (RdAt w2 B (p + 1 + 1)) := hR2
    have HO2 : Hid (Only B w w2 ∧ Only B w1 w2) := ⟨HOa.out.trans hO2, ((Only.refl B w1).alloc hlt1 _).trans hO2⟩
    have hk6 : k0 ≤ 6 := by omega
    clear hR2 hO2 HE HRa HOa hk0
    go_wp2_with fail
    go_loopw [5, 6] (fun v i wr => ∃ (k q n : Nat) (l : List Int), k ≤ 6 ∧ i = .int .i64 k ∧ n + k ≤ 6 ∧ q + k ≤ p + 20 ∧ (∃ a c, v = .slice a n c) ∧ Hid (RdAt wr B q ∧ OwnI wr w1.heap.size v n l ∧ Only B w1 wr)) (fun _ i _ => (intOf i).toNat)
    case atStart => exact ⟨k0, p + 1 + 1, 0, [], hk6, rfl, by omega, by omega, ⟨_, _, rfl⟩, HR2.out, HD2.out, HO2.out.2⟩
    case round =>
      obtain ⟨k, q, n, l, hk, rfl, hnk, hqk, ⟨a5, c5, rfl⟩, HA⟩ := hrel
      clear HR2 HD2 HO2
      by_cases hk0' : 0 < k
      · have hki : (0 : Int) < (k : Int) := by omega
        go_wp2_with fail
        refine (pick_named B q _ _ HA.out.1 (by omega) (by omega) (by omega)).mono ?_
        rintro e w4 ⟨y1, rfl, hy1, hR4, hO4, -⟩
        have H4 : Hid (RdAt w4 B (q + 1) ∧ OwnI w4 w1.heap.size (.slice a5 n c5) n l ∧ Only B w1 w4) := ⟨hR4, HA.out.2.1.only hO4 hlt1, HA.out.2.2.trans hO4⟩
        have hbs : w1.heap.size ≤ w4.heap.size := H4.out.2.2.below.size
        clear hR4 hO4 HA
        go_wp2_with (at_builtin; refine wpList_app1 w4 (by rfl) _ _ (by rfl) w1.heap.size _ n l (y1 : Int) (by rfl) H4.out.2.1 (by rfl) (by omega) hbs ?_)
        intro g cap w9 hown9 hgr
        have hb9 : Below w1.heap.size w4 w9 := hgr.below (Below.refl _ _) (Nat.le_refl _) hbs
        have H9 : Hid (RdAt w9 B (q + 1) ∧ OwnI w9 w1.heap.size (.slice (some ⟨g, 0, none⟩) (n + 1) cap) (n + 1) (l ++ [(y1 : Int)]) ∧ Only B w1 w9) := ⟨H4.out.1.kept (hb9.mono hlt1), hown9, H4.out.2.2.grown hlt1 hb9⟩
        clear hown9 hgr hb9 H4
        go_wp2_with fail
        go_roundw
        case rel => exact ⟨k - 1, q + 1, n + 1, _, by omega, by go_num, by omega, by omega, ⟨_, _, rfl⟩, H9⟩
        case measure => simp [intOf]; omega
      · have hki : ¬ (0 : Int) < (k : Int) := by omega
        by_cases hn0 : 0 < n
        · have hni : (0 : Int) < (n : Int) := by omega
          go_wp2_with fail
          refine (pick_named B q _ _ HA.out.1 (by omega) (by omega) (by omega)).mono ?_
          rintro e w4 ⟨y1, rfl, hy1, hR4, hO4, -⟩
          have H4 : Hid (RdAt w4 B (q + 1) ∧ OwnI w4 w1.heap.size (.slice a5 n c5) n l ∧ Only B w1 w4) := ⟨hR4, HA.out.2.1.only hO4 hlt1, HA.out.2.2.trans hO4⟩
          clear hR4 hO4 HA
          by_cases hy0 : y1 = 0
          · subst hy0
            have hltw : B < w4.heap.size := H4.out.1.lt
            have HR7 : Hid (RdAt (w4.alloc (.cells #[.int .i64 (-1), .int .i64 16] 3)) B (q + 1)) := H4.out.1.alloc _
            go_wp2_with fail
            refine (pick_named B (q + 1) _ _ HR7.out (by omega) (by omega) (by omega)).mono ?_
            rintro e w8 ⟨y4, rfl, hy4, hR8, hO8, -⟩
            have hy5 : y4 < 2 := by omega
            obtain ⟨v, hv⟩ := two_cell w4 (-1) 16 y4 hy5
            have hv8 : w8.cell? ⟨w4.heap.size, y4, none⟩ = some (.int .i64 v) := (hO8.cell w4.heap.size y4 (by simp) (by omega)).trans hv
            have hO8' : OwnI w8 w1.heap.size (.slice a5 n c5) n l := OwnI.only (OwnI.alloc H4.out.2.1 _) hO8 hlt1
            have hon : Only B w1 w8 := (H4.out.2.2.alloc hltw _).trans hO8
            obtain ⟨g, rfl⟩ : ∃ g, a5 = some ⟨g, 0, none⟩ := by
              rcases hO8'.2 with ⟨e, h0⟩ | ⟨g', cap', cur, e, _⟩
              · omega
              · cases e; exact ⟨g', rfl⟩
            obtain ⟨d1, d2, d3⟩ := ownI_set hO8' hn0 v
            have hgl : w1.heap.size ≤ g := (World.ownsRow.lt (show World.ownsRow _ _ _ _ _ _ _ from hO8') g rfl).1
            have HF : Hid (LenDrawn B p w (.returned (.slice (some ⟨g, 0, none⟩) n c5)) (w8.setCell ⟨g, 0, none⟩ (.int .i64 v))) := by
              refine lenDrawn_ownI (q := q + 2) d3 hlt1 (by omega) (by omega) ?_ (H1.out.2.trans (hon.set hgl hlt1 0 _))
              have h1 : RdAt w8 B (q + 2) := hR8
              exact h1.kept ((Below.refl _ _).setCell (p := ⟨g, 0, none⟩) (by show B + 1 ≤ g; omega) _)
            have hy4i : (y4 : Int) < 2 := by omega
            clear hR8 hO8 H4 HR7 hv hltw hO8' hon d3
            go_wp2_with fail
            go_ret
            exact HF.out
          · have hyi : ¬ (y1 : Int) = 0 := by omega
            have HF : Hid (LenDrawn B p w (.returned (.slice a5 n c5)) w4) := lenDrawn_ownI H4.out.2.1 hlt1 (by omega) (show q + 1 ≤ p + 200 by omega) H4.out.1 (H1.out.2.trans H4.out.2.2)
            clear H4
            go_wp2_with fail
            go_ret
            exact HF.out
        · have hni : ¬ (0 : Int) < (n : Int) := by omega
          have HF : Hid (LenDrawn B p w (.returned (.slice a5 n c5)) wr) := lenDrawn_ownI HA.out.2.1 hlt1 (by omega) (show q ≤ p + 200 by omega) HA.out.1 (H1.out.2.trans HA.out.2.2)
          clear HA
          go_wp2_with fail
          go_ret
          exact HF.out
end Go.Proofs.Ytcolgcddhchkhaa
