/- Texts laid together: DrawLen, GtBits, GtHit, GtTop, GtFull, ExCodeFull, LawCodeFull. -/
import Derived.Test.YtjdilanmkgodnaaDrawOften
import Derived.Test.YtjdilanmkgodnaaGtTree
import Derived.Test.YtjdilanmkgodnaaBgMath2
import Derived.Test.YtjdilanmkgodnaaCpMath
import Derived.Test.YtjdilanmkgodnaaBpBack
import Derived.Test.YtjdilanmkgodnaaGtFind
import Derived.Test.YtjdilanmkgodnaaCodeWalks
import Derived.Test.YtjdilanmkgodnaaRow64
import Derived.Test.YtjdilanmkgodnaaDrawSums
import Derived.Test.YtjdilanmkgodnaaAppInts
/- Lengths drawn, mostly of a code. -/
namespace Go.Proofs.Ytjdilanmkgodnaa
open Go.RowKit

/-- a row lies behind block B -/
def Beside (B : Nat) (a : Option Addr) : Prop := ∀ b off, a = some ⟨b, off, none⟩ → B < b
theorem Ints.only {w w' : World} {B : Nat} {a : Option Addr} {l : List Int} (h : Ints w a l) (hb : Beside B a) (ho : Only B w w') : Ints w' a l := by
  rcases h with h | ⟨b, off, rfl, hbB, hc⟩
  · exact .inl h
  · exact .inr ⟨b, off, rfl, Nat.lt_of_lt_of_le hbB ho.below.size, fun i hi => (ho.cell b _ hbB (Nat.ne_of_gt (hb b off rfl))).trans (hc i hi)⟩
/-- what is drawn -/
def LenDrawn (B p : Nat) (w : World) (e : Ending) (w' : World) : Prop :=
  (∃ (a : Option Addr) (n c : Nat) (l : List Int), e = .returned (.slice a n c) ∧ Ints w' a l ∧ l.length = n ∧ n ≤ 300 ∧ n ≤ c ∧ Beside B a) ∧ (∃ q, q ≤ p + 200 ∧ RdAt w' B q) ∧ Only B w w'
theorem lenDrawn_own {B p : Nat} {w w' : World} {b n q : Nat} {f : Nat → Int} (h1 : Own w' b n f) (hb : B < b) (h2 : n ≤ 300) (h4 : q ≤ p + 200) (h5 : RdAt w' B q) (h6 : Only B w w') : LenDrawn B p w (.returned (.slice (some ⟨b, 0, none⟩) n n)) w' := by
  refine ⟨⟨_, n, n, (List.range n).map f, rfl, .inr ⟨b, 0, rfl, h1.1, fun i hi => ?_⟩, by simp, h2, Nat.le_refl _, fun b' off e => by cases e; exact hb⟩, ⟨q, h4, h5⟩, h6⟩
  rw [List.length_map, List.length_range] at hi
  rw [Nat.zero_add, List.getElem_map, List.getElem_range]
  exact (h1.2 i hi).1
theorem lenDrawn_ownI {B p lo : Nat} {w w' : World} {a : Option Addr} {n c q : Nat} {l : List Int} (h1 : OwnI w' lo (.slice a n c) n l) (hlo : B < lo) (h2 : n ≤ 300) (h4 : q ≤ p + 200) (h5 : RdAt w' B q) (h6 : Only B w w') : LenDrawn B p w (.returned (.slice a n c)) w' := by
  have hc : n ≤ c := by
    rcases h1.2 with ⟨e, h0⟩ | ⟨g, cap', cur, e, _, _, h3, _⟩
    · cases e; omega
    · cases e; exact h3
  have hbs : Beside B a := by
    intro b off e
    subst e
    have : off = 0 := by
      rcases h1.2 with ⟨e, h0⟩ | ⟨g, cap', cur, e, _⟩
      · cases e
      · cases e; rfl
    subst this
    have := (World.ownsRow.lt (show World.ownsRow _ _ _ _ _ _ _ from h1) b rfl).1
    omega
  obtain ⟨a7, c7, e7, h7⟩ := h1.owns
  cases e7
  exact ⟨⟨a, n, c, l, rfl, h7.ints, h1.len, h2, hc, hbs⟩, ⟨q, h4, h5⟩, h6⟩
/-- a number is set down in a row of the call's own -/
theorem ownI_set {w : World} {lo n c g k : Nat} {l : List Int} (h : OwnI w lo (.slice (some ⟨g, 0, none⟩) n c) n l) (hk : k < n) (v : Int) : w.cell? ⟨g, k, none⟩ = some (.int .i64 (l.getD k 0)) ∧ w.frozen? ⟨g, k, none⟩ = false ∧ OwnI (w.setCell ⟨g, k, none⟩ (.int .i64 v)) lo (.slice (some ⟨g, 0, none⟩) n c) n (l.set k v) := by
  have hl := h.len
  rcases h.2 with ⟨e, h0⟩ | ⟨g', cap, cur, e, h1, h2, h3, h4, h5, h6⟩
  · cases e
  · cases e
    have hget : cur[k]? = some (.int .i64 (l.getD k 0)) := by
      have : (cur.toList.take (n * 1))[k]? = some (.int .i64 (l[k]'(by omega))) := by rw [h6, intsV_get _ k (by omega)]
      rw [List.getElem?_take_of_lt (by omega)] at this
      rw [List.getD_eq_getElem?_getD, List.getElem?_eq_getElem (show k < l.length by omega)]
      simpa using this
    refine ⟨by simp [World.cell?, h2, hget], by simp [World.frozen?, h2], ⟨by rw [intsV_len, List.length_set]; omega, .inr ⟨g, c, cur.setIfInBounds k (.int .i64 v), rfl, h1, ?_, h3, h4, by simpa using h5, ?_⟩⟩⟩
    · rw [setCell_eq_setRow w g k _ _ (0, 0) _ h2]
      exact setRow_heap w g _ _ _ _ h2
    · have e1 : intsV (l.set k v) = (intsV l).set k (.int .i64 v) := by unfold intsV; rw [List.map_set]
      rw [e1, ← h6, Array.toList_setIfInBounds, List.take_set]

set_option maxHeartbeats 4000000 in
set_option maxRecDepth 20000 in
theorem l14Lengths_any (B p : Nat) (w : World) (hr : RdAt w B p) (hp : p ≤ 500) :
    Calls Try.prog 31 #[.pointer (some ⟨B, 0, none⟩)] w (LenDrawn B p w) := by
  have hlt0 := hr.lt
  have HR0 : Hid (RdAt w B p) := hr
  clear hr
  go_enter Try.func31, Try.ntmps31
  go_wp2_with fail
  refine (pick_named B p _ _ HR0.out (by omega) (by omega) (by omega)).mono ?_
  rintro e w1 ⟨x0, rfl, hx0, hR1, hO1, -⟩
  have H1 : Hid (RdAt w1 B (p + 1) ∧ Only B w w1) := ⟨hR1, hO1⟩
  clear hR1 hO1 HR0
  by_cases hx : 0 < x0
  · have hxi : (0 : Int) < (x0 : Int) := by omega
    go_wp2_with fail
    refine (l14Often_any B (p + 1) w1 H1.out.1 (by omega)).mono ?_
    rintro e w2 ⟨⟨a2, n2, c2, l2, rfl, hI2, hn2, hb2, hok⟩, ⟨q2, hq2, hR2⟩, hO2⟩
    have HFT : Hid (Calls Try.prog 48 #[.slice a2 n2 c2, .int .i64 15] w2 (Fitted w2)) := spec_codeFit15 a2 n2 c2 l2 w2 hI2 hn2 (by omega) hok
    have H2 : Hid (RdAt w2 B q2 ∧ Only B w w2) := ⟨hR2, H1.out.2.trans hO2⟩
    clear hI2 hn2 hok hR2 hO2 H1
    go_wp2_with fail
    refine HFT.out.mono ?_
    rintro e w3 ⟨⟨b, n, f, rfl, hbl, hO3, hn3⟩, b3⟩
    have hlt2 : B < w2.heap.size := H2.out.1.lt
    have H3 : Hid (RdAt w3 B q2 ∧ Only B w w3 ∧ Own w3 b n (fun i => ((f i : Nat) : Int))) := ⟨H2.out.1.kept (b3.mono hlt2), H2.out.2.trans (Only.of_below b3 hlt2), hO3⟩
    have hBb : B ≠ b := by omega
    have hBl : B < b := by omega
    have hwb : w.heap.size ≤ b := Nat.le_trans H2.out.2.below.size hbl
    clear HFT hO3 b3 H2
    by_cases hn0 : 0 < n
    · have hni : (0 : Int) < (n : Int) := by omega
      go_wp2_with fail
      refine (pick_named B q2 _ _ H3.out.1 (by omega) (by omega) (by omega)).mono ?_
      rintro e w4 ⟨y, rfl, hy, hR4, hO4, -⟩
      have H4 : Hid (RdAt w4 B (q2 + 1) ∧ Only B w w4 ∧ Own w4 b n (fun i => ((f i : Nat) : Int))) := ⟨hR4, H3.out.2.1.trans hO4, ⟨Nat.lt_of_lt_of_le H3.out.2.2.1 hO4.below.size, fun i hi => ⟨(hO4.cell b i H3.out.2.2.1 (fun e => hBb e.symm)).trans (H3.out.2.2.2 i hi).1, by
        have := hO4.rest b H3.out.2.2.1 (fun e => hBb e.symm)
        have h2 := (H3.out.2.2.2 i hi).2
        simp only [World.frozen?, this] at h2 ⊢
        exact h2⟩⟩⟩
      clear hR4 hO4 H3
      by_cases hy0 : y = 0
      · subst hy0
        go_wp2_with fail
        refine (pick_named B (q2 + 1) _ _ H4.out.1 (by omega) (by omega) (by omega)).mono ?_
        rintro e w5 ⟨k, rfl, hk, hR5, hO5, -⟩
        have hkn : k < n := by omega
        have hki : (k : Int) < (n : Int) := by omega
        have H5 : Hid (RdAt w5 B (q2 + 2) ∧ Only B w w5 ∧ Own w5 b n (fun i => ((f i : Nat) : Int))) := ⟨hR5, H4.out.2.1.trans hO5, ⟨Nat.lt_of_lt_of_le H4.out.2.2.1 hO5.below.size, fun i hi => ⟨(hO5.cell b i H4.out.2.2.1 (fun e => hBb e.symm)).trans (H4.out.2.2.2 i hi).1, by
          have := hO5.rest b H4.out.2.2.1 (fun e => hBb e.symm)
          have h2 := (H4.out.2.2.2 i hi).2
          simp only [World.frozen?, this] at h2 ⊢
          exact h2⟩⟩⟩
        clear hR5 hO5 H4 hk
        go_wp2_with fail
        refine (pick_named B (q2 + 2) _ _ H5.out.1 (by omega) (by omega) (by omega)).mono ?_
        rintro e w6 ⟨z, rfl, hz, hR6, hO6, -⟩
        have hO6' : Own w6 b n (fun i => ((f i : Nat) : Int)) := ⟨Nat.lt_of_lt_of_le H5.out.2.2.1 hO6.below.size, fun i hi => ⟨(hO6.cell b i H5.out.2.2.1 (fun e => hBb e.symm)).trans (H5.out.2.2.2 i hi).1, by
          have := hO6.rest b H5.out.2.2.1 (fun e => hBb e.symm)
          have h2 := (H5.out.2.2.2 i hi).2
          simp only [World.frozen?, this] at h2 ⊢
          exact h2⟩⟩
        obtain ⟨c1, f1⟩ := hO6'.2 k hkn
        have c1' : w6.cell? ⟨b, k, none⟩ = some (.int .i64 ((f k : Nat) : Int)) := c1
        have HF : Hid (LenDrawn B p w (.returned (.slice (some ⟨b, 0, none⟩) n n)) (w6.setCell ⟨b, k, none⟩ (.int .i64 (z : Int)))) := by
          refine lenDrawn_own (f := fun i => if i = k then (z : Int) else ((f i : Nat) : Int)) (q := q2 + 3) (own_set (z : Int) hO6' hkn (by simp) (fun i _ hi => by simp [hi])) hBl hn3 (by omega) ?_ ?_
          · have h1 : RdAt w6 B (q2 + 3) := hR6
            exact h1.kept ((Below.refl _ _).setCell (p := ⟨b, k, none⟩) (by show B + 1 ≤ b; omega) _)
          · exact (H5.out.2.1.trans hO6).set hwb hlt0 k _
        clear c1 hO6' hR6 hO6 H5
        go_wp2_with fail
        go_ret
        exact HF.out
      · have hyi : ¬ (y : Int) = 0 := by omega
        have HF : Hid (LenDrawn B p w (.returned (.slice (some ⟨b, 0, none⟩) n n)) w4) := lenDrawn_own H4.out.2.2 hBl hn3 (show q2 + 1 ≤ p + 200 by omega) H4.out.1 H4.out.2.1
        clear H4
        go_wp2_with fail
        go_ret
        exact HF.out
    · have hni : ¬ (0 : Int) < (n : Int) := by omega
      have HF : Hid (LenDrawn B p w (.returned (.slice (some ⟨b, 0, none⟩) n n)) w3) := lenDrawn_own H3.out.2.2 hBl hn3 (show q2 ≤ p + 200 by omega) H3.out.1 H3.out.2.1
      clear H3
      go_wp2_with fail
      go_ret
      exact HF.out
  · have hxi : ¬ (0 : Int) < (x0 : Int) := by omega
    have hlt1 : B < w1.heap.size := H1.out.1.lt
    have HE : Hid (OwnI (w1.alloc (.cells #[] 3)) w1.heap.size (.slice (some ⟨w1.heap.size, 0, none⟩) 0 0) 0 []) := ownI_none w1
    have HRa : Hid (RdAt (w1.alloc (.cells #[] 3)) B (p + 1)) := H1.out.1.alloc _
    have HOa : Hid (Only B w (w1.alloc (.cells #[] 3))) := H1.out.2.alloc hlt1 _
    go_wp2_with fail
    refine (pick_named B (p + 1) _ _ HRa.out (by omega) (by omega) (by omega)).mono ?_
    rintro e w2 ⟨k0, rfl, hk0, hR2, hO2, -⟩
    have HD2 : Hid (OwnI w2 w1.heap.size (.slice (some ⟨w1.heap.size, 0, none⟩) 0 0) 0 []) := HE.out.only hO2 hlt1
    have HR2 : Hid (RdAt w2 B (p + 1 + 1)) := hR2
    have HO2 : Hid (Only B w w2 ∧ Only B w1 w2) := ⟨HOa.out.trans hO2, ((Only.refl B w1).alloc hlt1 _).trans hO2⟩
    have hk6 : k0 ≤ 6 := by omega
    clear hR2 hO2 HE HRa HOa hk0
    go_wp2_with fail
    go_loopw [5, 6] (fun v i wr => ∃ (k q n : Nat) (l : List Int), k ≤ 6 ∧ i = .int .i64 k ∧ n + k ≤ 6 ∧ q + k ≤ p + 20 ∧ (∃ a c, v = .slice a n c) ∧ Hid (RdAt wr B q ∧ OwnI wr w1.heap.size v n l ∧ Only B w1 wr)) (fun _ i _ => (intOf i).toNat)
    case atStart => exact ⟨k0, p + 1 + 1, 0, [], hk6, rfl, by omega, by omega, ⟨_, _, rfl⟩, HR2.out, HD2.out, HO2.out.2⟩
    case round =>
      obtain ⟨k, q, n, l, hk, rfl, hnk, hqk, ⟨a5, c5, rfl⟩, HA⟩ := hrel
      clear HR2 HD2 HO2
      by_cases hk0' : 0 < k
      · have hki : (0 : Int) < (k : Int) := by omega
        go_wp2_with fail
        refine (pick_named B q _ _ HA.out.1 (by omega) (by omega) (by omega)).mono ?_
        rintro e w4 ⟨y1, rfl, hy1, hR4, hO4, -⟩
        have H4 : Hid (RdAt w4 B (q + 1) ∧ OwnI w4 w1.heap.size (.slice a5 n c5) n l ∧ Only B w1 w4) := ⟨hR4, HA.out.2.1.only hO4 hlt1, HA.out.2.2.trans hO4⟩
        have hbs : w1.heap.size ≤ w4.heap.size := H4.out.2.2.below.size
        clear hR4 hO4 HA
        go_wp2_with (at_builtin; refine wpList_app1 w4 (by rfl) _ _ (by rfl) w1.heap.size _ n l (y1 : Int) (by rfl) H4.out.2.1 (by rfl) (by omega) hbs ?_)
        intro g cap w9 hown9 hgr
        have hb9 : Below w1.heap.size w4 w9 := hgr.below (Below.refl _ _) (Nat.le_refl _) hbs
        have H9 : Hid (RdAt w9 B (q + 1) ∧ OwnI w9 w1.heap.size (.slice (some ⟨g, 0, none⟩) (n + 1) cap) (n + 1) (l ++ [(y1 : Int)]) ∧ Only B w1 w9) := ⟨H4.out.1.kept (hb9.mono hlt1), hown9, H4.out.2.2.grown hlt1 hb9⟩
        clear hown9 hgr hb9 H4
        go_wp2_with fail
        go_roundw
        case rel => exact ⟨k - 1, q + 1, n + 1, _, by omega, by go_num, by omega, by omega, ⟨_, _, rfl⟩, H9⟩
        case measure => simp [intOf]; omega
      · have hki : ¬ (0 : Int) < (k : Int) := by omega
        by_cases hn0 : 0 < n
        · have hni : (0 : Int) < (n : Int) := by omega
          go_wp2_with fail
          refine (pick_named B q _ _ HA.out.1 (by omega) (by omega) (by omega)).mono ?_
          rintro e w4 ⟨y1, rfl, hy1, hR4, hO4, -⟩
          have H4 : Hid (RdAt w4 B (q + 1) ∧ OwnI w4 w1.heap.size (.slice a5 n c5) n l ∧ Only B w1 w4) := ⟨hR4, HA.out.2.1.only hO4 hlt1, HA.out.2.2.trans hO4⟩
          clear hR4 hO4 HA
          by_cases hy0 : y1 = 0
          · subst hy0
            have hltw : B < w4.heap.size := H4.out.1.lt
            have HR7 : Hid (RdAt (w4.alloc (.cells #[.int .i64 (-1), .int .i64 16] 3)) B (q + 1)) := H4.out.1.alloc _
            go_wp2_with fail
            refine (pick_named B (q + 1) _ _ HR7.out (by omega) (by omega) (by omega)).mono ?_
            rintro e w8 ⟨y4, rfl, hy4, hR8, hO8, -⟩
            have hy5 : y4 < 2 := by omega
            obtain ⟨v, hv⟩ := two_cell w4 (-1) 16 y4 hy5
            have hv8 : w8.cell? ⟨w4.heap.size, y4, none⟩ = some (.int .i64 v) := (hO8.cell w4.heap.size y4 (by simp) (by omega)).trans hv
            have hO8' : OwnI w8 w1.heap.size (.slice a5 n c5) n l := OwnI.only (OwnI.alloc H4.out.2.1 _) hO8 hlt1
            have hon : Only B w1 w8 := (H4.out.2.2.alloc hltw _).trans hO8
            obtain ⟨g, rfl⟩ : ∃ g, a5 = some ⟨g, 0, none⟩ := by
              rcases hO8'.2 with ⟨e, h0⟩ | ⟨g', cap', cur, e, _⟩
              · omega
              · cases e; exact ⟨g', rfl⟩
            obtain ⟨d1, d2, d3⟩ := ownI_set hO8' hn0 v
            have hgl : w1.heap.size ≤ g := (World.ownsRow.lt (show World.ownsRow _ _ _ _ _ _ _ from hO8') g rfl).1
            have HF : Hid (LenDrawn B p w (.returned (.slice (some ⟨g, 0, none⟩) n c5)) (w8.setCell ⟨g, 0, none⟩ (.int .i64 v))) := by
              refine lenDrawn_ownI (q := q + 2) d3 hlt1 (by omega) (by omega) ?_ (H1.out.2.trans (hon.set hgl hlt1 0 _))
              have h1 : RdAt w8 B (q + 2) := hR8
              exact h1.kept ((Below.refl _ _).setCell (p := ⟨g, 0, none⟩) (by show B + 1 ≤ g; omega) _)
            have hy4i : (y4 : Int) < 2 := by omega
            clear hR8 hO8 H4 HR7 hv hltw hO8' hon d3
            go_wp2_with fail
            go_ret
            exact HF.out
          · have hyi : ¬ (y1 : Int) = 0 := by omega
            have HF : Hid (LenDrawn B p w (.returned (.slice a5 n c5)) w4) := lenDrawn_ownI H4.out.2.1 hlt1 (by omega) (show q + 1 ≤ p + 200 by omega) H4.out.1 (H1.out.2.trans H4.out.2.2)
            clear H4
            go_wp2_with fail
            go_ret
            exact HF.out
        · have hni : ¬ (0 : Int) < (n : Int) := by omega
          have HF : Hid (LenDrawn B p w (.returned (.slice a5 n c5)) wr) := lenDrawn_ownI HA.out.2.1 hlt1 (by omega) (show q ≤ p + 200 by omega) HA.out.1 (H1.out.2.trans HA.out.2.2)
          clear HA
          go_wp2_with fail
          go_ret
          exact HF.out
end Go.Proofs.Ytjdilanmkgodnaa

/- What is read is a symbol's number, turned (mathematics). -/
namespace Go.Proofs.Ytjdilanmkgodnaa
namespace Gt

theorem S_some {zs : List Int} (hg : GoodC zs) {d v : Nat} (h : 0 ≤ S zs zs.length d v) : Mk.Sym zs (S zs zs.length d v).toNat d v := by
  by_cases he : ∃ i, i < zs.length ∧ Mk.Sym zs i d v
  · obtain ⟨i, hi, hs⟩ := he
    rw [S_hit (Nat.le_refl _) (fun i hi => (hg.le i hi).2) hg.num hi hs, Int.toNat_natCast]
    exact hs
  · rw [S_miss (Nat.le_refl _) (fun i hi => (hg.le i hi).2) hg.num (fun i hi hs => he ⟨i, hi, hs⟩)] at h
    omega

theorem go_some {zs : List Int} (hg : GoodC zs) (bit : Nat → Nat) : ∀ {m d v p i q : Nat}, go (S zs zs.length) bit m d v p = some (i, q) → ∃ k, q = p + k ∧ 1 ≤ k ∧ k ≤ m ∧ Mk.Sym zs i (d + k) (v * 2 ^ k + Bg.big (fun j => bit (p + j)) k)
  | 0, _, _, _, _, _, h => by cases h
  | m + 1, d, v, p, i, q, h => by
    unfold go at h
    split at h
    · next hs =>
      have h1 := S_some hg hs
      injection h with h
      injection h with h2 h3
      rw [h2] at h1
      refine ⟨1, h3.symm, by omega, by omega, ?_⟩
      have e : v * 2 ^ 1 + Bg.big (fun j => bit (p + j)) 1 = 2 * v + bit p := by simp [Bg.big]; omega
      rw [e]; exact h1
    · obtain ⟨k, h1, h2, h3, h4⟩ := go_some hg bit h
      refine ⟨1 + k, by omega, by omega, by omega, ?_⟩
      have e : v * 2 ^ (1 + k) + Bg.big (fun j => bit (p + j)) (1 + k) = (2 * v + bit p) * 2 ^ k + Bg.big (fun j => bit (p + 1 + j)) k := by
        rw [Bg.big_add, Nat.pow_add, Nat.add_mul]
        have e1 : Bg.big (fun j => bit (p + j)) 1 = bit p := by simp [Bg.big]
        have e2 : (fun i => bit (p + (1 + i))) = fun j => bit (p + 1 + j) := by funext j; rw [Nat.add_assoc]
        rw [e1, e2, Nat.pow_one, ← Nat.mul_assoc, Nat.mul_comm v 2]
        omega
      rw [e, show d + (1 + k) = d + 1 + k by omega]; exact h4

theorem turned_big (b : Nat → Nat) (hb : ∀ i, b i < 2) : ∀ k, turned (Bg.big b k) k = Bg.low b k
  | 0 => rfl
  | k + 1 => by
    have ih := turned_big b hb k
    unfold turned at ih ⊢
    rw [show k + 1 = 1 + k by omega, Bg.big_add]
    have hk := hb k
    have e1 : Bg.big (fun i => Bg.big b (1 + k) / 2 ^ i % 2) 1 = b k := by
      rw [show 1 + k = k + 1 by omega]; simp [Bg.big]; omega
    have e2 : (fun i => Bg.big b (1 + k) / 2 ^ (1 + i) % 2) = fun i => Bg.big b k / 2 ^ i % 2 := by
      funext i
      rw [Nat.pow_add, ← Nat.div_div_eq_div_mul, show 1 + k = k + 1 by omega]
      congr 2
      simp only [Bg.big, Nat.pow_one]; omega
    rw [e1, e2, ih, show 1 + k = k + 1 by omega]
    simp only [Bg.low]; omega

/-- what is read: a symbol, its bits and its number -/
theorem get_some {zs : List Int} (hg : GoodC zs) {bit : Nat → Nat} (hb : ∀ i, bit i < 2) {M A i q : Nat} (h : get zs bit M A = some (i, q)) : ∃ L V, Mk.Sym zs i L V ∧ q = A + L ∧ A + L ≤ M ∧ turned V L = Bg.low (fun j => bit (A + j)) L := by
  unfold get at h
  obtain ⟨k, h1, h2, h3, h4⟩ := go_some hg bit h
  refine ⟨k, _, by rw [Nat.zero_add] at h4; exact h4, h1, by omega, ?_⟩
  rw [Nat.zero_mul, Nat.zero_add]
  exact turned_big _ (fun j => hb _) k
end Gt
end Go.Proofs.Ytjdilanmkgodnaa

/- What was packed is read (mathematics). -/
namespace Go.Proofs.Ytjdilanmkgodnaa
namespace Gt

theorem big_same {b c : Nat → Nat} : ∀ k, (∀ q, q < k → b q = c q) → Bg.big b k = Bg.big c k
  | 0, _ => rfl
  | k + 1, h => by rw [Bg.big, Bg.big, big_same k (fun q hq => h q (by omega)), h k (by omega)]
theorem low_bit (b : Nat → Nat) (hb : ∀ i, b i < 2) : ∀ k i, i < k → Bg.low b k / 2 ^ i % 2 = b i
  | 0, _, h => by omega
  | k + 1, i, h => by
    have hl := Bg.low_lt b hb k
    by_cases e : i = k
    · subst e
      simp only [Bg.low]
      rw [Nat.add_mul_div_right _ _ (Nat.pow_pos (by omega)), Nat.div_eq_of_lt hl, Nat.zero_add, Nat.mod_eq_of_lt (hb _)]
    · have ih := low_bit b hb k i (by omega)
      simp only [Bg.low]
      have e2 : b k * 2 ^ k = (b k * 2 ^ (k - i - 1) * 2) * 2 ^ i := by
        rw [Nat.mul_assoc, Nat.mul_assoc, ← Nat.pow_succ', ← Nat.pow_add]
        congr 2; omega
      rw [e2, Nat.add_mul_div_right _ _ (Nat.pow_pos (by omega))]
      omega
theorem turned_back {V L : Nat} (h : V < 2 ^ L) : turned (turned V L) L = V := by
  have e : Bg.big (fun q => V / 2 ^ (L - 1 - q) % 2) L = V := by rw [big_bits V L L (Nat.le_refl _), Nat.sub_self, Nat.pow_zero, Nat.div_one, Nat.mod_eq_of_lt h]
  have h1 := turned_big (fun q => V / 2 ^ (L - 1 - q) % 2) (fun _ => Nat.mod_lt _ (by omega)) L
  rw [e] at h1
  rw [h1]
  unfold turned
  rw [big_same L (fun q hq => low_bit (fun q => V / 2 ^ (L - 1 - q) % 2) (fun _ => Nat.mod_lt _ (by omega)) L q hq)]
  exact e

theorem go_hits {zs : List Int} (hg : GoodC zs) {i L V : Nat} (hS : Mk.Sym zs i L V) (bit : Nat → Nat) (hb : ∀ j, bit j < 2) : ∀ r d p m, d + r = L → 1 ≤ r → r ≤ m → V = V / 2 ^ r * 2 ^ r + Bg.big (fun j => bit (p + j)) r → go (S zs zs.length) bit m d (V / 2 ^ r) p = some (i, p + r)
  | 0, _, _, _, _, h, _, _ => by omega
  | r + 1, d, p, 0, _, _, h, _ => by omega
  | r + 1, d, p, m + 1, hd, _, hm, hV => by
    have hp : 0 < 2 ^ r := Nat.pow_pos (by omega)
    have hbl := Bg.big_lt (fun j => bit (p + 1 + j)) (fun j => hb _) r
    have e1 : Bg.big (fun j => bit (p + j)) (r + 1) = bit p * 2 ^ r + Bg.big (fun j => bit (p + 1 + j)) r := by
      rw [show r + 1 = 1 + r by omega, Bg.big_add]
      have e1 : Bg.big (fun j => bit (p + j)) 1 = bit p := by simp [Bg.big]
      have e2 : (fun i => bit (p + (1 + i))) = fun j => bit (p + 1 + j) := by funext j; rw [Nat.add_assoc]
      rw [e1, e2]
    have e3 : V = (2 * (V / 2 ^ (r + 1)) + bit p) * 2 ^ r + Bg.big (fun j => bit (p + 1 + j)) r := by
      rw [e1] at hV
      have : V / 2 ^ (r + 1) * 2 ^ (r + 1) = 2 * (V / 2 ^ (r + 1)) * 2 ^ r := by rw [Nat.pow_succ, Nat.mul_comm (2 ^ r) 2, ← Nat.mul_assoc, Nat.mul_comm _ 2]
      rw [this] at hV
      rw [Nat.add_mul]; omega
    have e4 : V / 2 ^ r = 2 * (V / 2 ^ (r + 1)) + bit p := by
      generalize 2 * (V / 2 ^ (r + 1)) + bit p = x at e3
      rw [e3, Nat.mul_comm, Nat.mul_add_div hp, Nat.div_eq_of_lt hbl, Nat.add_zero]
    by_cases hr : r = 0
    · subst hr
      rw [Nat.pow_zero, Nat.div_one] at e4
      refine go_hit ?_
      rw [← e4, show d + 1 = L by omega]
      exact S_hit (Nat.le_refl _) (fun i hi => (hg.le i hi).2) hg.num hS.lt hS
    · rw [go_miss]
      · rw [← e4] at e3 ⊢
        have := go_hits hg hS bit hb r (d + 1) (p + 1) m (by omega) (by omega) (by omega) e3
        rw [this, show p + 1 + r = p + (r + 1) by omega]
      · rw [← e4]
        refine S_miss (Nat.le_refl _) (fun i hi => (hg.le i hi).2) hg.num (fun j hj g => ?_)
        by_cases hji : i = j
        · subst hji
          have h1 := g.len
          have h2 := hS.len
          omega
        · have := g.apart hS hji (by omega)
          rw [show L - (d + 1) = r by omega] at this
          exact this rfl

theorem get_hit {zs : List Int} (hg : GoodC zs) {i L V : Nat} (hS : Mk.Sym zs i L V) {bit : Nat → Nat} (hb : ∀ j, bit j < 2) {M A : Nat} (hM : A + L ≤ M) (hV : Bg.big (fun j => bit (A + j)) L = V) : get zs bit M A = some (i, A + L) := by
  have hlt := hS.bits hg.taken
  have h0 : V / 2 ^ L = 0 := Nat.div_eq_of_lt hlt
  have := go_hits hg hS bit hb L 0 A (M - A) (by omega) hS.pos (by omega) (by rw [h0]; omega)
  rw [h0] at this
  exact this
end Gt
end Go.Proofs.Ytjdilanmkgodnaa

/- CodeGet of the program. -/
namespace Go.Proofs.Ytjdilanmkgodnaa
open Go.RowKit

/-- there is a code, and a place in a text -/
def CgOk (s : ByteArray) (at_ : Int) (zs : List Int) : Prop := Cd.okB zs = true ∧ s.size ≤ 9000 ∧ 0 ≤ at_ ∧ at_ ≤ 8 * (s.size : Int)
instance (s : ByteArray) (at_ : Int) (zs : List Int) : Decidable (CgOk s at_ zs) := by unfold CgOk; infer_instance
/-- what CodeGet answers -/
def cgAns (s : ByteArray) (at_ : Int) (zs : List Int) : Int × Int :=
  if CgOk s at_ zs then (match Gt.get zs (bitAt s false) (8 * s.size) at_.toNat with | some (i, q) => ((i : Int), (q : Int)) | none => (-1, 0)) else (-1, 0)
theorem cgAns_no {s : ByteArray} {at_ : Int} {zs : List Int} (h : ¬ CgOk s at_ zs) : cgAns s at_ zs = (-1, 0) := by unfold cgAns; rw [if_neg h]
theorem cgAns_none {s : ByteArray} {A : Nat} {zs : List Int} (h : Gt.get zs (bitAt s false) (8 * s.size) A = none) : cgAns s (A : Int) zs = (-1, 0) := by
  unfold cgAns
  rw [Int.toNat_natCast, h]
  split <;> rfl
theorem cgAns_some {s : ByteArray} {A i q : Nat} {zs : List Int} (hk : CgOk s (A : Int) zs) (h : Gt.get zs (bitAt s false) (8 * s.size) A = some (i, q)) : cgAns s (A : Int) zs = ((i : Int), (q : Int)) := by
  unfold cgAns
  rw [if_pos hk, Int.toNat_natCast, h]

set_option maxHeartbeats 2000000 in
set_option maxRecDepth 20000 in
theorem impl_codeGet (s : ByteArray) (at_ : Int) (a : Option Addr) (cap n : Nat) (zs : List Int) (w : World) (h : Ints w a zs) (hn : zs.length = n) (hl : n ≤ 1048576) (hs : s.size ≤ 1048576) :
    Calls Try.prog 17 #[.string s, .int .i64 at_, .slice a n cap] w fun e w' => e = .returned (.tuple #[.int .i64 (cgAns s at_ zs).1, .int .i64 (cgAns s at_ zs).2]) ∧ Below w.heap.size w w' := by
  have HOK : Hid (Calls Try.prog 12 #[.slice a n cap] w fun e w' => e = .returned (.bool (Cd.okB zs)) ∧ w' = w) := impl_codeOk a cap n zs w h hn hl
  by_cases hk : CgOk s at_ zs
  · obtain ⟨h1, h2, h3, h4⟩ := id hk
    obtain ⟨A, rfl⟩ : ∃ A : Nat, at_ = (A : Int) := ⟨at_.toNat, by omega⟩
    have hg := goodC h1
    rw [h1] at HOK
    have d1 : decide ((s.size : Int) > 9000) = false := by simp; omega
    have d2 : decide ((A : Int) < 0) = false := by simp
    have d3 : decide ((A : Int) > 8 * (s.size : Int)) = false := by simp; omega
    obtain ⟨W1, hW1⟩ : ∃ W1, W1 = w.alloc (.cells #[.func (.func 56) #[] #[], .string s, .int .i64 (A : Int)] 59) := ⟨_, rfl⟩
    have hW1' : w.alloc (.cells #[.func (.func 56) #[] #[], .string s, .int .i64 (A : Int)] 59) = W1 := hW1.symm
    have HR : Hid (Reads W1 w.heap.size false s A) := by rw [hW1]; exact reads_new w false s A 59
    have HB1 : Hid (Below w.heap.size w W1) := by rw [hW1]; exact (Below.refl _ _).alloc (Nat.le_refl _) _
    have hz1 : w.heap.size < W1.heap.size := by rw [hW1]; simp
    have HNT : Hid (Calls Try.prog 40 #[.slice a n cap] W1 (Treed W1 zs)) := numberTree_any a cap n zs W1 (h.kept HB1.out) hn hg
    have HS0 : Hid (Gt.S zs zs.length 0 0 = -1) := Gt.S_miss (Nat.le_refl _) (fun i hi => (hg.le i hi).2) hg.num (fun i _ g => by have := g.pos; omega)
    have HK : Hid (CgOk s (A : Int) zs) := hk
    have hAb : A ≤ 8 * s.size := by omega
    clear h hn hk hg h1 hW1 h3 h4
    go_enter Try.func17, Try.ntmps17
    go_wp2_with fail
    refine HOK.out.mono ?_
    rintro e w0 ⟨rfl, hw0⟩
    subst hw0
    clear HOK
    go_wp2_with fail
    refine (orderOf_low _).mono ?_
    rintro e w0' ⟨rfl, hw0⟩
    replace hw0 := hw0.symm
    subst hw0
    go_wp2_with fail
    refine HNT.out.mono ?_
    rintro e w2 ⟨rfl, ⟨N, hT, hN0⟩, b2⟩
    have HFD : Hid (Calls Try.prog 41 #[.pointer (some ⟨W1.heap.size, 0, none⟩), .iface 54 (.pointer (some ⟨w0.heap.size, 0, none⟩))] w2 (Found w2 w0.heap.size s (Gt.go (Gt.S zs zs.length) (bitAt s false) (8 * s.size - A) 0 0 A))) := by
      refine find_any w0.heap.size W1.heap.size W1.heap.size A s N (Gt.S zs zs.length) w2 hT hN0 HS0.out ?_ hz1 h2 hAb
      obtain ⟨r0, r1, r2, r3⟩ := HR.out
      exact ⟨(b2.cell (p := ⟨w0.heap.size, 0, none⟩) hz1).trans r0, (b2.cell (p := ⟨w0.heap.size, 1, none⟩) hz1).trans r1, (b2.cell (p := ⟨w0.heap.size, 2, none⟩) hz1).trans r2, (b2.frozen (p := ⟨w0.heap.size, 2, none⟩) hz1).trans r3⟩
    have HB2 : Hid (Below w0.heap.size w0 w2) := HB1.out.trans (b2.mono (Nat.le_of_lt hz1))
    clear hT hN0 b2 HNT HB1 HR HS0 hW1'
    go_wp2_with fail
    refine HFD.out.mono ?_
    rintro e w3 ⟨b3, (⟨hno, rfl⟩ | ⟨i, q, hyes, rfl, hR3⟩)⟩
    · have HF : Hid (cgAns s (A : Int) zs = (-1, 0)) := cgAns_none hno
      have HB3 : Hid (Below w0.heap.size w0 w3) := HB2.out.trans b3
      clear HFD hno b3 HB2
      go_wp2_with fail
      go_ret2
      exact ⟨by rw [HF.out]; rfl, HB3.out⟩
    · have HF : Hid (cgAns s (A : Int) zs = ((i : Int), (q : Int))) := cgAns_some HK.out hyes
      have HB3 : Hid (Below w0.heap.size w0 w3) := HB2.out.trans b3
      have c2 := hR3.c2
      have hi0 : ¬ (i : Int) < 0 := by omega
      clear HFD hyes b3 HB2 hR3
      go_wp2_with fail
      go_region
      all_goals go_wp2_with fail
      all_goals go_ret2
      all_goals exact ⟨by rw [HF.out]; rfl, HB3.out.drew⟩
  · have HF : Hid (cgAns s at_ zs = (-1, 0)) := cgAns_no hk
    cases h1 : Cd.okB zs with
    | false =>
      rw [h1] at HOK
      clear h hn hk
      go_enter Try.func17, Try.ntmps17
      go_wp2_with fail
      refine HOK.out.mono ?_
      rintro e w0 ⟨rfl, hw0⟩
      subst hw0
      go_wp2_with fail
      go_ret2
      exact ⟨by rw [HF.out]; rfl, Below.refl _ _⟩
    | true =>
      rw [h1] at HOK
      by_cases h2 : s.size ≤ 9000
      · have d1 : decide ((s.size : Int) > 9000) = false := by simp; omega
        by_cases h3 : 0 ≤ at_
        · have d2 : decide (at_ < 0) = false := by simp; omega
          have h4 : 8 * (s.size : Int) < at_ := by
            rcases Int.lt_or_le (8 * (s.size : Int)) at_ with h | h
            · exact h
            · exact absurd ⟨h1, h2, h3, h⟩ hk
          have d3 : decide (at_ > 8 * (s.size : Int)) = true := by simp; omega
          clear h hn hk h1
          go_enter Try.func17, Try.ntmps17
          go_wp2_with fail
          refine HOK.out.mono ?_
          rintro e w0 ⟨rfl, hw0⟩
          subst hw0
          go_wp2_with fail
          go_ret2
          exact ⟨by rw [HF.out]; rfl, Below.refl _ _⟩
        · have d2 : decide (at_ < 0) = true := by simp; omega
          clear h hn hk h1
          go_enter Try.func17, Try.ntmps17
          go_wp2_with fail
          refine HOK.out.mono ?_
          rintro e w0 ⟨rfl, hw0⟩
          subst hw0
          go_wp2_with fail
          go_ret2
          exact ⟨by rw [HF.out]; rfl, Below.refl _ _⟩
      · have d1 : decide ((s.size : Int) > 9000) = true := by simp; omega
        clear h hn hk h1
        go_enter Try.func17, Try.ntmps17
        go_wp2_with fail
        refine HOK.out.mono ?_
        rintro e w0 ⟨rfl, hw0⟩
        subst hw0
        go_wp2_with fail
        go_ret2
        exact ⟨by rw [HF.out]; rfl, Below.refl _ _⟩
end Go.Proofs.Ytjdilanmkgodnaa

/- A code that leaves nothing over has a symbol for all bits (mathematics). -/
namespace Go.Proofs.Ytjdilanmkgodnaa
namespace Mk

theorem cnt_find {zs : List Int} {n : Int} : ∀ {k c : Nat}, c < cnt zs n k → ∃ i, i < k ∧ zs.getD i 0 = n ∧ cnt zs n i = c
  | 0, c, h => by simp [cnt] at h
  | k + 1, c, h => by
    by_cases h1 : c < cnt zs n k
    · obtain ⟨i, h2, h3, h4⟩ := cnt_find h1
      exact ⟨i, by omega, h3, h4⟩
    · have h2 : cnt zs n (k + 1) = cnt zs n k + if zs.getD k 0 = n then 1 else 0 := rfl
      by_cases h3 : zs.getD k 0 = n
      · rw [if_pos h3] at h2
        exact ⟨k, by omega, h3, by omega⟩
      · rw [if_neg h3] at h2; omega
theorem Ks_all {zs : List Int} (hv : ∀ i, i < zs.length → zs.getD i 0 ≤ 15) : ∀ k, k ≤ zs.length → Ks zs k 15 = Cd.taken (zs.take k)
  | 0, _ => by rw [Ks_zero]; rfl
  | k + 1, h => by
    have ih := Ks_all hv k (by omega)
    have hk := hv k (by omega)
    have e : zs.getD k 0 = zs[k] := by rw [List.getD_eq_getElem?_getD, List.getElem?_eq_getElem (by omega)]; rfl
    rw [Ks_succ, Cd.taken_snoc zs k (by omega), ih, e]
    rw [e] at hk
    unfold Cd.part
    by_cases g : 1 ≤ zs[k] ∧ zs[k] ≤ ((15 : Nat) : Int)
    · rw [if_pos g, if_pos (by omega)]
    · rw [if_neg g, if_neg (by omega)]
theorem E_full {zs : List Int} (hv : ∀ i, i < zs.length → zs.getD i 0 ≤ 15) (ht : Cd.taken zs = 32768) : E zs 15 = 32768 := by
  have h1 := E_Ks zs 15 (Nat.le_refl _)
  rw [Ks_all hv _ (Nat.le_refl _), List.take_length, ht] at h1
  omega
theorem E_zero (zs : List Int) : E zs 0 = 0 := rfl
/-- a number below has a symbol that begins it -/
theorem begins {zs : List Int} (v : Nat) : ∀ d, d ≤ 15 → v / 2 ^ (15 - d) < E zs d → ∃ i L, Sym zs i L (v / 2 ^ (15 - L))
  | 0, _, h => by rw [E_zero] at h; omega
  | d + 1, hd, h => by
    by_cases h1 : v / 2 ^ (15 - d) < E zs d
    · exact begins v d (by omega) h1
    · have h2 := E_succ zs d
      have h3 : v / 2 ^ (15 - d) = v / 2 ^ (15 - (d + 1)) / 2 := by
        rw [Nat.div_div_eq_div_mul, ← Nat.pow_succ]
        congr 2; omega
      obtain ⟨x, hx⟩ : ∃ x, x = v / 2 ^ (15 - (d + 1)) := ⟨_, rfl⟩
      rw [← hx] at h h3
      have h4 : x - 2 * E zs d < cnt zs ((d + 1 : Nat) : Int) zs.length := by omega
      obtain ⟨i, g1, g2, g3⟩ := cnt_find h4
      refine ⟨i, d + 1, ⟨g1, g2, by omega, hd, ?_⟩⟩
      rw [mk_get g1 g2 (by omega) hd, g3, ← hx, show d + 1 - 1 = d by omega]
      congr 1
      omega
end Mk
namespace Gt
/-- all bits lead to a symbol -/
theorem get_full {zs : List Int} (hg : GoodC zs) (ht : Cd.taken zs = 32768) {bit : Nat → Nat} (hb : ∀ j, bit j < 2) {M : Nat} (hM : 15 ≤ M) : ∃ i L V, Mk.Sym zs i L V ∧ get zs bit M 0 = some (i, 0 + L) := by
  have h15 : ∀ i, i < zs.length → zs.getD i 0 ≤ 15 := fun i hi => (hg.le i hi).2
  have hE := Mk.E_full h15 ht
  have hv := Bg.big_lt (fun j => bit (0 + j)) (fun j => hb _) 15
  obtain ⟨i, L, hS⟩ := Mk.begins (zs := zs) (Bg.big (fun j => bit (0 + j)) 15) 15 (Nat.le_refl _) (by rw [hE, Nat.sub_self, Nat.pow_zero, Nat.div_one]; omega)
  have hL := hS.le
  refine ⟨i, L, _, hS, get_hit hg hS hb (by omega) ?_⟩
  have h1 := Bg.big_add (fun j => bit (0 + j)) L (15 - L)
  rw [show L + (15 - L) = 15 by omega] at h1
  have h2 := Bg.big_lt (fun i => (fun j => bit (0 + j)) (L + i)) (fun j => hb _) (15 - L)
  rw [h1, Nat.mul_comm, Nat.mul_add_div (Nat.pow_pos (by omega)), Nat.div_eq_of_lt h2, Nat.add_zero]
end Gt

/-- with nothing left over, there is a symbol in every text -/
theorem cg_full {s : ByteArray} {zs : List Int} (hok : Cd.okB zs = true) (ht : Cd.taken zs = 32768) (h1 : 2 ≤ s.size) (h2 : s.size ≤ 9000) : ∃ i L V : Nat, Mk.Sym zs i L V ∧ cgAns s 0 zs = ((i : Int), (L : Int)) := by
  obtain ⟨i, L, V, hS, hg⟩ := Gt.get_full (goodC hok) ht (bitAt_lt s false) (M := 8 * s.size) (by omega)
  rw [Nat.zero_add] at hg
  exact ⟨i, L, V, hS, cgAns_some (A := 0) ⟨hok, h2, by omega, by omega⟩ hg⟩
end Go.Proofs.Ytjdilanmkgodnaa

/- The exact law of CodeFull, walked. -/
namespace Go.Proofs.Ytjdilanmkgodnaa
open Go.RowKit

/-- whether a code leaves nothing over -/
def fullB (zs : List Int) : Bool := Cd.okB zs && decide (Cd.left zs = 0)

theorem left_of_ok {zs : List Int} (h : Cd.okB zs = true) : Cd.left zs = 32768 - (Cd.taken zs : Int) := by
  unfold Cd.okB at h
  simp only [Bool.and_eq_true, decide_eq_true_eq] at h
  unfold Cd.left; rw [if_pos h.2]

set_option maxHeartbeats 400000 in
theorem spec_codeFull (a : Option Addr) (cap n : Nat) (zs : List Int) (w : World) (h : Ints w a zs) (hn : zs.length = n) (hl : n ≤ 1048576) :
    Calls Try.prog 27 #[.slice a n cap] w fun e w' => e = .returned (.bool (fullB zs)) ∧ w' = w := by
  have HC : Hid (Calls Try.prog 13 #[.slice a n cap] w fun e w' => e = .returned (.bool (Cd.okB zs)) ∧ w' = w) := spec_codeOk a cap n zs w h hn hl
  cases hy : Cd.okB zs
  · rw [hy] at HC
    have HE : Hid (fullB zs = false) := by show _ = _; unfold fullB; rw [hy]; rfl
    clear h hn hy
    go_enter Try.func27, Try.ntmps27
    go_wp2_with fail
    refine HC.out.mono ?_
    rintro e w1 ⟨rfl, hw1⟩
    subst hw1
    go_wp2_with fail
    go_ret
    exact ⟨ret_bool HE.out.symm, rfl⟩
  · rw [hy] at HC
    have h3 : n ≤ 300 := by
      unfold Cd.okB at hy
      simp only [Bool.and_eq_true, decide_eq_true_eq] at hy
      omega
    have HL : Hid (Calls Try.prog 35 #[.slice a n cap] w fun e w' => e = .returned (.int .i64 (Cd.left zs)) ∧ w' = w) := l3Left_any a cap n zs w h hn h3
    have HE : Hid (fullB zs = (Cd.left zs == 0)) := by show _ = _; unfold fullB; rw [hy, Bool.true_and]; rfl
    clear h hn hy
    generalize Cd.left zs = L at *
    go_enter Try.func27, Try.ntmps27
    go_wp2_with fail
    refine HC.out.mono ?_
    rintro e w1 ⟨rfl, hw1⟩
    subst hw1
    go_wp2_with fail
    refine HL.out.mono ?_
    rintro e w2 ⟨rfl, hw2⟩
    subst hw2
    go_wp2_with fail
    go_ret
    exact ⟨ret_bool HE.out.symm, rfl⟩

set_option maxHeartbeats 400000 in
theorem impl_codeFull (a : Option Addr) (cap n : Nat) (zs : List Int) (w : World) (h : Ints w a zs) (hn : zs.length = n) (hl : n ≤ 1048576) :
    Calls Try.prog 26 #[.slice a n cap] w fun e w' => e = .returned (.bool (fullB zs)) ∧ w' = w := by
  have HC : Hid (Calls Try.prog 34 #[.slice a n cap] w fun e w' => e = .returned (.tuple #[.int .i64 (tkN n zs), .bool (tkB n zs)]) ∧ w' = w) := codeTaken_any a cap n zs w h hn hl
  have okE : Cd.okB zs = (tkB n zs && decide (Cd.taken zs ≤ 32768)) := by unfold Cd.okB tkB; rw [hn, Bool.and_assoc]
  cases hy : tkB n zs
  · have HE : Hid (fullB zs = false) := by show _ = _; unfold fullB; rw [okE, hy]; rfl
    rw [hy] at HC
    clear h hn hy okE
    generalize tkN n zs = T at *
    go_enter Try.func26, Try.ntmps26
    go_wp2_with fail
    refine HC.out.mono ?_
    rintro e w1 ⟨rfl, hw1⟩
    subst hw1
    go_wp2_with fail
    go_ret
    exact ⟨ret_bool HE.out.symm, rfl⟩
  · have HE : Hid (fullB zs = ((Cd.taken zs : Int) == 32768)) := by
      show _ = _
      rw [hy, Bool.true_and] at okE
      unfold fullB
      cases ho : Cd.okB zs
      · rw [ho] at okE
        have hgt : ¬ Cd.taken zs ≤ 32768 := of_decide_eq_false okE.symm
        rw [Bool.false_and]; symm; rw [beq_eq_false_iff_ne]; omega
      · rw [left_of_ok ho, Bool.true_and, Bool.eq_iff_iff, decide_eq_true_eq, beq_iff_eq]; omega
    rw [tkN_yes hy, hy] at HC
    clear h hn hy okE
    generalize Cd.taken zs = T at *
    go_enter Try.func26, Try.ntmps26
    go_wp2_with fail
    refine HC.out.mono ?_
    rintro e w1 ⟨rfl, hw1⟩
    subst hw1
    go_wp2_with fail
    go_ret
    exact ⟨ret_bool HE.out.symm, rfl⟩

end Go.Proofs.Ytjdilanmkgodnaa

/- P8: a code that leaves nothing over. -/
namespace Go.Proofs.Ytjdilanmkgodnaa
open Go.RowKit

theorem wpList_asked {P : Program} {ops : Array Oper} {Q : Exit → Act → World → Prop} {a : Act} {w : World} {rest : List Oper} {o : Oper} (hg : Region.wanted o (yielded ops a.tmps) = true)
    (h : ∀ K : Act → World → Prop, (∀ a w, wpList P ops Q rest a w → K a w) → o.wp P a w K Q) : wpList P ops Q (o :: rest) a w :=
  wpList_step fun K hK => by rw [if_pos hg]; exact h K hK
theorem wpList_appG {w : World} {ops : Array Oper} {rest : List Oper} {o : Oper} {a : Act} {Q : Exit → Act → World → Prop} (hgd : Region.wanted o (yielded ops a.tmps) = true) (s x : Operand)
    (ho : o.op = .call { callee := .builtin .append, args := #[s, x], argTypes := #[23, 23] })
    (base : Nat) (v : Value) (n : Nat) (l : List Int) (hs : a.eval s = v) (hown : OwnI w base v n l) (ca : Option Addr) (m c : Nat) (cs : List Int) (hx : a.eval x = .slice ca m c) (hc : Ints w ca cs) (hm : cs.length = m) (h63 : n + m ≤ 9000000) (hbase : base ≤ w.heap.size) (K2 : Nat) (hK2 : n + m = K2)
    (h : ∀ a' cap w', OwnI w' base (.slice a' K2 cap) K2 (l ++ cs) → w.grownBy w' v.ownBlock → wpList Try.prog ops Q rest (a.put o.dst (.slice a' K2 cap)) w') :
    wpList Try.prog ops Q (o :: rest) a w := by
  subst hK2
  exact wpList_asked hgd fun K hK => wp_append_ints s x ho base v n l hs hown ca m c cs hx hc hm h63 hbase fun a' cap w' h2 h3 => hK _ _ (h a' cap w' h2 h3)
theorem grown_below {w w' : World} {base n : Nat} {v : Value} {l : List Int} (hown : OwnI w base v n l) (hg : w.grownBy w' v.ownBlock) (hb : base ≤ w.heap.size) : Below base w w' :=
  ⟨hg.os, hg.tape, hg.output, hg.size, fun k hk => hg.block k (by omega) (fun e => by have := (World.ownsRow.lt (show World.ownsRow _ _ _ _ _ _ _ from hown) k e.symm).1; omega)⟩
theorem ints_lit (w : World) (i : Int) : Ints (w.alloc (.cells #[.int .i64 i] 3)) (some ⟨w.heap.size, 0, none⟩) [i] := by
  refine .inr ⟨w.heap.size, 0, rfl, by simp, fun k hk => ?_⟩
  have : k = 0 := by simp at hk; omega
  subst this
  rw [World.cell?_alloc_at _ _ _ _ rfl]; rfl
theorem ints_one {w : World} {a : Option Addr} {zs : List Int} (h : Ints w a zs) {k : Nat} (hk : k < zs.length) : ∃ b off, a = some ⟨b, off, none⟩ ∧ w.cell? ⟨b, off + k, none⟩ = some (.int .i64 (zs.getD k 0)) := by
  rcases h with e | ⟨b, off, rfl, _, hc⟩
  · rw [e] at hk; simp at hk
  · exact ⟨b, off, rfl, by rw [hc k hk, List.getD_eq_getElem?_getD, List.getElem?_eq_getElem hk]; rfl⟩

theorem full_taken {zs : List Int} (h : fullB zs = true) : Cd.okB zs = true ∧ Cd.taken zs = 32768 := by
  unfold fullB at h
  simp only [Bool.and_eq_true, decide_eq_true_eq] at h
  have := left_of_ok h.1
  exact ⟨h.1, by omega⟩
/-- one more of the longest has room, if something is left over -/
theorem okB_more {zs : List Int} (h : Cd.okB zs = true) (hn : zs.length < 300) : Cd.okB (zs ++ [15]) = !fullB zs := by
  have hl := left_of_ok h
  have h' := h
  unfold Cd.okB at h'
  simp only [Bool.and_eq_true, decide_eq_true_eq] at h'
  have ht : Cd.taken (zs ++ [15]) = Cd.taken zs + 1 := by rw [Cd.taken_append]; rfl
  have hv : Cd.valid (zs ++ [15]) = true := by rw [Cd.valid_append, h'.2.1]; rfl
  unfold fullB
  rw [h, Cd.okB, hv, ht, hl, List.length_append]
  have e1 : decide (zs.length + [(15 : Int)].length ≤ 300) = true := by simp; omega
  rw [e1]
  simp only [Bool.true_and]
  by_cases g : Cd.taken zs = 32768
  · rw [g]; decide
  · have g1 : decide (Cd.taken zs + 1 ≤ 32768) = true := by simp; omega
    have g2 : decide ((32768 : Int) - (Cd.taken zs : Int) = 0) = false := by simp; omega
    rw [g1, g2]; rfl

def LensOut2 (w : World) (e : Ending) (w' : World) : Prop := (∃ (a : Option Addr) (n c : Nat) (l : List Int), e = .returned (.slice a n c) ∧ Ints w' a l ∧ l.length = n ∧ n ≤ 300 ∧ n ≤ c) ∧ Below w.heap.size w w'
set_option maxHeartbeats 1000000 in
theorem drawCodeFull_any (a : Option Addr) (len cap : Nat) (w : World) (h : Code8 w a len cap) :
    Calls Try.prog 25 #[.slice a len cap] w (LensOut2 w) := by
  have HOP : Hid (Calls Try.prog 32 #[.slice a len cap] w fun e w' => e = .returned (.pointer (some ⟨w.heap.size, 0, none⟩)) ∧ RdAt w' w.heap.size 0 ∧ Below w.heap.size w w') := open_any a len cap w h
  clear h
  go_enter Try.func25, Try.ntmps25
  go_wp2_with fail
  refine HOP.out.mono ?_
  rintro e w1 ⟨rfl, hR1, b1⟩
  clear HOP
  have HLN : Hid (Calls Try.prog 31 #[.pointer (some ⟨w.heap.size, 0, none⟩)] w1 (LenDrawn w.heap.size 0 w1)) := l14Lengths_any w.heap.size 0 w1 hR1 (by omega)
  have HB1 : Hid (Below w.heap.size w w1) := b1
  clear hR1 b1
  go_wp2_with fail
  refine HLN.out.mono ?_
  rintro e w2 ⟨⟨a2, n, c, l, rfl, hI, hl, hn, hc, -⟩, -, hO⟩
  have HF : Hid (LensOut2 w (.returned (.slice a2 n c)) w2) := ⟨⟨a2, n, c, l, rfl, hI, hl, hn, hc⟩, HB1.out.trans hO.below⟩
  clear hI hl hO HLN HB1
  go_wp2_with fail
  go_ret
  exact HF.out

set_option maxHeartbeats 8000000 in
set_option maxRecDepth 20000 in
theorem lawCodeFull (a0 : Option Addr) (len0 cap0 : Nat) (a1 : Option Addr) (len1 cap1 : Nat) (w : World) (h0 : Code8 w a0 len0 cap0) (h1 : Code8 w a1 len1 cap1) :
    Calls Try.prog 6 #[.slice a0 len0 cap0, .slice a1 len1 cap1] w fun e w' => e = .returned (.bool true) ∧ Below w.heap.size w w' := by
  by_cases hb0 : 1048576 < len0
  · have hbi : decide ((len0 : Int) > 1048576) = true := by simp; omega
    clear h0 h1
    go_enter Try.func6, Try.ntmps6
    go_wp2_with fail
    go_ret
    exact ⟨rfl, Below.refl _ _⟩
  have hbi : decide ((len0 : Int) > 1048576) = false := by simp; omega
  by_cases hb1 : 1048576 < len1
  · have hbj : decide ((len1 : Int) > 1048576) = true := by simp; omega
    clear h0 h1
    go_enter Try.func6, Try.ntmps6
    go_wp2_with fail
    go_ret
    exact ⟨rfl, Below.refl _ _⟩
  have hbj : decide ((len1 : Int) > 1048576) = false := by simp; omega
  have HDR : Hid (Calls Try.prog 25 #[.slice a0 len0 cap0] w (LensOut2 w)) := drawCodeFull_any a0 len0 cap0 w h0
  have HD2 : Hid (∀ w', Below w.heap.size w w' → Calls Try.prog 28 #[.slice a1 len1 cap1] w' fun e w'' => (∃ t : ByteArray, e = .returned (.string t) ∧ t.size ≤ 9001) ∧ Below w'.heap.size w' w'') := fun w' hb => drawCrc32_any a1 len1 cap1 w' (h1.kept hb)
  clear h0 h1
  go_enter Try.func6, Try.ntmps6
  go_wp2_with fail
  refine HDR.out.mono ?_
  rintro e w1 ⟨⟨al, n, c, zs, rfl, hI, hn, hn3, hnc⟩, b1⟩
  clear HDR
  obtain ⟨fu, hfu⟩ : ∃ fu, fu = fullB zs := ⟨_, rfl⟩
  obtain ⟨bo, hbo⟩ : ∃ bo, bo = Cd.okB zs := ⟨_, rfl⟩
  obtain ⟨K2, hK2⟩ : ∃ K2, n + 1 = K2 := ⟨_, rfl⟩
  have HK2 : Hid (n + 1 = K2) := hK2
  have HN : Hid (zs.length = n) := hn
  have HFI : Hid (∀ w : World, Ints w al zs → Calls Try.prog 26 #[.slice al n c] w fun e w' => e = .returned (.bool fu) ∧ w' = w) := fun w h => by rw [hfu]; exact impl_codeFull al c n zs w h hn (by omega)
  have HFS : Hid (∀ w : World, Ints w al zs → Calls Try.prog 27 #[.slice al n c] w fun e w' => e = .returned (.bool fu) ∧ w' = w) := fun w h => by rw [hfu]; exact spec_codeFull al c n zs w h hn (by omega)
  have HOI : Hid (∀ w : World, Ints w al zs → Calls Try.prog 12 #[.slice al n c] w fun e w' => e = .returned (.bool bo) ∧ w' = w) := fun w h => by rw [hbo]; exact impl_codeOk al c n zs w h hn (by omega)
  have HOS : Hid (∀ w : World, Ints w al zs → Calls Try.prog 13 #[.slice al n c] w fun e w' => e = .returned (.bool bo) ∧ w' = w) := fun w h => by rw [hbo]; exact spec_codeOk al c n zs w h hn (by omega)
  have HO2 : Hid (bo = true → n < 300 → ∀ (w : World) (a : Option Addr) (c : Nat), Ints w a (zs ++ [15]) → Calls Try.prog 12 #[.slice a K2 c] w fun e w' => e = .returned (.bool (!fu)) ∧ w' = w) := fun hb h3 w a c h => by
    rw [hfu, ← okB_more (by rw [← hbo]; exact hb) (by rw [HN.out]; exact h3)]
    exact impl_codeOk a c K2 _ w h (by rw [List.length_append, HN.out]; exact HK2.out) (by omega)
  have HCG : Hid (∀ (w : World) (s : ByteArray), s.size ≤ 9001 → Ints w al zs → Calls Try.prog 17 #[.string s, .int .i64 0, .slice al n c] w fun e w' => e = .returned (.tuple #[.int .i64 (cgAns s 0 zs).1, .int .i64 (cgAns s 0 zs).2]) ∧ Below w.heap.size w w') := fun w s hs h => impl_codeGet s 0 al c n zs w h hn (by omega) (by omega)
  have HFU : Hid (fu = true → ∀ s : ByteArray, 2 ≤ s.size → s.size ≤ 9000 → ∃ i L V : Nat, Mk.Sym zs i L V ∧ cgAns s 0 zs = ((i : Int), (L : Int))) := fun hf s g1 g2 => by
    rw [hfu] at hf
    exact cg_full (full_taken hf).1 (full_taken hf).2 g1 g2
  have H1 : Hid (Ints w1 al zs ∧ Below w.heap.size w w1) := ⟨hI, b1⟩
  have hq1 : (bo != bo) = false := by simp
  have hq2 : (fu != fu) = false := by simp
  clear hI b1 hn hfu hbo hK2
  go_wp2_with fail
  refine (HFI.out _ H1.out.1).mono ?_
  rintro e w2 ⟨rfl, hw2⟩
  subst hw2
  go_wp2_with fail
  refine (HFS.out _ H1.out.1).mono ?_
  rintro e w3 ⟨rfl, hw3⟩
  subst hw3
  go_wp2_with fail
  refine (HOI.out _ H1.out.1).mono ?_
  rintro e w4 ⟨rfl, hw4⟩
  subst hw4
  go_wp2_with fail
  refine (HOS.out _ H1.out.1).mono ?_
  rintro e w4' ⟨rfl, hw4⟩
  subst hw4
  clear HFI HFS
  go_wp2_with fail
  refine (HD2.out _ H1.out.2).mono ?_
  rintro e w5 ⟨⟨s, rfl, hs⟩, b5⟩
  have H5 : Hid (Ints w5 al zs ∧ Below w.heap.size w w5) := ⟨H1.out.1.kept b5, H1.out.2.trans (b5.mono H1.out.2.size)⟩
  clear b5 H1 HD2
  by_cases hs2 : 2 ≤ s.size
  · have d1 : decide ((s.size : Int) ≥ 2) = true := by simp; omega
    by_cases hs9 : s.size ≤ 9000
    · have d2 : decide ((s.size : Int) ≤ 9000) = true := by simp; omega
      by_cases hf : fu = true
      · obtain ⟨i, L, V, hS, hcg⟩ := HFU.out hf s hs2 hs9
        have HC := HCG.out w5 s hs H5.out.1
        rw [hcg] at HC
        have HC' : Hid (Calls Try.prog 17 #[.string s, .int .i64 0, .slice al n c] w5 fun e w' => e = .returned (.tuple #[.int .i64 (i : Int), .int .i64 (L : Int)]) ∧ Below w5.heap.size w5 w') := HC
        have HSY : Hid (Mk.Sym zs i L V) := hS
        have hii : (i : Int) < (n : Int) := by have := hS.lt; rw [HN.out] at this; omega
        clear hS hcg HC HFU
        go_wp2_with fail
        refine HC'.out.mono ?_
        rintro e w5' ⟨rfl, b6⟩
        have H5' : Hid (Ints w5' al zs ∧ Below w.heap.size w w5') := ⟨H5.out.1.kept b6, H5.out.2.trans (b6.mono H5.out.2.size)⟩
        clear b6 H5 HC'
        obtain ⟨p1, o1, rfl, f1⟩ := ints_one H5'.out.1 HSY.out.lt
        rw [HSY.out.len] at f1
        have H5 := H5'
        clear H5' HSY
        go_wp2_with fail
        refine (HOS.out _ H5.out.1).mono ?_
        rintro e w6 ⟨rfl, hw6⟩
        subst hw6
        by_cases hbt : bo = true
        · by_cases hn300 : 300 ≤ n
          · have d9 : decide ((n : Int) ≥ 300) = true := by simp; omega
            have HF : Hid (Below w.heap.size w w6) := H5.out.2
            clear H5 HOI HOS HO2 HCG
            subst hbt
            go_wp2_with fail
            go_ret
            exact ⟨rfl, HF.out⟩
          · have d9 : decide ((n : Int) ≥ 300) = false := by simp; omega
            have HE : Hid (OwnI (w6.alloc (.cells #[] 3)) w6.heap.size (.slice (some ⟨w6.heap.size, 0, none⟩) 0 0) 0 []) := ownI_none w6
            have HIa : Hid (Ints (w6.alloc (.cells #[] 3)) (some ⟨p1, o1, none⟩) zs) := H5.out.1.kept ((Below.refl _ _).alloc (Nat.le_refl _) _)
            have hsz : w6.heap.size ≤ (w6.alloc (.cells #[] 3)).heap.size := by simp
            have HSZ : Hid (w6.heap.size ≤ (w6.alloc (.cells #[] 3)).heap.size) := hsz
            have HBa : Hid (Below w6.heap.size w6 (w6.alloc (.cells #[] 3))) := (Below.refl _ _).alloc (Nat.le_refl _) _
            have HO3 := HO2.out hbt (by omega)
            have HO4 : Hid (∀ (w : World) (a : Option Addr) (c : Nat), Ints w a (zs ++ [15]) → Calls Try.prog 12 #[.slice a K2 c] w fun e w' => e = .returned (.bool (!fu)) ∧ w' = w) := HO3
            clear hsz HO2 HO3 HOI HOS HCG
            subst hbt
            go_wp2_with (at_builtin; refine wpList_appG (by rfl) _ _ (by rfl) w6.heap.size _ 0 [] (by rfl) HE.out (some ⟨p1, o1, none⟩) n c zs (by rfl) HIa.out HN.out (by omega) HSZ.out n (Nat.zero_add _) ?_)
            intro a7 cap7 w7 hown7 hgr7
            have hb7 : Below w6.heap.size w6 w7 := HBa.out.trans (grown_below HE.out hgr7 HSZ.out)
            have hs7 : w6.heap.size ≤ w7.heap.size := hb7.size
            have HO7 : Hid (OwnI (w7.alloc (.cells #[.int .i64 15] 3)) w6.heap.size (.slice a7 n cap7) n zs) := OwnI.alloc hown7 _
            have HI7 : Hid (Ints (w7.alloc (.cells #[.int .i64 15] 3)) (some ⟨w7.heap.size, 0, none⟩) [15]) := ints_lit w7 15
            have HS7 : Hid (w6.heap.size ≤ (w7.alloc (.cells #[.int .i64 15] 3)).heap.size) := by show _ ≤ _; rw [World.size_alloc]; omega
            have HB7 : Hid (Below w6.heap.size w6 (w7.alloc (.cells #[.int .i64 15] 3))) := hb7.alloc hs7 _
            clear hown7 hgr7 hb7 HE HIa HSZ HBa
            go_wp2_with (at_builtin; refine wpList_appG (by rfl) _ _ (by rfl) w6.heap.size _ n zs (by rfl) HO7.out (some ⟨w7.heap.size, 0, none⟩) 1 1 [15] (by rfl) HI7.out rfl (by omega) HS7.out K2 HK2.out ?_)
            intro a8 cap8 w8 hown8 hgr8
            have hb8 : Below w6.heap.size w6 w8 := HB7.out.trans (grown_below HO7.out hgr8 HS7.out)
            obtain ⟨a9, c9, e9, h9⟩ := hown8.owns
            cases e9
            have H8 : Hid (Ints w8 a8 (zs ++ [15]) ∧ Below w.heap.size w w8) := ⟨h9.ints, H5.out.2.trans (hb8.mono H5.out.2.size)⟩
            clear hown8 hgr8 hb8 h9 HO7 HI7 HS7 HB7 H5
            go_wp2_with fail
            refine (HO4.out _ _ _ H8.out.1).mono ?_
            rintro e w9 ⟨rfl, hw9⟩
            subst hw9
            have HF : Hid (Below w.heap.size w w9) := H8.out.2
            clear H8 HO4
            go_wp2_with fail
            go_ret
            exact ⟨rfl, HF.out⟩
        · have hbf : bo = false := by simpa using hbt
          have HF : Hid (Below w.heap.size w w6) := H5.out.2
          clear H5 HOI HOS HO2 HCG hbt
          subst hbf
          go_wp2_with fail
          go_ret
          exact ⟨rfl, HF.out⟩
      · have hff : fu = false := by simpa using hf
        clear hf HFU
        go_wp2_with fail
        refine (HOS.out _ H5.out.1).mono ?_
        rintro e w6 ⟨rfl, hw6⟩
        subst hw6
        by_cases hbt : bo = true
        · by_cases hn300 : 300 ≤ n
          · have d9 : decide ((n : Int) ≥ 300) = true := by simp; omega
            have HF : Hid (Below w.heap.size w w6) := H5.out.2
            clear H5 HOI HOS HO2 HCG
            subst hbt
            go_wp2_with fail
            go_ret
            exact ⟨rfl, HF.out⟩
          · have d9 : decide ((n : Int) ≥ 300) = false := by simp; omega
            have HE : Hid (OwnI (w6.alloc (.cells #[] 3)) w6.heap.size (.slice (some ⟨w6.heap.size, 0, none⟩) 0 0) 0 []) := ownI_none w6
            have HIa : Hid (Ints (w6.alloc (.cells #[] 3)) al zs) := H5.out.1.kept ((Below.refl _ _).alloc (Nat.le_refl _) _)
            have hsz : w6.heap.size ≤ (w6.alloc (.cells #[] 3)).heap.size := by simp
            have HSZ : Hid (w6.heap.size ≤ (w6.alloc (.cells #[] 3)).heap.size) := hsz
            have HBa : Hid (Below w6.heap.size w6 (w6.alloc (.cells #[] 3))) := (Below.refl _ _).alloc (Nat.le_refl _) _
            have HO3 := HO2.out hbt (by omega)
            have HO4 : Hid (∀ (w : World) (a : Option Addr) (c : Nat), Ints w a (zs ++ [15]) → Calls Try.prog 12 #[.slice a K2 c] w fun e w' => e = .returned (.bool (!fu)) ∧ w' = w) := HO3
            clear hsz HO2 HO3 HOI HOS HCG
            subst hbt
            go_wp2_with (at_builtin; refine wpList_appG (by rfl) _ _ (by rfl) w6.heap.size _ 0 [] (by rfl) HE.out al n c zs (by rfl) HIa.out HN.out (by omega) HSZ.out n (Nat.zero_add _) ?_)
            intro a7 cap7 w7 hown7 hgr7
            have hb7 : Below w6.heap.size w6 w7 := HBa.out.trans (grown_below HE.out hgr7 HSZ.out)
            have hs7 : w6.heap.size ≤ w7.heap.size := hb7.size
            have HO7 : Hid (OwnI (w7.alloc (.cells #[.int .i64 15] 3)) w6.heap.size (.slice a7 n cap7) n zs) := OwnI.alloc hown7 _
            have HI7 : Hid (Ints (w7.alloc (.cells #[.int .i64 15] 3)) (some ⟨w7.heap.size, 0, none⟩) [15]) := ints_lit w7 15
            have HS7 : Hid (w6.heap.size ≤ (w7.alloc (.cells #[.int .i64 15] 3)).heap.size) := by show _ ≤ _; rw [World.size_alloc]; omega
            have HB7 : Hid (Below w6.heap.size w6 (w7.alloc (.cells #[.int .i64 15] 3))) := hb7.alloc hs7 _
            clear hown7 hgr7 hb7 HE HIa HSZ HBa
            go_wp2_with (at_builtin; refine wpList_appG (by rfl) _ _ (by rfl) w6.heap.size _ n zs (by rfl) HO7.out (some ⟨w7.heap.size, 0, none⟩) 1 1 [15] (by rfl) HI7.out rfl (by omega) HS7.out K2 HK2.out ?_)
            intro a8 cap8 w8 hown8 hgr8
            have hb8 : Below w6.heap.size w6 w8 := HB7.out.trans (grown_below HO7.out hgr8 HS7.out)
            obtain ⟨a9, c9, e9, h9⟩ := hown8.owns
            cases e9
            have H8 : Hid (Ints w8 a8 (zs ++ [15]) ∧ Below w.heap.size w w8) := ⟨h9.ints, H5.out.2.trans (hb8.mono H5.out.2.size)⟩
            clear hown8 hgr8 hb8 h9 HO7 HI7 HS7 HB7 H5
            go_wp2_with fail
            refine (HO4.out _ _ _ H8.out.1).mono ?_
            rintro e w9 ⟨rfl, hw9⟩
            subst hw9
            have HF : Hid (Below w.heap.size w w9) := H8.out.2
            clear H8 HO4
            go_wp2_with fail
            go_ret
            exact ⟨rfl, HF.out⟩
        · have hbf : bo = false := by simpa using hbt
          have HF : Hid (Below w.heap.size w w6) := H5.out.2
          clear H5 HOI HOS HO2 HCG hbt
          subst hbf
          go_wp2_with fail
          go_ret
          exact ⟨rfl, HF.out⟩
    · have d2 : decide ((s.size : Int) ≤ 9000) = false := by simp; omega
      clear HFU
      go_wp2_with fail
      refine (HOS.out _ H5.out.1).mono ?_
      rintro e w6 ⟨rfl, hw6⟩
      subst hw6
      by_cases hbt : bo = true
      · by_cases hn300 : 300 ≤ n
        · have d9 : decide ((n : Int) ≥ 300) = true := by simp; omega
          have HF : Hid (Below w.heap.size w w6) := H5.out.2
          clear H5 HOI HOS HO2 HCG
          subst hbt
          go_wp2_with fail
          go_ret
          exact ⟨rfl, HF.out⟩
        · have d9 : decide ((n : Int) ≥ 300) = false := by simp; omega
          have HE : Hid (OwnI (w6.alloc (.cells #[] 3)) w6.heap.size (.slice (some ⟨w6.heap.size, 0, none⟩) 0 0) 0 []) := ownI_none w6
          have HIa : Hid (Ints (w6.alloc (.cells #[] 3)) al zs) := H5.out.1.kept ((Below.refl _ _).alloc (Nat.le_refl _) _)
          have hsz : w6.heap.size ≤ (w6.alloc (.cells #[] 3)).heap.size := by simp
          have HSZ : Hid (w6.heap.size ≤ (w6.alloc (.cells #[] 3)).heap.size) := hsz
          have HBa : Hid (Below w6.heap.size w6 (w6.alloc (.cells #[] 3))) := (Below.refl _ _).alloc (Nat.le_refl _) _
          have HO3 := HO2.out hbt (by omega)
          have HO4 : Hid (∀ (w : World) (a : Option Addr) (c : Nat), Ints w a (zs ++ [15]) → Calls Try.prog 12 #[.slice a K2 c] w fun e w' => e = .returned (.bool (!fu)) ∧ w' = w) := HO3
          clear hsz HO2 HO3 HOI HOS HCG
          subst hbt
          go_wp2_with (at_builtin; refine wpList_appG (by rfl) _ _ (by rfl) w6.heap.size _ 0 [] (by rfl) HE.out al n c zs (by rfl) HIa.out HN.out (by omega) HSZ.out n (Nat.zero_add _) ?_)
          intro a7 cap7 w7 hown7 hgr7
          have hb7 : Below w6.heap.size w6 w7 := HBa.out.trans (grown_below HE.out hgr7 HSZ.out)
          have hs7 : w6.heap.size ≤ w7.heap.size := hb7.size
          have HO7 : Hid (OwnI (w7.alloc (.cells #[.int .i64 15] 3)) w6.heap.size (.slice a7 n cap7) n zs) := OwnI.alloc hown7 _
          have HI7 : Hid (Ints (w7.alloc (.cells #[.int .i64 15] 3)) (some ⟨w7.heap.size, 0, none⟩) [15]) := ints_lit w7 15
          have HS7 : Hid (w6.heap.size ≤ (w7.alloc (.cells #[.int .i64 15] 3)).heap.size) := by show _ ≤ _; rw [World.size_alloc]; omega
          have HB7 : Hid (Below w6.heap.size w6 (w7.alloc (.cells #[.int .i64 15] 3))) := hb7.alloc hs7 _
          clear hown7 hgr7 hb7 HE HIa HSZ HBa
          go_wp2_with (at_builtin; refine wpList_appG (by rfl) _ _ (by rfl) w6.heap.size _ n zs (by rfl) HO7.out (some ⟨w7.heap.size, 0, none⟩) 1 1 [15] (by rfl) HI7.out rfl (by omega) HS7.out K2 HK2.out ?_)
          intro a8 cap8 w8 hown8 hgr8
          have hb8 : Below w6.heap.size w6 w8 := HB7.out.trans (grown_below HO7.out hgr8 HS7.out)
          obtain ⟨a9, c9, e9, h9⟩ := hown8.owns
          cases e9
          have H8 : Hid (Ints w8 a8 (zs ++ [15]) ∧ Below w.heap.size w w8) := ⟨h9.ints, H5.out.2.trans (hb8.mono H5.out.2.size)⟩
          clear hown8 hgr8 hb8 h9 HO7 HI7 HS7 HB7 H5
          go_wp2_with fail
          refine (HO4.out _ _ _ H8.out.1).mono ?_
          rintro e w9 ⟨rfl, hw9⟩
          subst hw9
          have HF : Hid (Below w.heap.size w w9) := H8.out.2
          clear H8 HO4
          cases fu
          · go_wp2_with fail
            go_ret
            exact ⟨rfl, HF.out⟩
          · go_wp2_with fail
            go_ret
            exact ⟨rfl, HF.out⟩
      · have hbf : bo = false := by simpa using hbt
        have HF : Hid (Below w.heap.size w w6) := H5.out.2
        clear H5 HOI HOS HO2 HCG hbt
        subst hbf
        go_wp2_with fail
        go_ret
        exact ⟨rfl, HF.out⟩
  · have d1 : decide ((s.size : Int) ≥ 2) = false := by simp; omega
    clear HFU
    go_wp2_with fail
    refine (HOS.out _ H5.out.1).mono ?_
    rintro e w6 ⟨rfl, hw6⟩
    subst hw6
    by_cases hbt : bo = true
    · by_cases hn300 : 300 ≤ n
      · have d9 : decide ((n : Int) ≥ 300) = true := by simp; omega
        have HF : Hid (Below w.heap.size w w6) := H5.out.2
        clear H5 HOI HOS HO2 HCG
        subst hbt
        go_wp2_with fail
        go_ret
        exact ⟨rfl, HF.out⟩
      · have d9 : decide ((n : Int) ≥ 300) = false := by simp; omega
        have HE : Hid (OwnI (w6.alloc (.cells #[] 3)) w6.heap.size (.slice (some ⟨w6.heap.size, 0, none⟩) 0 0) 0 []) := ownI_none w6
        have HIa : Hid (Ints (w6.alloc (.cells #[] 3)) al zs) := H5.out.1.kept ((Below.refl _ _).alloc (Nat.le_refl _) _)
        have hsz : w6.heap.size ≤ (w6.alloc (.cells #[] 3)).heap.size := by simp
        have HSZ : Hid (w6.heap.size ≤ (w6.alloc (.cells #[] 3)).heap.size) := hsz
        have HBa : Hid (Below w6.heap.size w6 (w6.alloc (.cells #[] 3))) := (Below.refl _ _).alloc (Nat.le_refl _) _
        have HO3 := HO2.out hbt (by omega)
        have HO4 : Hid (∀ (w : World) (a : Option Addr) (c : Nat), Ints w a (zs ++ [15]) → Calls Try.prog 12 #[.slice a K2 c] w fun e w' => e = .returned (.bool (!fu)) ∧ w' = w) := HO3
        clear hsz HO2 HO3 HOI HOS HCG
        subst hbt
        go_wp2_with (at_builtin; refine wpList_appG (by rfl) _ _ (by rfl) w6.heap.size _ 0 [] (by rfl) HE.out al n c zs (by rfl) HIa.out HN.out (by omega) HSZ.out n (Nat.zero_add _) ?_)
        intro a7 cap7 w7 hown7 hgr7
        have hb7 : Below w6.heap.size w6 w7 := HBa.out.trans (grown_below HE.out hgr7 HSZ.out)
        have hs7 : w6.heap.size ≤ w7.heap.size := hb7.size
        have HO7 : Hid (OwnI (w7.alloc (.cells #[.int .i64 15] 3)) w6.heap.size (.slice a7 n cap7) n zs) := OwnI.alloc hown7 _
        have HI7 : Hid (Ints (w7.alloc (.cells #[.int .i64 15] 3)) (some ⟨w7.heap.size, 0, none⟩) [15]) := ints_lit w7 15
        have HS7 : Hid (w6.heap.size ≤ (w7.alloc (.cells #[.int .i64 15] 3)).heap.size) := by show _ ≤ _; rw [World.size_alloc]; omega
        have HB7 : Hid (Below w6.heap.size w6 (w7.alloc (.cells #[.int .i64 15] 3))) := hb7.alloc hs7 _
        clear hown7 hgr7 hb7 HE HIa HSZ HBa
        go_wp2_with (at_builtin; refine wpList_appG (by rfl) _ _ (by rfl) w6.heap.size _ n zs (by rfl) HO7.out (some ⟨w7.heap.size, 0, none⟩) 1 1 [15] (by rfl) HI7.out rfl (by omega) HS7.out K2 HK2.out ?_)
        intro a8 cap8 w8 hown8 hgr8
        have hb8 : Below w6.heap.size w6 w8 := HB7.out.trans (grown_below HO7.out hgr8 HS7.out)
        obtain ⟨a9, c9, e9, h9⟩ := hown8.owns
        cases e9
        have H8 : Hid (Ints w8 a8 (zs ++ [15]) ∧ Below w.heap.size w w8) := ⟨h9.ints, H5.out.2.trans (hb8.mono H5.out.2.size)⟩
        clear hown8 hgr8 hb8 h9 HO7 HI7 HS7 HB7 H5
        go_wp2_with fail
        refine (HO4.out _ _ _ H8.out.1).mono ?_
        rintro e w9 ⟨rfl, hw9⟩
        subst hw9
        have HF : Hid (Below w.heap.size w w9) := H8.out.2
        clear H8 HO4
        cases fu
        · go_wp2_with fail
          go_ret
          exact ⟨rfl, HF.out⟩
        · go_wp2_with fail
          go_ret
          exact ⟨rfl, HF.out⟩
    · have hbf : bo = false := by simpa using hbt
      have HF : Hid (Below w.heap.size w w6) := H5.out.2
      clear H5 HOI HOS HO2 HCG hbt
      subst hbf
      go_wp2_with fail
      go_ret
      exact ⟨rfl, HF.out⟩
end Go.Proofs.Ytjdilanmkgodnaa
