/- How often each comes, drawn. -/
import Derived.Test.YtcolgcddhchkhaaCfFit
import Derived.Test.YtcolgcddhchkhaaDrawRow
import Derived.Test.YtcolgcddhchkhaaAppOne
import Derived.Test.YtcolgcddhchkhaaDrawWalks
namespace Go.Proofs.Ytcolgcddhchkhaa
open Go.RowKit

theorem five_cell (W : World) (a b c d e : Int) (y : Nat) (hy : y < 5) : ∃ v : Int, (W.alloc (.cells #[.int .i64 a, .int .i64 b, .int .i64 c, .int .i64 d, .int .i64 e] 3)).cell? ⟨W.heap.size, y, none⟩ = some (.int .i64 v) := by
  rw [World.cell?_alloc_at _ _ _ _ rfl]
  have : y = 0 ∨ y = 1 ∨ y = 2 ∨ y = 3 ∨ y = 4 := by omega
  rcases this with rfl | rfl | rfl | rfl | rfl <;> exact ⟨_, rfl⟩
theorem two_cell (W : World) (a b : Int) (y : Nat) (hy : y < 2) : ∃ v : Int, (W.alloc (.cells #[.int .i64 a, .int .i64 b] 3)).cell? ⟨W.heap.size, y, none⟩ = some (.int .i64 v) := by
  rw [World.cell?_alloc_at _ _ _ _ rfl]
  have : y = 0 ∨ y = 1 := by omega
  rcases this with rfl | rfl <;> exact ⟨_, rfl⟩

set_option maxHeartbeats 1000000 in
theorem l4Same_own (z : Int) (T : Nat) (w : World) (hT : T ≤ 1000) :
    Calls Try.prog 67 #[.int .i64 z, .int .i64 (T : Int)] w fun e w' => (∃ a c, e = .returned (.slice a T c) ∧ OwnI w' w.heap.size (.slice a T c) T (List.replicate T z)) ∧ Below w.heap.size w w' := by
  have HE : Hid (OwnI _ _ _ 0 []) := ownI_none w
  go_enter Try.func67, Try.ntmps67
  go_wp2_with fail
  go_loopw [5, 6] (fun v i wr => ∃ k : Nat, k ≤ T ∧ i = .int .i64 (k : Int) ∧ OwnI wr w.heap.size v k (List.replicate k z) ∧ Below w.heap.size w wr) (fun _ i _ => T - (intOf i).toNat)
  case atStart => exact ⟨0, Nat.zero_le _, rfl, HE.out, (Below.refl _ _).alloc (Nat.le_refl _) _⟩
  case round =>
    obtain ⟨k, hk, rfl, hown, hbel⟩ := hrel
    clear HE
    by_cases hlt : k < T
    · have hki : (k : Int) < (T : Int) := by omega
      have HR : Hid (List.replicate (k + 1) z = List.replicate k z ++ [z]) := by show _ = _; rw [List.replicate_succ']
      generalize List.replicate k z = q at *
      go_wp2_with (at_builtin; refine wpList_app1 wr (by rfl) _ _ (by rfl) w.heap.size _ k q z (by rfl) hown (by rfl) (by omega) hbel.size ?_)
      intro g cap w4 hown4 hgr
      have hb4 : Below w.heap.size w w4 := hgr.below hbel (Nat.le_refl _) hbel.size
      have HO4 : Hid (OwnI w4 w.heap.size (.slice (some ⟨g, 0, none⟩) (k + 1) cap) (k + 1) (List.replicate (k + 1) z)) := by show OwnI _ _ _ _ _; rw [HR.out]; exact hown4
      clear hown hown4 hgr hbel
      go_wp2_with fail
      go_roundw
      case rel => exact ⟨k + 1, by omega, by go_num, HO4.out, hb4⟩
      case measure => simp [intOf]; omega
    · obtain rfl : k = T := by omega
      obtain ⟨a, c, e, _⟩ := hown.owns
      subst e
      have HF : Hid (OwnI wr w.heap.size (.slice a k c) k (List.replicate k z)) := hown
      clear hown
      go_wp2_with fail
      go_ret
      exact ⟨⟨a, c, rfl, HF.out⟩, hbel⟩

/-- what is drawn -/
def OftenDrawn (B p : Nat) (w : World) (e : Ending) (w' : World) : Prop :=
  (∃ (a : Option Addr) (n c : Nat) (l : List Int), e = .returned (.slice a n c) ∧ Ints w' a l ∧ l.length = n ∧ n ≤ 301 ∧ OftenOk l) ∧ (∃ q, q ≤ p + 100 ∧ RdAt w' B q) ∧ Only B w w'
def OftenOwn (B p : Nat) (w : World) (e : Ending) (w' : World) : Prop :=
  (∃ (a : Option Addr) (n c : Nat) (l : List Int), e = .returned (.slice a n c) ∧ OwnI w' (B + 1) (.slice a n c) n l ∧ n ≤ 301 ∧ OftenOk l) ∧ (∃ q, q ≤ p + 100 ∧ RdAt w' B q) ∧ Only B w w'
theorem oftenDrawn_mk {B p : Nat} {w w' : World} {lo : Nat} (a : Option Addr) (n c q : Nat) (l : List Int) (h1 : OwnI w' lo (.slice a n c) n l) (hlo : B < lo) (h2 : n ≤ 301) (h3 : OftenOk l) (h4 : q ≤ p + 100) (h5 : RdAt w' B q) (h6 : Only B w w') : OftenOwn B p w (.returned (.slice a n c)) w' :=
  ⟨⟨a, n, c, l, rfl, h1.lower hlo, h2, h3⟩, ⟨q, h4, h5⟩, h6⟩
theorem OftenOwn.drawn {B p : Nat} {w w' : World} {e : Ending} (h : OftenOwn B p w e w') : OftenDrawn B p w e w' := by
  obtain ⟨⟨a, n, c, l, rfl, h1, h2, h3⟩, h4, h5⟩ := h
  refine ⟨⟨a, n, c, l, rfl, ?_, h1.len, h2, h3⟩, h4, h5⟩
  obtain ⟨a7, c7, e7, h7⟩ := h1.owns
  cases e7
  exact h7.ints

set_option maxHeartbeats 4000000 in
set_option maxRecDepth 20000 in
theorem l14Often_own (B p : Nat) (w : World) (hr : RdAt w B p) (hp : p ≤ 1000) :
    Calls Try.prog 38 #[.pointer (some ⟨B, 0, none⟩)] w (OftenOwn B p w) := by
  have hlt0 := hr.lt
  have HE : Hid (OwnI _ _ _ 0 []) := ownI_none w
  have HR0 : Hid (RdAt (w.alloc (.cells #[] 3)) B p) := hr.alloc _
  have HO0 : Hid (Only B w (w.alloc (.cells #[] 3))) := (Only.refl B w).alloc hlt0 _
  clear hr
  go_enter Try.func38, Try.ntmps38
  go_wp2_with fail
  refine (pick_named B p _ _ HR0.out (by omega) (by omega) (by omega)).mono ?_
  rintro e w2 ⟨x0, rfl, hx0, hR2, hO2, hs2⟩
  have HD2 : Hid (OwnI w2 w.heap.size _ 0 []) := HE.out.only hO2 hlt0
  have HR2 : Hid (RdAt w2 B (p + 1)) := hR2
  have HO2 : Hid (Only B w w2) := HO0.out.trans hO2
  clear HE HR0 HO0 hO2 hs2 hR2
  by_cases hx : x0 = 0
  · subst hx
    go_wp2_with fail
    refine (pick_named B (p + 1) _ _ HR2.out (by omega) (by omega) (by omega)).mono ?_
    rintro e w3 ⟨y, rfl, hy, hR3, hO3, -⟩
    obtain ⟨T, hT⟩ : ∃ T : Nat, T = 300 + y := ⟨_, rfl⟩
    have eT : (300 : Int) + (y : Int) = (T : Int) := by omega
    have hTo : T = 300 ∨ T = 301 := by omega
    have HTO : Hid (T = 300 ∨ T = 301) := hTo
    have hTb : T ≤ 301 := by omega
    have HSM : Hid (Calls Try.prog 67 #[.int .i64 1, .int .i64 (T : Int)] w3 fun e w' => (∃ a c, e = .returned (.slice a T c) ∧ OwnI w' w3.heap.size (.slice a T c) T (List.replicate T 1)) ∧ Below w3.heap.size w3 w') := l4Same_own 1 T w3 (by omega)
    have HR3 : Hid (RdAt w3 B (p + 1 + 1)) := hR3
    have HO3 : Hid (Only B w w3) := HO2.out.trans hO3
    clear hR3 hO3 HR2 HO2 HD2 hT hTo hy
    go_wp2_with fail
    refine HSM.out.mono ?_
    rintro e w4 ⟨⟨a4, c4, rfl, hO4⟩, b4⟩
    have HF : Hid (OftenOwn B p w (.returned (.slice a4 T c4)) w4) := oftenDrawn_mk a4 T c4 (p + 1 + 1) _ hO4 HR3.out.lt hTb (often_ones T HTO.out) (by omega) (HR3.out.kept (b4.mono HR3.out.lt)) (HO3.out.trans (Only.of_below b4 HR3.out.lt))
    clear hO4 b4 HSM HR3 HO3
    go_wp2_with fail
    go_ret
    exact HF.out
  · have hxi : ¬ (x0 : Int) = 0 := by omega
    go_wp2_with fail
    refine (pick_named B (p + 1) _ _ HR2.out (by omega) (by omega) (by omega)).mono ?_
    rintro e w3 ⟨k0, rfl, hk0, hR3, hO3, -⟩
    have HD3 : Hid (OwnI w3 w.heap.size _ 0 []) := HD2.out.only hO3 hlt0
    have HR3 : Hid (RdAt w3 B (p + 1 + 1)) := hR3
    have HO3 : Hid (Only B w w3) := HO2.out.trans hO3
    have hk13 : k0 ≤ 13 := by omega
    clear HD2 HR2 HO2 hR3 hO3 hk0 hx0
    go_wp2_with fail
    go_loopw [3, 4] (fun v i wr => ∃ (k q n : Nat) (l : List Int), k ≤ 13 ∧ i = .int .i64 k ∧ n + k ≤ 13 ∧ q + 4 * k ≤ p + 60 ∧ (∃ a c, v = .slice a n c) ∧ Hid (RdAt wr B q ∧ OwnI wr w.heap.size v n l ∧ Only B w wr)) (fun _ i _ => (intOf i).toNat)
    case atStart => exact ⟨k0, p + 1 + 1, 0, [], hk13, rfl, by omega, by omega, ⟨_, _, rfl⟩, HR3.out, HD3.out, HO3.out⟩
    case round =>
      obtain ⟨k, q, n, l, hk, rfl, hnk, hqk, ⟨a5, c5, rfl⟩, HA⟩ := hrel
      clear HR3 HD3 HO3
      by_cases hk0' : 0 < k
      · have hki : (0 : Int) < (k : Int) := by omega
        go_wp2_with fail
        refine (pick_named B q _ _ HA.out.1 (by omega) (by omega) (by omega)).mono ?_
        rintro e w4 ⟨y1, rfl, hy1, hR4, hO4, -⟩
        have H4 : Hid (RdAt w4 B (q + 1) ∧ OwnI w4 w.heap.size (.slice a5 n c5) n l ∧ Only B w w4) := ⟨hR4, HA.out.2.1.only hO4 hlt0, HA.out.2.2.trans hO4⟩
        clear hR4 hO4 HA
        go_wp2_with fail
        refine (pick_named B (q + 1) _ _ H4.out.1 (by omega) (by omega) (by omega)).mono ?_
        rintro e w5 ⟨y2, rfl, hy2, hR5, hO5, -⟩
        have H5 : Hid (RdAt w5 B (q + 2) ∧ OwnI w5 w.heap.size (.slice a5 n c5) n l ∧ Only B w w5) := ⟨hR5, H4.out.2.1.only hO5 hlt0, H4.out.2.2.trans hO5⟩
        clear hR5 hO5 H4
        go_wp2_with fail
        refine (pick_named B (q + 2) _ _ H5.out.1 (by omega) (by omega) (by omega)).mono ?_
        rintro e w6 ⟨y3, rfl, hy3, hR6, hO6, -⟩
        have H6 : Hid (RdAt w6 B (q + 3) ∧ OwnI w6 w.heap.size (.slice a5 n c5) n l ∧ Only B w w6) := ⟨hR6, H5.out.2.1.only hO6 hlt0, H5.out.2.2.trans hO6⟩
        have HPW : Hid (Calls Try.prog 68 #[.int .i64 (y3 : Int)] w6 fun e w' => e = .returned (.int .i64 ((2 ^ y3 : Nat) : Int)) ∧ w' = w6) := l1Pow_any y3 w6 (by omega)
        obtain ⟨P, hP⟩ : ∃ P : Int, P = ((2 ^ y3 : Nat) : Int) := ⟨_, rfl⟩
        rw [← hP] at HPW
        clear hR6 hO6 H5 hP
        go_wp2_with fail
        refine HPW.out.mono ?_
        rintro e w7 ⟨rfl, hw7⟩
        subst hw7
        clear HPW
        have hltw : B < w7.heap.size := H6.out.1.lt
        have HR7 : Hid (RdAt (w7.alloc (.cells #[.int .i64 0, .int .i64 1, .int .i64 (y1 : Int), .int .i64 (y2 : Int), .int .i64 P] 3)) B (q + 3)) := H6.out.1.alloc _
        go_wp2_with fail
        refine (pick_named B (q + 3) _ _ HR7.out (by omega) (by omega) (by omega)).mono ?_
        rintro e w8 ⟨y4, rfl, hy4, hR8, hO8, -⟩
        have hy5 : y4 < 5 := by omega
        obtain ⟨v, hv⟩ := five_cell w7 0 1 (y1 : Int) (y2 : Int) P y4 hy5
        have hv8 : w8.cell? ⟨w7.heap.size, y4, none⟩ = some (.int .i64 v) := (hO8.cell w7.heap.size y4 (by simp) (by omega)).trans hv
        have H8 : Hid (RdAt w8 B (q + 4) ∧ OwnI w8 w.heap.size (.slice a5 n c5) n l ∧ Only B w w8) := ⟨hR8, OwnI.only (OwnI.alloc H6.out.2.1 _) hO8 hlt0, (H6.out.2.2.alloc hltw _).trans hO8⟩
        have hbs : w.heap.size ≤ w8.heap.size := H8.out.2.2.below.size
        have hy4i : (y4 : Int) < 5 := by omega
        clear hR8 hO8 H6 HR7 hv hltw
        go_wp2_with (at_builtin; refine wpList_app1 w8 (by rfl) _ _ (by rfl) w.heap.size _ n l v (by rfl) H8.out.2.1 (by rfl) (by omega) hbs ?_)
        intro g cap w9 hown9 hgr
        have hb9 : Below w.heap.size w8 w9 := hgr.below (Below.refl _ _) (Nat.le_refl _) hbs
        have H9 : Hid (RdAt w9 B (q + 4) ∧ OwnI w9 w.heap.size (.slice (some ⟨g, 0, none⟩) (n + 1) cap) (n + 1) (l ++ [v]) ∧ Only B w w9) := ⟨H8.out.1.kept (hb9.mono hlt0), hown9, H8.out.2.2.grown hlt0 hb9⟩
        clear hown9 hgr hb9 H8 hv8
        go_wp2_with fail
        go_roundw
        case rel => exact ⟨k - 1, q + 4, n + 1, _, by omega, by go_num, by omega, by omega, ⟨_, _, rfl⟩, H9⟩
        case measure => simp [intOf]; omega
      · have hki : ¬ (0 : Int) < (k : Int) := by omega
        go_wp2_with fail
        refine (pick_named B q _ _ HA.out.1 (by omega) (by omega) (by omega)).mono ?_
        rintro e w4 ⟨y1, rfl, hy1, hR4, hO4, -⟩
        have H4 : Hid (RdAt w4 B (q + 1) ∧ OwnI w4 w.heap.size (.slice a5 n c5) n l ∧ Only B w w4) := ⟨hR4, HA.out.2.1.only hO4 hlt0, HA.out.2.2.trans hO4⟩
        clear hR4 hO4 HA
        by_cases hy0 : y1 = 0
        · subst hy0
          have hltw : B < w4.heap.size := H4.out.1.lt
          have HR7 : Hid (RdAt (w4.alloc (.cells #[.int .i64 (-1), .int .i64 9001] 3)) B (q + 1)) := H4.out.1.alloc _
          go_wp2_with fail
          refine (pick_named B (q + 1) _ _ HR7.out (by omega) (by omega) (by omega)).mono ?_
          rintro e w8 ⟨y4, rfl, hy4, hR8, hO8, -⟩
          have hy5 : y4 < 2 := by omega
          obtain ⟨v, hv⟩ := two_cell w4 (-1) 9001 y4 hy5
          have hv8 : w8.cell? ⟨w4.heap.size, y4, none⟩ = some (.int .i64 v) := (hO8.cell w4.heap.size y4 (by simp) (by omega)).trans hv
          have H8 : Hid (RdAt w8 B (q + 2) ∧ OwnI w8 w.heap.size (.slice a5 n c5) n l ∧ Only B w w8) := ⟨hR8, OwnI.only (OwnI.alloc H4.out.2.1 _) hO8 hlt0, (H4.out.2.2.alloc hltw _).trans hO8⟩
          have hbs : w.heap.size ≤ w8.heap.size := H8.out.2.2.below.size
          have hy4i : (y4 : Int) < 2 := by omega
          clear hR8 hO8 H4 HR7 hv hltw
          go_wp2_with (at_builtin; refine wpList_app1 w8 (by rfl) _ _ (by rfl) w.heap.size _ n l v (by rfl) H8.out.2.1 (by rfl) (by omega) hbs ?_)
          intro g cap w9 hown9 hgr
          have hb9 : Below w.heap.size w8 w9 := hgr.below (Below.refl _ _) (Nat.le_refl _) hbs
          have HF : Hid (OftenOwn B p w (.returned (.slice (some ⟨g, 0, none⟩) (n + 1) cap)) w9) := oftenDrawn_mk _ (n + 1) cap (q + 2) _ hown9 hlt0 (by omega) (often_few (by rw [hown9.len]; omega)) (by omega) (H8.out.1.kept (hb9.mono hlt0)) (H8.out.2.2.grown hlt0 hb9)
          clear hown9 hgr hb9 H8 hv8
          go_wp2_with fail
          go_ret
          exact HF.out
        · have hyi : ¬ (y1 : Int) = 0 := by omega
          have HF : Hid (OftenOwn B p w (.returned (.slice a5 n c5)) w4) := oftenDrawn_mk a5 n c5 (q + 1) l H4.out.2.1 hlt0 (by omega) (often_few (by rw [H4.out.2.1.len]; omega)) (by omega) H4.out.1 H4.out.2.2
          clear H4
          go_wp2_with fail
          go_ret
          exact HF.out
theorem l14Often_any (B p : Nat) (w : World) (hr : RdAt w B p) (hp : p ≤ 1000) :
    Calls Try.prog 38 #[.pointer (some ⟨B, 0, none⟩)] w (OftenDrawn B p w) := (l14Often_own B p w hr hp).mono fun _ _ h => h.drawn
end Go.Proofs.Ytcolgcddhchkhaa
