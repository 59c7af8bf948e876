/- Texts laid together: CtSFit, CtSFit2, CtFacts, DfOwnM, DfFits, DfStoreM, DfOwnS, ZpLen2. -/
import Derived.Test.YthfdnloeicbgkaaVFInflateCfTree2
import Derived.Test.YthfdnloeicbgkaaKFInflatex3
import Derived.Test.YthfdnloeicbgkaaKFInflatex0
import Derived.Test.YthfdnloeicbgkaaKFInflatex2
import Derived.Test.YthfdnloeicbgkaaVFInflateDfBodyS
import Derived.Test.YthfdnloeicbgkaaVFInflateDfOftS
import Derived.Test.YthfdnloeicbgkaaVFInflateDfRunsS
/- The specification's CodeFit: just the lengths of Ct. -/
namespace Go.Proofs.Ythfdnloeicbgkaa
open Go.RowKit

set_option maxHeartbeats 2000000 in
theorem l3Most_is (a : Option Addr) (n c : Nat) (f : Nat → Nat) (w : World) (h : Ints w a ((List.range n).map (fun i => ((f i : Nat) : Int)))) (hb : n ≤ 1000) (hl : ∀ i, i < n → f i ≤ 100000) :
    Calls Try.prog 111 #[.slice a n c] w fun e w' => (∃ m : Nat, e = .returned (.int .i64 (m : Int)) ∧ (∀ i, i < n → f i ≤ m) ∧ (m = 0 ∨ ∃ i, i < n ∧ m = f i)) ∧ w' = w := by
  have HI : Hid (Ints w a ((List.range n).map (fun i => ((f i : Nat) : Int)))) := h
  have HL : Hid (∀ i, i < n → f i ≤ 100000) := hl
  clear h hl
  go_enter Try.func111, Try.ntmps111
  go_wp2_with fail
  go_loop [3, 4] (fun v i => ∃ k m : Nat, k ≤ n ∧ m ≤ 100000 ∧ i = .int .i64 (k : Int) ∧ v = .int .i64 (m : Int) ∧ Hid ((∀ i, i < k → f i ≤ m) ∧ (m = 0 ∨ ∃ i, i < n ∧ m = f i))) (fun _ i => n - (intOf i).toNat)
  case atStart => exact ⟨0, 0, by omega, by omega, rfl, rfl, fun i hi => by omega, .inl rfl⟩
  case round =>
    obtain ⟨k, m, hk, hm, rfl, rfl, HM⟩ := hrel
    by_cases hlt : k < n
    · have hki : (k : Int) < (n : Int) := by omega
      obtain ⟨b, off, rfl, hc⟩ : ∃ b off, a = some ⟨b, off, none⟩ ∧ w.cell? ⟨b, off + k, none⟩ = some (.int .i64 ((f k : Nat) : Int)) := by
        rcases HI.out with e | ⟨b, off, e1, _, e3⟩
        · have := congrArg List.length e
          rw [List.length_map, List.length_range] at this
          simp at this
          omega
        · refine ⟨b, off, e1, ?_⟩
          have := e3 k (by rw [List.length_map, List.length_range]; exact hlt)
          rw [List.getElem_map, List.getElem_range] at this
          exact this
      have hz := HL.out k hlt
      have HZ : Hid (∃ z, z = f k) := ⟨_, rfl⟩
      obtain ⟨z, hzz⟩ : ∃ z : Nat, f k = z := ⟨_, rfl⟩
      rw [hzz] at hc hz
      by_cases hgt : m < z
      · have hgi : (m : Int) < (z : Int) := by omega
        have HM2 : Hid ((∀ i, i < k + 1 → f i ≤ z) ∧ (z = 0 ∨ ∃ i, i < n ∧ z = f i)) := ⟨fun i hi => by
          by_cases e : i = k
          · subst e; omega
          · have := HM.out.1 i (by omega); omega, .inr ⟨k, hlt, hzz.symm⟩⟩
        clear hzz HM HZ
        go_wp2_with fail
        go_round
        case rel => exact ⟨k + 1, z, by omega, by omega, by go_num, rfl, HM2⟩
        case measure => simp [intOf]; omega
      · have hgi : ¬ (m : Int) < (z : Int) := by omega
        have HM2 : Hid ((∀ i, i < k + 1 → f i ≤ m) ∧ (m = 0 ∨ ∃ i, i < n ∧ m = f i)) := ⟨fun i hi => by
          by_cases e : i = k
          · subst e; omega
          · exact HM.out.1 i (by omega), HM.out.2⟩
        clear hzz HM HZ
        go_wp2_with fail
        go_round
        case rel => exact ⟨k + 1, m, by omega, by omega, by go_num, rfl, HM2⟩
        case measure => simp [intOf]; omega
    · have hki : ¬ (k : Int) < (n : Int) := by omega
      obtain rfl : k = n := by omega
      go_wp2_with fail
      go_ret
      exact ⟨⟨m, rfl, HM.out.1, HM.out.2⟩, rfl⟩

/-- the numbers, in a row that is written -/
def XRow (w W : World) (a1 : Option Addr) (n : Nat) (x : List Int) : Prop := x.length = n ∧ (n = 0 ∨ ∃ g, a1 = some ⟨g, 0, none⟩ ∧ w.heap.size ≤ g ∧ Own W g n (fun i => x.getD i 0))
theorem XRow.ints {w W : World} {a1 : Option Addr} {n : Nat} {x : List Int} (h : XRow w W a1 n x) : Ints W a1 x := by
  obtain ⟨h1, h2 | ⟨g, rfl, _, h3⟩⟩ := h
  · exact .inl (List.eq_nil_of_length_eq_zero (by omega))
  · refine .inr ⟨g, 0, rfl, h3.1, fun i hi => ?_⟩
    have := (h3.2 i (by omega)).1
    dsimp only at this
    rw [Nat.zero_add, this, List.getD_eq_getElem?_getD, List.getElem?_eq_getElem hi]
    rfl
theorem XRow.kept {w W W' : World} {a1 : Option Addr} {n : Nat} {x : List Int} (h : XRow w W a1 n x) (hb : Below W.heap.size W W') : XRow w W' a1 n x := by
  obtain ⟨h1, h2 | ⟨g, e, hg, h3⟩⟩ := h
  · exact ⟨h1, .inl h2⟩
  · exact ⟨h1, .inr ⟨g, e, hg, own_low h3 hb h3.1⟩⟩
end Go.Proofs.Ythfdnloeicbgkaa

/- The specification's l3Fit and CodeFit. -/
namespace Go.Proofs.Ythfdnloeicbgkaa
open Go.RowKit

theorem xrow_own {w W : World} {a1 : Option Addr} {n c : Nat} {l : List Int} (h : OwnI W w.heap.size (.slice a1 n c) n l) : XRow w W a1 n l := by
  have hl : l.length = n := by have h1 := h.1; unfold intsV at h1; simpa using h1
  refine ⟨hl, ?_⟩
  have h' : W.ownsRow w.heap.size 3 1 (.slice a1 n c) n (l.map (Value.int .i64)) := h
  rcases h'.2 with ⟨e, h0⟩ | ⟨g, cap, cur, e, hg, hh, _⟩
  · exact .inl h0
  · cases e
    refine .inr ⟨g, rfl, hg, (Array.getElem?_eq_some_iff.1 hh).1, fun i hi => ⟨?_, World.ownsRow.frozenAt h' i⟩⟩
    rw [World.ownsRow.cellAt h' i (by omega), List.getElem?_map]
    show _ = some (Value.int .i64 (l.getD i 0))
    rw [List.getD_eq_getElem?_getD, List.getElem?_eq_getElem (by omega)]
    rfl
/-- the first k are halved -/
def hx (x : List Int) (k : Nat) (i : Nat) : Int := if i < k then Ct.half (x.getD i 0) else x.getD i 0
set_option maxHeartbeats 8000000 in
set_option maxRecDepth 20000 in
theorem l3Fit_is (a : Option Addr) (n c : Nat) (l : List Int) (M : Nat) (w : World) (h : Ints w a l) (hn : l.length = n) (hM1 : 1 ≤ M) (hM : M ≤ 15) (hG : Ct.Good M l) :
    Calls Try.prog 76 #[.slice a n c, .int .i64 (M : Int)] w fun e w' => (∃ b f, e = .returned (.slice (some ⟨b, 0, none⟩) n n) ∧ Ints w' (some ⟨b, 0, none⟩) ((List.range n).map (fun i => ((f i : Nat) : Int))) ∧ Ct.Fits M l f) ∧ Below w.heap.size w w' := by
  have HN : Hid (l.length = n) := hn
  have HG : Hid (Ct.Good M l) := hG
  have hn3 : n ≤ 300 := by have := hG.1; omega
  have HE : Hid (OwnI (w.alloc (.cells #[] 3)) w.heap.size (.slice (some ⟨w.heap.size, 0, none⟩) 0 0) 0 []) := ownI_none w
  have HIA : Hid (Ints (w.alloc (.cells #[] 3)) a l) := h.kept ((Below.refl _ _).alloc (Nat.le_refl _) _)
  clear h hn hG
  go_enter Try.func76, Try.ntmps76
  go_wp2_with (at_builtin; refine wpList_append_ints (by rfl) _ _ (by rfl) w.heap.size _ 0 [] (by rfl) HE.out a n c l (by rfl) HIA.out HN.out (by omega) (by simp) ?_)
  intro a1 c1 w1 hO1 hg1
  have HX1 : Hid (XRow w w1 a1 n l) := by
    have hO2 : OwnI w1 w.heap.size (.slice a1 n c1) n l := by simpa using hO1
    exact xrow_own hO2
  have HB1 : Hid (Below w.heap.size w w1) := ((Below.refl _ _).alloc (Nat.le_refl _) _).trans ((Below.refl _ _).grown hg1 (by simp) (fun j hj => (World.ownsRow.lt (show World.ownsRow _ _ _ _ _ _ _ from HE.out) j hj).1))
  have HT1 : Hid (Calls Try.prog 117 #[.slice a1 n c1] w1 (TrEndX w1 n l)) := l3Tree_is a1 c1 n l w1 HX1.out.ints HN.out hn3 HG.out.2.1
  clear hO1 hg1 HE HIA
  go_wp2_with fail
  refine HT1.out.mono ?_
  rintro e w2 ⟨⟨rfl, f, hO2, hl2, _⟩, b2⟩
  have hs1 := HB1.out.size
  have H2 : Hid (XRow w w2 a1 n l ∧ Own w2 w1.heap.size n (fun i => ((f i : Nat) : Int)) ∧ Ct.IsLens l f ∧ Below w.heap.size w w2 ∧ w.heap.size ≤ w1.heap.size) := ⟨HX1.out.kept b2, hO2, hl2, HB1.out.trans (b2.mono hs1), hs1⟩
  have hw12 : w1.heap.size ≤ w2.heap.size := b2.size
  clear hO2 hl2 b2 HT1 HX1 HB1
  generalize w1.heap.size = B1 at *
  go_wp2_with fail
  go_loopw [6] (fun v wr => ∃ (x : List Int) (b : Nat) (f : Nat → Nat), v = .slice (some ⟨b, 0, none⟩) n n ∧ Hid (XRow w wr a1 n x ∧ Own wr b n (fun i => ((f i : Nat) : Int)) ∧ Ct.IsLens x f ∧ Below w.heap.size w wr ∧ Ct.Good M x ∧ (∀ G, Ct.Fits M x G → Ct.Fits M l G))) (fun _ wr => memSum wr (.slice a1 n c1))
  case atStart => exact ⟨l, B1, f, rfl, H2.out.1, H2.out.2.1, H2.out.2.2.1, H2.out.2.2.2.1, HG.out, fun G h => h⟩
  case round =>
    clear H2 hw12 hs1
    obtain ⟨x, b, fx, rfl, HR⟩ := hrel
    have hdp : Cf.deep x ≤ 100000 := by
      have h1 : Cf.fin ((initT x x.length).map Ct.wt) ≤ Cf.maxh ((initT x x.length).map Ct.wt) + (initT x x.length).length := Cf.fin_le _ _ (by rw [List.length_map]; omega)
      have h2 : Cf.maxh ((initT x x.length).map Ct.wt) ≤ 0 := Cf.maxh_le _ (fun z hz => by
        obtain ⟨p, hp, rfl⟩ := List.mem_map.1 hz
        have := Cf.init_mem x x.length (Ct.nd p) (by rw [← Ct.init_nd]; exact List.mem_map.2 ⟨p, hp, rfl⟩)
        exact Nat.le_of_eq this.1)
      have h3 := initT_len x x.length
      have h4 := HR.out.1.1
      unfold Cf.deep
      rw [← Ct.init_nd, Ct.nd_wt]
      exact Ct.max_le (by omega) (by omega)
    have HMO : Hid (Calls Try.prog 111 #[.slice (some ⟨b, 0, none⟩) n n] wr fun e w' => (∃ m : Nat, e = .returned (.int .i64 (m : Int)) ∧ (∀ i, i < n → fx i ≤ m) ∧ (m = 0 ∨ ∃ i, i < n ∧ m = fx i)) ∧ w' = wr) := by
      refine l3Most_is _ n n fx wr ?_ (by omega) (fun i _ => Nat.le_trans (HR.out.2.2.1.deep i) hdp)
      refine .inr ⟨b, 0, rfl, HR.out.2.1.1, fun i hi => ?_⟩
      rw [List.length_map, List.length_range] at hi
      rw [Nat.zero_add, List.getElem_map, List.getElem_range]
      exact (HR.out.2.1.2 i hi).1
    clear hdp
    go_wp2_with fail
    refine HMO.out.mono ?_
    rintro e w3 ⟨⟨m, rfl, hm1, hm2⟩, hw3⟩
    replace hw3 := hw3.symm
    subst hw3
    clear HMO
    by_cases hgt : M < m
    · have dgt : decide ((m : Int) > (M : Int)) = true := by simp; omega
      have hex : ∃ i, i < n ∧ M < fx i := by
        rcases hm2 with h0 | ⟨i, hi, e⟩
        · omega
        · exact ⟨i, hi, by omega⟩
      have HLS : Hid (memSum wr (.slice a1 n c1) = Ct.tot x ∧ Ct.tot (Ct.hv x) < Ct.tot x) := ⟨memSum_is HR.out.1.ints HR.out.1.1, HR.out.2.2.2.2.1.less hM1 HR.out.2.2.1 (by rw [HR.out.1.1]; exact hex)⟩
      have HEX : Hid (∃ i, i < x.length ∧ M < fx i) := by rw [HR.out.1.1]; exact hex
      obtain ⟨g, rfl, hg, hOx⟩ : ∃ g, a1 = some ⟨g, 0, none⟩ ∧ w.heap.size ≤ g ∧ Own wr g n (fun i => x.getD i 0) := by
        rcases HR.out.1.2 with h0 | hgx
        · obtain ⟨i, hi, _⟩ := hex; omega
        · exact hgx
      have HOX : Hid (Own wr g n (fun i => x.getD i 0)) := hOx
      have HXL : Hid (x.length = n) := HR.out.1.1
      have HRX : Hid (Ct.IsLens x fx ∧ Below w.heap.size w wr ∧ Ct.Good M x ∧ (∀ G, Ct.Fits M x G → Ct.Fits M l G)) := HR.out.2.2
      clear hex hOx hm1 hm2 HR
      go_wp2_with fail
      go_loopw [7] (fun i wv => ∃ k : Nat, k ≤ n ∧ i = .int .i64 (k : Int) ∧ Hid (Own wv g n (hx x k) ∧ Below w.heap.size w wv)) (fun i _ => n - (intOf i).toNat)
      case atStart => exact ⟨0, Nat.zero_le _, rfl, HOX.out, HRX.out.2.1⟩
      case round =>
        obtain ⟨k, hk, rfl, HK⟩ := hrel
        by_cases hlt : k < n
        · have hki : (k : Int) < (n : Int) := by omega
          have hzk := HRX.out.2.2.1.2.1 k (by rw [HXL.out]; exact hlt)
          obtain ⟨hc, hfr⟩ := HK.out.1.2 k hlt
          have hcv : hx x k k = x.getD k 0 := by unfold hx; rw [if_neg (by omega)]
          rw [hcv] at hc
          obtain ⟨z, hz⟩ : ∃ z : Nat, x.getD k 0 = (z : Int) := ⟨(x.getD k 0).toNat, by omega⟩
          rw [hz] at hc
          obtain ⟨z1, hz1⟩ : ∃ z1, z1 = z + 1 := ⟨_, rfl⟩
          have ez : (z : Int) + 1 = (z1 : Int) := by omega
          obtain ⟨H, hH⟩ : ∃ H, H = (z + 1) / 2 := ⟨_, rfl⟩
          have eH : (z1 : Int).tdiv 2 = (H : Int) := by rw [hH, ← hz1]; rfl
          have eH2 : (z1 : Int) / 2 = (H : Int) := by omega
          have hzb : z1 ≤ 9001 := by omega
          have HK2 : Hid (Own (wr.setCell ⟨g, k, none⟩ (.int .i64 (H : Int))) g n (hx x (k + 1)) ∧ Below w.heap.size w (wr.setCell ⟨g, k, none⟩ (.int .i64 (H : Int)))) := by
            refine ⟨own_set (H : Int) HK.out.1 hlt ?_ (fun i hi hne => ?_), HK.out.2.setCell (p := ⟨g, k, none⟩) hg _⟩
            · unfold hx Ct.half
              rw [if_pos (by omega), hz]
              omega
            · unfold hx
              by_cases e : i < k
              · rw [if_pos e, if_pos (by omega)]
              · rw [if_neg e, if_neg (by omega)]
          clear HK hz hz1 hH hzk hcv
          go_wp2_with fail
          go_roundw
          case rel => exact ⟨k + 1, by omega, by go_num, HK2⟩
          case measure => simp [intOf]; omega
        · have hki : ¬ (k : Int) < (n : Int) := by omega
          obtain rfl : k = n := by omega
          have hxr : XRow w wr (some ⟨g, 0, none⟩) k (Ct.hv x) := by
            refine ⟨by rw [Ct.hv_len]; exact HXL.out, .inr ⟨g, rfl, hg, HK.out.1.1, fun i hi => ?_⟩⟩
            have h5 := HK.out.1.2 i hi
            have e5 : hx x k i = (Ct.hv x).getD i 0 := by
              unfold hx
              rw [if_pos hi, Ct.hv_get (by rw [HXL.out]; exact hi)]
            rw [e5] at h5
            exact h5
          have HXR : Hid (XRow w wr (some ⟨g, 0, none⟩) k (Ct.hv x) ∧ Below w.heap.size w wr) := ⟨hxr, HK.out.2⟩
          have HT4 : Hid (Calls Try.prog 117 #[.slice (some ⟨g, 0, none⟩) k c1] wr (TrEndX wr k (Ct.hv x))) := l3Tree_is _ c1 k (Ct.hv x) wr hxr.ints hxr.1 hn3 HRX.out.2.2.1.hv.2.1
          clear hxr HK
          go_wp2_with fail
          refine HT4.out.mono ?_
          rintro e w5 ⟨⟨rfl, f5, o5, l5, _⟩, b5⟩
          have hx5 := HXR.out.1.kept b5
          have HR5 : Hid (XRow w w5 (some ⟨g, 0, none⟩) k (Ct.hv x) ∧ Own w5 wr.heap.size k (fun i => ((f5 i : Nat) : Int)) ∧ Ct.IsLens (Ct.hv x) f5 ∧ Below w.heap.size w w5 ∧ Ct.Good M (Ct.hv x) ∧ (∀ G, Ct.Fits M (Ct.hv x) G → Ct.Fits M l G)) :=
            ⟨hx5, o5, l5, HXR.out.2.trans (b5.mono HXR.out.2.size), HRX.out.2.2.1.hv, fun G hG => HRX.out.2.2.2 G (.more HRX.out.1 HEX.out hG)⟩
          have HM5 : Hid (memSum w5 (.slice (some ⟨g, 0, none⟩) k c1) < Ct.tot x) := by
            show _ < _
            rw [memSum_is hx5.ints hx5.1]
            exact HLS.out.2
          have HM6 := HLS.out.1
          clear o5 l5 b5 hx5 HT4 HXR
          go_wp2_with fail
          go_roundw
          case rel => exact ⟨Ct.hv x, _, f5, rfl, HR5⟩
          case measure => rw [HM6]; exact HM5.out
    · have dgt : decide ((m : Int) > (M : Int)) = false := by simp; omega
      have HF1 : Hid (Ints wr (some ⟨b, 0, none⟩) ((List.range n).map (fun i => ((fx i : Nat) : Int)))) := by
        refine .inr ⟨b, 0, rfl, HR.out.2.1.1, fun i hi => ?_⟩
        rw [List.length_map, List.length_range] at hi
        rw [Nat.zero_add, List.getElem_map, List.getElem_range]
        exact (HR.out.2.1.2 i hi).1
      have HF2 : Hid (Ct.Fits M l fx) := HR.out.2.2.2.2.2 fx (.stop HR.out.2.2.1 (fun i hi => by
        have := hm1 i (by rw [← HR.out.1.1]; exact hi)
        omega))
      have HF3 : Hid (Below w.heap.size w wr) := HR.out.2.2.2.1
      clear HR hm1 hm2
      go_wp2_with fail
      go_ret
      exact ⟨⟨b, fx, rfl, HF1.out, HF2.out⟩, HF3.out⟩
end Go.Proofs.Ythfdnloeicbgkaa

/- What the lengths that are fitted are like (mathematics, and both sides' CodeFit told once more). -/
namespace Go.Proofs.Ythfdnloeicbgkaa
open Go.RowKit

def lens (n : Nat) (f : Nat → Nat) : List Int := (List.range n).map (fun i => ((f i : Nat) : Int))
theorem lens_len (n : Nat) (f : Nat → Nat) : (lens n f).length = n := by unfold lens; simp
theorem lens_get {n : Nat} {f : Nat → Nat} {i : Nat} (h : i < n) : (lens n f).getD i 0 = (f i : Int) := by
  unfold lens
  rw [List.getD_eq_getElem?_getD, List.getElem?_map, List.getElem?_range h]; rfl
theorem fitB_parts {l : List Int} {m : Int} (h : fitB l m = true) : l.length ≤ 300 ∧ 1 ≤ m ∧ m ≤ 15 ∧ (∀ i, i < l.length → 0 ≤ l.getD i 0 ∧ l.getD i 0 ≤ 9000) ∧ Ct.come l ≤ 2 ^ m.toNat ∧ oftenB l = true := by
  unfold fitB at h
  simp only [Bool.and_eq_true, decide_eq_true_eq] at h
  exact ⟨h.1, h.2.1, h.2.2.1, often_all h.2.2.2.1, h.2.2.2.2, h.2.2.2.1⟩
/-- the lengths at the end are those of a code, and leave nothing over -/
theorem fits_ok {l : List Int} {m : Int} (h : fitB l m = true) {f : Nat → Nat} (hf : Ct.Fits m.toNat l f) :
    Cd.okB (lens l.length f) = true ∧ (2 ≤ Ct.come l → fullB (lens l.length f) = true) ∧ (∀ i, i < l.length → (f i = 0 ↔ ¬ 0 < l.getD i 0) ∧ (f i : Int) ≤ m) := by
  obtain ⟨h1, h2, h3, h4, h5, h6⟩ := fitB_parts h
  obtain ⟨w, hm⟩ := hf.whole (by omega) h4
  have ht : Cd.taken (lens l.length f) ≤ 32768 := by
    unfold lens
    rw [Ct.taken_sg]
    by_cases c : 2 ≤ Ct.come l
    · rw [w.full c]; omega
    · exact w.one (by omega)
  have hv : Cd.valid (lens l.length f) = true := by
    unfold Cd.valid lens
    rw [List.all_eq_true]
    intro z hz
    obtain ⟨i, hi, rfl⟩ := List.mem_map.1 hz
    have := hm i (List.mem_range.1 hi)
    unfold Cd.okLen
    simp
    omega
  have hok : Cd.okB (lens l.length f) = true := by
    unfold Cd.okB
    rw [lens_len, hv]
    simp [h1, ht]
  refine ⟨hok, fun c => ?_, fun i hi => ⟨w.some i hi, by have := hm i hi; omega⟩⟩
  unfold fullB
  rw [hok, left_of_ok hok]
  have e : Cd.taken (lens l.length f) = 32768 := by
    unfold lens
    rw [Ct.taken_sg]
    exact w.full c
  rw [e]
  rfl
end Go.Proofs.Ythfdnloeicbgkaa

/- A text by codes of its own: what stands ahead of it (mathematics). -/
namespace Go.Proofs.Ythfdnloeicbgkaa
namespace Df
/-- lengths that are fitted -/
def FitL (m : Int) (zs L : List Int) : Prop := fitB zs m = true ∧ ∃ f, Ct.Fits m.toNat zs f ∧ L = lens zs.length f
theorem FitL.same {m : Int} {zs L L' : List Int} (h : FitL m zs L) (k : FitL m zs L') : L = L' := by
  obtain ⟨_, f, hf, rfl⟩ := h
  obtain ⟨_, g, hg, rfl⟩ := k
  rw [hf.same hg]
theorem FitL.len {m : Int} {zs L : List Int} (h : FitL m zs L) : L.length = zs.length := by
  obtain ⟨_, f, _, rfl⟩ := h
  exact lens_len _ _
theorem FitL.ok {m : Int} {zs L : List Int} (h : FitL m zs L) : Cd.okB L = true := by
  obtain ⟨hb, f, hf, rfl⟩ := h
  exact (fits_ok hb hf).1
theorem FitL.le {m : Int} {zs L : List Int} (h : FitL m zs L) {i : Nat} (hi : i < zs.length) : 0 ≤ L.getD i 0 ∧ L.getD i 0 ≤ m ∧ (L.getD i 0 = 0 ↔ ¬ 0 < zs.getD i 0) := by
  obtain ⟨hb, f, hf, rfl⟩ := h
  obtain ⟨h1, h2⟩ := (fits_ok hb hf).2.2 i hi
  rw [lens_get hi]
  refine ⟨by omega, h2, ?_⟩
  rw [← h1]
  omega
theorem initT_one (zs : List Int) (k : Nat) : (initT zs (k + 1)).length = (initT zs k).length + (if 0 < zs.getD k 0 then 1 else 0) := by
  rw [initT]
  split <;> simp
theorem initT_le' (zs : List Int) : ∀ k, (initT zs k).length ≤ k
  | 0 => Nat.le_refl _
  | k + 1 => by
    have := initT_le' zs k
    rw [initT_one]
    split <;> omega
theorem fitB_yes {zs : List Int} {m : Int} (hm1 : 1 ≤ m) (hm : m ≤ 15) (hn : zs.length ≤ 300) (hz : ∀ i, i < zs.length → 0 ≤ zs.getD i 0 ∧ zs.getD i 0 ≤ 9000) (hc : zs.length ≤ 2 ^ m.toNat) : fitB zs m = true := by
  have h1 : oftenB zs = true := by
    unfold oftenB
    rw [List.all_eq_true]
    intro z hz'
    obtain ⟨i, hi, rfl⟩ := List.mem_iff_getElem.1 hz'
    have := hz i hi
    rw [List.getD_eq_getElem?_getD, List.getElem?_eq_getElem hi] at this
    unfold oneB
    simpa using this
  have h2 : Ct.come zs ≤ 2 ^ m.toNat := Nat.le_trans (initT_le' zs _) hc
  unfold fitB
  rw [h1]
  simp [hn, hm1, hm, h2]
theorem good_of {zs : List Int} {m : Int} (h : fitB zs m = true) : Ct.Good m.toNat zs := by
  obtain ⟨h1, _, _, h4, h5, _⟩ := fitB_parts h
  exact ⟨h1, h4, h5⟩
/-- what stands in a list of lengths as symbols -/
def RunOk (t : Tk) : Prop := 0 ≤ t.1 ∧ t.1 ≤ 18 ∧ 0 ≤ t.2.1 ∧ t.2.1 ≤ 127 ∧ (t.2.2 = 0 ∧ t.2.1 = 0 ∨ t.2.2 = 2 ∧ t.2.1 < 4 ∨ t.2.2 = 3 ∧ t.2.1 < 8 ∨ t.2.2 = 7 ∧ t.2.1 < 128)
theorem run_ok {l : List Int} {p : Nat} (h : ∀ i, 0 ≤ l.getD i 0 ∧ l.getD i 0 ≤ 15) : RunOk (run l p).1 := by
  have h1 := h p
  unfold run
  split
  · refine ⟨?_, ?_, ?_, ?_, ?_⟩ <;> dsimp only <;> omega
  · split
    · rename_i h2 h3
      have h4 : ¬ 11 ≤ alike l p := fun h5 => h2 ⟨h3.1, h5⟩
      refine ⟨?_, ?_, ?_, ?_, ?_⟩ <;> dsimp only <;> omega
    · split
      · refine ⟨?_, ?_, ?_, ?_, ?_⟩ <;> dsimp only <;> omega
      · refine ⟨?_, ?_, ?_, ?_, ?_⟩ <;> dsimp only <;> omega
theorem runsF_ok {l : List Int} (h : ∀ i, 0 ≤ l.getD i 0 ∧ l.getD i 0 ≤ 15) : ∀ f p, ∀ t ∈ runsF l f p, RunOk t
  | 0, _, t, ht => by simp [runsF] at ht
  | f + 1, p, t, ht => by
    unfold runsF at ht
    split at ht
    · rcases List.mem_cons.1 ht with rfl | ht
      · exact run_ok h
      · exact runsF_ok h f _ t ht
    · simp at ht
theorem runs_ok {l : List Int} (h : ∀ i, 0 ≤ l.getD i 0 ∧ l.getD i 0 ≤ 15) : ∀ t ∈ runs l, RunOk t := runsF_ok h _ _
/-- how often each symbol of lengths comes -/
def cnt3 (R : List Tk) : List Int := R.foldl (fun a t => inc a t.1.toNat) (List.replicate 19 0)
theorem cnt3_snoc (R : List Tk) (t : Tk) : cnt3 (R ++ [t]) = inc (cnt3 R) t.1.toNat := by unfold cnt3; rw [List.foldl_append]; rfl
theorem cnt3_len (R : List Tk) : (cnt3 R).length = 19 := by
  unfold cnt3
  rw [fold_len (fun a t => inc_len a _)]
  simp
theorem cnt3_cnt (R : List Tk) : ∀ k, k ≤ R.length → Cnt k (cnt3 (R.take k))
  | 0, _ => cnt_zero 19
  | k + 1, h => by
    rw [List.take_succ_eq_append_getElem h, cnt3_snoc]
    exact (cnt3_cnt R k (by omega)).inc _
def ordered (BY : List Int) : List Int := lord.map (fun i => BY.getD i 0)
theorem ordered_len (BY : List Int) : (ordered BY).length = 19 := by simp [ordered, lord]
/-- the lengths of both codes -/
def joined (LS LD : List Int) : List Int := LS.take (used LS 257) ++ LD.take (used LD 1)
/-- a symbol of lengths and its further bits, by their code -/
def runBits (BY : List Int) (R : List Tk) : List (Int × Int) := R.flatMap (fun t => [Cp.bit BY t.1.toNat, t.2])
theorem runBits_snoc (BY : List Int) (R : List Tk) (t : Tk) : runBits BY (R ++ [t]) = runBits BY R ++ [((Cp.bit BY t.1.toNat).1, (Cp.bit BY t.1.toNat).2), (t.2.1, t.2.2)] := by simp [runBits]
theorem runBits_len (BY : List Int) : ∀ R : List Tk, (runBits BY R).length = 2 * R.length
  | [] => rfl
  | t :: R => by
    have h := runBits_len BY R
    have e : runBits BY (t :: R) = [Cp.bit BY t.1.toNat, t.2] ++ runBits BY R := by simp [runBits]
    rw [e, List.length_append, h, List.length_cons]
    simp
    omega
def threes (l : List Int) : List (Int × Int) := l.map (fun z => (z, 3))
def top (LS LD BY : List Int) : List (Int × Int) := [(((used LS 257 - 257 : Nat) : Int), 5), (((used LD 1 - 1 : Nat) : Int), 5), (((used (ordered BY) 4 - 4 : Nat) : Int), 4)]
/-- the two codes, ahead of a block -/
def head (LS LD BY : List Int) : List (Int × Int) := top LS LD BY ++ threes ((ordered BY).take (used (ordered BY) 4)) ++ runBits BY (runs (joined LS LD))
def own (LS LD BY : List Int) (l : List Tk) : List (Int × Int) := head LS LD BY ++ body LS LD l
/-- the codes that are made for tokens -/
def IsOwn (l : List Tk) (LS LD BY : List Int) : Prop := FitL 15 (oftS l) LS ∧ FitL 15 (cntD l) LD ∧ FitL 7 (cnt3 (runs (joined LS LD))) BY
theorem IsOwn.same {l : List Tk} {LS LD BY LS' LD' BY' : List Int} (h : IsOwn l LS LD BY) (k : IsOwn l LS' LD' BY') : own LS LD BY l = own LS' LD' BY' l := by
  obtain rfl := h.1.same k.1
  obtain rfl := h.2.1.same k.2.1
  obtain rfl := h.2.2.same k.2.2
  rfl
theorem FitL.all {m : Int} {zs L : List Int} (h : FitL m zs L) (hm : m ≤ 15) (i : Nat) : 0 ≤ L.getD i 0 ∧ L.getD i 0 ≤ 15 := by
  by_cases hi : i < zs.length
  · have := h.le hi; omega
  · rw [List.getD_eq_getElem?_getD, List.getElem?_eq_none (by rw [h.len]; omega)]
    simp
theorem getD_take (l : List Int) (n i : Nat) : (l.take n).getD i 0 = if i < n then l.getD i 0 else 0 := by
  rw [List.getD_eq_getElem?_getD, List.getD_eq_getElem?_getD, List.getElem?_take]
  split <;> rfl
theorem joined_all {LS LD : List Int} (h1 : ∀ i, 0 ≤ LS.getD i 0 ∧ LS.getD i 0 ≤ 15) (h2 : ∀ i, 0 ≤ LD.getD i 0 ∧ LD.getD i 0 ≤ 15) (i : Nat) : 0 ≤ (joined LS LD).getD i 0 ∧ (joined LS LD).getD i 0 ≤ 15 := by
  unfold joined
  rw [List.getD_eq_getElem?_getD, List.getElem?_append]
  split
  · rw [← List.getD_eq_getElem?_getD, getD_take]
    split
    · exact h1 i
    · omega
  · rw [← List.getD_eq_getElem?_getD, getD_take]
    split
    · exact h2 _
    · omega
theorem joined_len {LS LD : List Int} : (joined LS LD).length ≤ LS.length + LD.length := by
  unfold joined
  rw [List.length_append, List.length_take, List.length_take]
  omega
end Df
end Go.Proofs.Ythfdnloeicbgkaa

/- How many bits a text takes, packed: never too many (mathematics). -/
namespace Go.Proofs.Ythfdnloeicbgkaa
namespace Df
/-- how many bits in all -/
def sz : List (Int × Int) → Nat
  | [] => 0
  | p :: l => p.2.toNat + sz l
theorem sz_app : ∀ l m : List (Int × Int), sz (l ++ m) = sz l + sz m
  | [], m => by simp [sz]
  | p :: l, m => by
    show p.2.toNat + sz (l ++ m) = p.2.toNat + sz l + sz m
    rw [sz_app l m]
    omega
theorem tot_sz : ∀ (l : List (Int × Int)) (i : Nat), Bp.tot l i ≤ sz l
  | [], i => by simp [Bp.tot, sz]
  | p :: l, 0 => by simp [Bp.tot]
  | p :: l, i + 1 => by
    have h := tot_sz l i
    unfold Bp.tot at h ⊢
    rw [List.take_succ_cons, List.map_cons, List.sum_cons]
    show _ ≤ p.2.toNat + sz l
    omega
theorem fits_of {l : List (Int × Int)} (h : ∀ p ∈ l, Bp.Ok p) (ht : sz l ≤ 72000) : Bp.Fits l l.length := fun _ hj _ => ⟨h _ (List.getElem_mem hj), Nat.le_trans (tot_sz l _) ht⟩
theorem bit_ok {L : List Int} (h : Cd.okB L = true) {s : Nat} (hs : s < L.length) : Bp.Ok (Cp.bit L s) := by
  obtain ⟨V, S, hV, hS, _, hb⟩ := Cp.parts h s hs
  rw [Cp.bit_of hV hS]
  exact ⟨by show (0 : Int) ≤ (S : Int); omega, by show (S : Int) ≤ 24; omega, by show (0 : Int) ≤ ((turned V S : Nat) : Int); omega, turned_lt V S⟩
theorem dsBit_all {x : Nat} (h : x ≤ 5000) (h1 : 1 ≤ x) : (dsN (dsSym x)).1 ≤ x ∧ x - (dsN (dsSym x)).1 < 2 ^ (dsN (dsSym x)).2 := by
  have hl := dsSym_lt x
  have h0 : (dsN (dsSym x)).1 ≤ x := down_is (f := fun k => (dsN k).1) (by show 1 ≤ x; exact h1) 29
  refine ⟨h0, ?_⟩
  have hn : dsSym x = 29 ∨ x < (dsN (dsSym x + 1)).1 := by
    unfold dsSym
    have key : ∀ k, down (fun k => (dsN k).1) x k = k ∨ x < (dsN (down (fun k => (dsN k).1) x k + 1)).1 := by
      intro k
      induction k with
      | zero => exact .inl rfl
      | succ k ih =>
        by_cases hc : (dsN (k + 1)).1 ≤ x
        · left; exact down_yes (f := fun k => (dsN k).1) hc
        · rw [down_no (f := fun k => (dsN k).1) hc]
          rcases ih with e | e
          · right; rw [e]; omega
          · exact .inr e
    exact key 29
  have step : ∀ k, k < 29 → (dsN (k + 1)).1 = (dsN k).1 + 2 ^ (dsN k).2 := by decide +kernel
  rcases hn with e | e
  · rw [e] at h0 ⊢
    have : (dsN 29).1 = 24577 := by decide
    omega
  · have hs : dsSym x < 29 := by
      rcases Nat.lt_or_ge (dsSym x) 29 with q | q
      · exact q
      · have e9 : dsSym x = 29 := by omega
        rw [e9] at h0
        have : (dsN 29).1 = 24577 := by decide
        omega
    have := step _ hs
    omega
/-- the numbers of how often, summed up with some weight -/
def wt (F : Nat → Nat) (a : List Int) : Nat := Ct.sg (fun i => (a.getD i 0).toNat * F i) a.length
theorem wt_inc (F : Nat → Nat) {a : List Int} (h : ∀ i, 0 ≤ a.getD i 0) {i : Nat} (hi : i < a.length) : wt F (inc a i) = wt F a + F i := by
  unfold wt
  rw [inc_len]
  have e : ∀ j, j < a.length → ((inc a i).getD j 0).toNat * F j = (a.getD j 0).toNat * F j + (if j = i then F i else 0) := fun j hj => by
    unfold inc
    rw [getD_set]
    have := h i
    by_cases q : i = j
    · subst q
      rw [if_pos ⟨rfl, hi⟩, if_pos rfl, show (a.getD i 0 + 1).toNat = (a.getD i 0).toNat + 1 by omega, Nat.add_mul, Nat.one_mul]
    · rw [if_neg (fun z => q z.1), if_neg (fun z => q z.symm)]; rfl
  rw [Ct.sg_same e, Ct.sg_add, Ct.sg_one, if_pos hi]
theorem inc_pos {a : List Int} (h : ∀ i, 0 ≤ a.getD i 0) (i : Nat) : ∀ j, 0 ≤ (inc a i).getD j 0 := fun j => by
  unfold inc
  rw [getD_set]
  have h1 := h i
  have h2 := h j
  split <;> omega
def sumS (F : Nat → Nat) : List Tk → Nat
  | [] => 0
  | t :: l => F (sym t) + sumS F l
def sumD (G : Nat → Nat) : List Tk → Nat
  | [] => 0
  | t :: l => (if t.2.1 = 0 then 0 else G (dsSym t.2.2.toNat)) + sumD G l
theorem wt_foldS (F : Nat → Nat) : ∀ (l : List Tk) (a : List Int), (∀ t ∈ l, TkOk t) → a.length = 286 → (∀ i, 0 ≤ a.getD i 0) → wt F (l.foldl incS a) = wt F a + sumS F l
  | [], a, _, _, _ => rfl
  | t :: l, a, h, hl, hp => by
    have h1 := wt_foldS F l (incS a t) (fun u hu => h u (List.mem_cons_of_mem _ hu)) (by unfold incS; rw [inc_len, hl]) (inc_pos hp _)
    have hs := (sym_ok (h t (List.mem_cons_self ..))).1
    rw [List.foldl_cons, h1]
    unfold incS
    rw [wt_inc F hp (by omega)]
    show _ = _ + (F (sym t) + sumS F l)
    omega
theorem wt_foldD (G : Nat → Nat) : ∀ (l : List Tk) (a : List Int), a.length = 30 → (∀ i, 0 ≤ a.getD i 0) → wt G (l.foldl incD a) = wt G a + sumD G l
  | [], a, _, _ => rfl
  | t :: l, a, hl, hp => by
    have hs := dsSym_lt t.2.2.toNat
    by_cases h0 : t.2.1 = 0
    · have e : incD a t = a := by unfold incD; rw [if_pos h0]
      have h1 := wt_foldD G l a hl hp
      rw [List.foldl_cons, e, h1]
      show _ = _ + ((if t.2.1 = 0 then 0 else _) + sumD G l)
      rw [if_pos h0]
      omega
    · have e : incD a t = inc a (dsSym t.2.2.toNat) := by unfold incD; rw [if_neg h0]
      have h1 := wt_foldD G l (inc a (dsSym t.2.2.toNat)) (by rw [inc_len, hl]) (inc_pos hp _)
      rw [List.foldl_cons, e, h1, wt_inc G hp (by omega)]
      show _ = _ + ((if t.2.1 = 0 then 0 else _) + sumD G l)
      rw [if_neg h0]
      omega
theorem fold_set : ∀ (l : List Tk) (a : List Int), (∀ t ∈ l, TkOk t) → (l.foldl incS a).set 256 1 = l.foldl incS (a.set 256 1)
  | [], _, _ => rfl
  | t :: l, a, h => by
    rw [List.foldl_cons, List.foldl_cons, fold_set l _ (fun u hu => h u (List.mem_cons_of_mem _ hu))]
    unfold incS
    rw [inc_set 1 (sym_ok (h t (List.mem_cons_self ..))).2]
theorem wt_zero (F : Nat → Nat) (n : Nat) : wt F (List.replicate n 0) = 0 := by
  unfold wt
  rw [Ct.sg_same (h := fun _ => 0) (fun i hi => by
    rw [List.length_replicate] at hi
    rw [List.getD_eq_getElem?_getD, List.getElem?_replicate, if_pos hi]
    show (0 : Int).toNat * F i = 0
    rw [show (0 : Int).toNat = 0 from rfl, Nat.zero_mul]), Ct.sg_zero]
theorem rep_pos (n : Nat) : ∀ i, 0 ≤ (List.replicate n (0 : Int)).getD i 0 := fun i => by
  rw [List.getD_eq_getElem?_getD, List.getElem?_replicate]
  split <;> decide
theorem wt_oft (F : Nat → Nat) (l : List Tk) (h : ∀ t ∈ l, TkOk t) : wt F (oftS l) = F 256 + sumS F l := by
  unfold oftS cntS
  have e : (List.replicate 286 (0 : Int)).set 256 1 = inc (List.replicate 286 0) 256 := rfl
  rw [fold_set l _ h, e, wt_foldS F l _ h (by rw [inc_len, List.length_replicate]) (inc_pos (rep_pos 286) _), wt_inc F (rep_pos 286) (by rw [List.length_replicate]; omega), wt_zero]
  omega
theorem wt_cnt (G : Nat → Nat) (l : List Tk) : wt G (cntD l) = sumD G l := by
  unfold cntD
  rw [wt_foldD G l _ (by rw [List.length_replicate]) (rep_pos 30), wt_zero]
  omega
theorem sumS_one : ∀ l : List Tk, sumS (fun _ => 1) l = l.length
  | [] => rfl
  | t :: l => by
    show 1 + sumS _ l = l.length + 1
    rw [sumS_one l]
    omega
theorem tot9_wt (a : List Int) : Ct.tot9 a = wt (fun _ => 1) a := by
  unfold Ct.tot9 wt
  exact Ct.sg_same (fun i _ => by rw [Nat.mul_one])
/-- how many tokens tell what comes again -/
def again (l : List Tk) : Nat := sumD (fun _ => 1) l
theorem again_le : ∀ l : List Tk, again l ≤ l.length
  | [] => Nat.le_refl _
  | t :: l => by
    have := again_le l
    show (if t.2.1 = 0 then 0 else 1) + again l ≤ l.length + 1
    split <;> omega
/-- all bits of the tokens -/
theorem sz_toks {LS LD : List Int} : ∀ {l : List Tk}, (∀ t ∈ l, TkOk t) → sz (toks LS LD l) ≤ sumS (fun i => (LS.getD i 0).toNat) l + sumD (fun i => (LD.getD i 0).toNat) l + 18 * again l
  | [], _ => Nat.zero_le _
  | t :: l, h => by
    have ih := sz_toks (LS := LS) (LD := LD) (fun u hu => h u (List.mem_cons_of_mem _ hu))
    have e : toks LS LD (t :: l) = tok LS LD t ++ toks LS LD l := by simp [toks]
    rw [e, sz_app]
    show _ ≤ (_ + sumS _ l) + ((if t.2.1 = 0 then 0 else _) + sumD _ l) + 18 * ((if t.2.1 = 0 then 0 else 1) + again l)
    by_cases h0 : t.2.1 = 0
    · have es : sym t = t.1.toNat := by unfold sym; rw [if_pos h0]
      have et : sz (tok LS LD t) = (LS.getD (sym t) 0).toNat := by
        unfold tok
        rw [if_pos h0, es]
        rfl
      rw [if_pos h0, if_pos h0, et]
      dsimp only
      omega
    · have es : sym t = 257 + szSym t.2.1.toNat := by unfold sym; rw [if_neg h0]
      have h5 := (szN_all _ (szSym_lt t.2.1.toNat)).2.2
      have h13 := (dsN_all _ (dsSym_lt t.2.2.toNat)).2.2
      have et : sz (tok LS LD t) = (LS.getD (sym t) 0).toNat + ((szN (szSym t.2.1.toNat)).2 + ((LD.getD (dsSym t.2.2.toNat) 0).toNat + (dsN (dsSym t.2.2.toNat)).2)) := by
        unfold tok
        rw [if_neg h0, es]
        rfl
      rw [if_neg h0, if_neg h0, et]
      dsimp only
      omega
theorem sz_body {LS LD : List Int} {l : List Tk} (h : ∀ t ∈ l, TkOk t) : sz (body LS LD l) ≤ wt (fun i => (LS.getD i 0).toNat) (oftS l) + wt (fun i => (LD.getD i 0).toNat) (cntD l) + 18 * again l := by
  have h1 := sz_toks (LS := LS) (LD := LD) h
  unfold body
  rw [sz_app, wt_oft _ l h, wt_cnt]
  show _ + ((LS.getD 256 0).toNat + 0) ≤ _
  omega
theorem wt_lens (zs : List Int) (f : Nat → Nat) : wt (fun i => ((lens zs.length f).getD i 0).toNat) zs = Ct.bits zs f := by
  unfold wt Ct.bits
  exact Ct.sg_same (fun i hi => by
    show (zs.getD i 0).toNat * ((lens zs.length f).getD i 0).toNat = _
    rw [lens_get hi]
    rfl)
/-- tokens of a text that is not too long -/
structure Small (l : List Tk) : Prop where
  ok : ∀ t ∈ l, TkOk t
  few : l.length + 2 * again l ≤ 5000
theorem wtS_le {l : List Tk} (h : Small l) {LS : List Int} (hf : FitL 15 (oftS l) LS) : wt (fun i => (LS.getD i 0).toNat) (oftS l) ≤ 9 * (l.length + 1) + (if l.length + 1 < 2584 then 0 else 7722) := by
  obtain ⟨hb, f, hF, rfl⟩ := hf
  obtain ⟨h1, _, _, h4, _, _⟩ := fitB_parts hb
  have ht : Ct.tot9 (oftS l) = l.length + 1 := by rw [tot9_wt, wt_oft _ l h.ok, sumS_one]; omega
  have hlen := oftS_len l
  rw [wt_lens]
  split
  · rename_i hs
    have := Ct.bits_flat (Ct.Fits.few hF (by rw [ht]; exact hs)) (c := 9) (by omega) (by omega) (by rw [hlen]; decide)
    omega
  · have := h.few
    have h9 := Ct.Fits.bits hF (fun i hi => (h4 i hi).1) h1 (by rw [ht]; omega)
    rw [ht, hlen] at h9
    omega
theorem wtD_le {l : List Tk} (h : Small l) {LD : List Int} (hf : FitL 15 (cntD l) LD) : wt (fun i => (LD.getD i 0).toNat) (cntD l) ≤ 5 * again l := by
  obtain ⟨hb, f, hF, rfl⟩ := hf
  have ht : Ct.tot9 (cntD l) = again l := by rw [tot9_wt, wt_cnt]; rfl
  have hlen := cntD_len l
  have h1 := h.few
  have h2 := again_le l
  rw [wt_lens]
  have := Ct.bits_flat (Ct.Fits.few hF (by rw [ht]; omega)) (c := 5) (by omega) (by omega) (by rw [hlen]; decide)
  omega
theorem sz_threes : ∀ l : List Int, sz (threes l) = 3 * l.length
  | [] => rfl
  | z :: l => by
    show (3 : Int).toNat + sz (threes l) = 3 * (l.length + 1)
    rw [sz_threes l, show (3 : Int).toNat = 3 from rfl]
    omega
theorem sz_runBits {BY : List Int} (hB : ∀ i, BY.getD i 0 ≤ 7) : ∀ {R : List Tk}, (∀ t ∈ R, RunOk t) → sz (runBits BY R) ≤ 14 * R.length
  | [], _ => Nat.zero_le _
  | t :: R, h => by
    have ih := sz_runBits hB (fun u hu => h u (List.mem_cons_of_mem _ hu))
    have e : runBits BY (t :: R) = [Cp.bit BY t.1.toNat, t.2] ++ runBits BY R := by simp [runBits]
    have h1 := hB t.1.toNat
    obtain ⟨_, _, _, _, h2⟩ := h t (List.mem_cons_self ..)
    rw [e, sz_app, List.length_cons]
    show (BY.getD t.1.toNat 0).toNat + (t.2.2.toNat + 0) + _ ≤ _
    omega
theorem bits_ok_runs {BY : List Int} (hB : Cd.okB BY = true) (hl : BY.length = 19) {R : List Tk} (h : ∀ t ∈ R, RunOk t) : ∀ p ∈ runBits BY R, Bp.Ok p := fun p hp => by
  unfold runBits at hp
  obtain ⟨t, ht, hp⟩ := List.mem_flatMap.1 hp
  obtain ⟨h0, h18, h2, h3, h4⟩ := h t ht
  rcases List.mem_cons.1 hp with rfl | hp
  · exact bit_ok hB (by omega)
  · obtain rfl := List.mem_singleton.1 hp
    refine ⟨by omega, by omega, h2, ?_⟩
    rcases h4 with ⟨e, e2⟩ | ⟨e, e2⟩ | ⟨e, e2⟩ | ⟨e, e2⟩ <;> rw [e] <;> simp <;> omega
theorem toks_ok {LS LD : List Int} (h1 : Cd.okB LS = true) (h2 : Cd.okB LD = true) (l1 : 286 ≤ LS.length) (l2 : 30 ≤ LD.length) {l : List Tk} (h : ∀ t ∈ l, TkOk t) : ∀ p ∈ body LS LD l, Bp.Ok p := fun p hp => by
  unfold body at hp
  rcases List.mem_append.1 hp with hp | hp
  · unfold toks at hp
    obtain ⟨t, ht, hp⟩ := List.mem_flatMap.1 hp
    have hs := (sym_ok (h t ht)).1
    unfold tok at hp
    rcases h t ht with ⟨h0, h3, h4⟩ | ⟨h3, h4, h5, h6⟩
    · rw [if_pos h0] at hp
      obtain rfl := List.mem_singleton.1 hp
      exact bit_ok h1 (by omega)
    · rw [if_neg (by omega)] at hp
      have hd := dsSym_lt t.2.2.toNat
      have hz := szSym_lt t.2.1.toNat
      rcases List.mem_cons.1 hp with rfl | hp
      · exact bit_ok h1 (by omega)
      rcases List.mem_cons.1 hp with rfl | hp
      · obtain ⟨q1, q2⟩ := szBit_all t.2.1.toNat (by omega) (by omega)
        have q3 := (szN_all _ hz).2.2
        exact ⟨by show (0 : Int) ≤ ((_ : Nat) : Int); omega, by show ((_ : Nat) : Int) ≤ 24; omega, by show (0 : Int) ≤ ((_ : Nat) : Int); omega, q2⟩
      rcases List.mem_cons.1 hp with rfl | hp
      · exact bit_ok h2 (by omega)
      obtain rfl := List.mem_singleton.1 hp
      obtain ⟨q1, q2⟩ := dsBit_all (x := t.2.2.toNat) (by omega) (by omega)
      have q3 := (dsN_all _ hd).2.2
      exact ⟨by show (0 : Int) ≤ ((_ : Nat) : Int); omega, by show ((_ : Nat) : Int) ≤ 24; omega, by show (0 : Int) ≤ ((_ : Nat) : Int); omega, q2⟩
  · obtain rfl := List.mem_singleton.1 hp
    exact bit_ok h1 (by omega)
theorem own_fits {l : List Tk} (h : Small l) {LS LD BY : List Int} (ho : IsOwn l LS LD BY) {v : Int} (hv : v = 1 ∨ v = 2) : Bp.Fits ([(1, 1), (v, 2)] ++ own LS LD BY l) ([(1, 1), (v, 2)] ++ own LS LD BY l).length := by
  obtain ⟨f1, f2, f3⟩ := ho
  have hLS : LS.length = 286 := by rw [f1.len, oftS_len]
  have hLD : LD.length = 30 := by rw [f2.len, cntD_len]
  have hBY : BY.length = 19 := by rw [f3.len, cnt3_len]
  have hR : ∀ t ∈ runs (joined LS LD), RunOk t := runs_ok (joined_all (f1.all (by omega)) (f2.all (by omega)))
  have hRl := runs_len (joined LS LD)
  have hJ := joined_len (LS := LS) (LD := LD)
  have hBm : ∀ i, BY.getD i 0 ≤ 7 := fun i => by
    by_cases hi : i < (cnt3 (runs (joined LS LD))).length
    · exact (f3.le hi).2.1
    · rw [List.getD_eq_getElem?_getD, List.getElem?_eq_none (by rw [f3.len]; omega)]
      decide
  have hu1 := used_le LS 257
  have hu2 := used_le LD 1
  have hu3 := used_le (ordered BY) 4
  rw [ordered_len] at hu3
  have hk : ((ordered BY).take (used (ordered BY) 4)).length = used (ordered BY) 4 := by rw [List.length_take, ordered_len]; omega
  refine fits_of (fun p hp => ?_) ?_
  · rcases List.mem_append.1 hp with hp | hp
    · rcases List.mem_cons.1 hp with rfl | hp
      · exact ⟨by decide, by decide, by decide, by decide⟩
      · obtain rfl := List.mem_singleton.1 hp
        rcases hv with rfl | rfl <;> exact ⟨by decide, by decide, by decide, by decide⟩
    unfold own head at hp
    rcases List.mem_append.1 hp with hp | hp
    · rcases List.mem_append.1 hp with hp | hp
      · rcases List.mem_append.1 hp with hp | hp
        · unfold top at hp
          rcases List.mem_cons.1 hp with rfl | hp
          · refine ⟨by show (0 : Int) ≤ 5; decide, by show (5 : Int) ≤ 24; decide, by dsimp only; omega, ?_⟩
            show (((used LS 257 - 257 : Nat) : Int)).toNat < 32
            omega
          rcases List.mem_cons.1 hp with rfl | hp
          · refine ⟨by show (0 : Int) ≤ 5; decide, by show (5 : Int) ≤ 24; decide, by dsimp only; omega, ?_⟩
            show (((used LD 1 - 1 : Nat) : Int)).toNat < 32
            omega
          obtain rfl := List.mem_singleton.1 hp
          refine ⟨by show (0 : Int) ≤ 4; decide, by show (4 : Int) ≤ 24; decide, by dsimp only; omega, ?_⟩
          show (((used (ordered BY) 4 - 4 : Nat) : Int)).toNat < 16
          omega
        · unfold threes at hp
          obtain ⟨z, hz, rfl⟩ := List.mem_map.1 hp
          have hz2 := List.mem_of_mem_take hz
          unfold ordered at hz2
          obtain ⟨i, _, rfl⟩ := List.mem_map.1 hz2
          have h7 := hBm i
          have h0 := (f3.all (by omega) i).1
          refine ⟨by show (0 : Int) ≤ 3; decide, by show (3 : Int) ≤ 24; decide, h0, ?_⟩
          show (BY.getD i 0).toNat < 8
          omega
      · exact bits_ok_runs f3.ok hBY hR p hp
    · exact toks_ok f1.ok f2.ok (by omega) (by omega) h.ok p hp
  · have s1 := sz_runBits hBm hR
    have s2 := sz_body (LS := LS) (LD := LD) h.ok
    have s3 := wtS_le h f1
    have s4 := wtD_le h f2
    have s5 := sz_threes ((ordered BY).take (used (ordered BY) 4))
    have hf := h.few
    rw [sz_app]
    unfold own head
    rw [sz_app, sz_app, sz_app]
    have e1 : sz [((1 : Int), (1 : Int)), (v, 2)] = 3 := rfl
    have e2 : sz (top LS LD BY) = 14 := rfl
    rw [e1, e2]
    split at s3 <;> omega
/-- where no code has a length above 9, and none of distances one above 5 -/
theorem flat_fits {l : List Tk} (h : Small l) {LS LD : List Int} (h1 : Cd.okB LS = true) (h2 : Cd.okB LD = true) (l1 : 286 ≤ LS.length) (l2 : 30 ≤ LD.length) (m1 : ∀ i, LS.getD i 0 ≤ 9) (m2 : ∀ i, LD.getD i 0 ≤ 5) : Bp.Fits ([(1, 1), (1, 2)] ++ body LS LD l) ([(1, 1), (1, 2)] ++ body LS LD l).length := by
  refine fits_of (fun p hp => ?_) ?_
  · rcases List.mem_append.1 hp with hp | hp
    · rcases List.mem_cons.1 hp with rfl | hp
      · exact ⟨by decide, by decide, by decide, by decide⟩
      · obtain rfl := List.mem_singleton.1 hp
        exact ⟨by decide, by decide, by decide, by decide⟩
    · exact toks_ok h1 h2 l1 l2 h.ok p hp
  · have s2 := sz_toks (LS := LS) (LD := LD) h.ok
    have a1 : ∀ l : List Tk, sumS (fun i => (LS.getD i 0).toNat) l ≤ 9 * l.length := fun l => by
      induction l with
      | nil => exact Nat.zero_le _
      | cons t l ih =>
        have := m1 (sym t)
        show (LS.getD (sym t) 0).toNat + sumS _ l ≤ 9 * (l.length + 1)
        omega
    have a2 : ∀ l : List Tk, sumD (fun i => (LD.getD i 0).toNat) l ≤ 5 * again l := fun l => by
      induction l with
      | nil => exact Nat.zero_le _
      | cons t l ih =>
        have := m2 (dsSym t.2.2.toNat)
        show (if t.2.1 = 0 then 0 else (LD.getD (dsSym t.2.2.toNat) 0).toNat) + sumD _ l ≤ 5 * ((if t.2.1 = 0 then 0 else 1) + again l)
        split <;> omega
    have b1 := a1 l
    have b2 := a2 l
    have b3 := m1 256
    have hf := h.few
    unfold body
    rw [sz_app, sz_app]
    have e1 : sz [((1 : Int), (1 : Int)), (1, 2)] = 3 := rfl
    have e2 : sz [Cp.bit LS 256] = (LS.getD 256 0).toNat := by show _ + 0 = _; rfl
    rw [e1, e2]
    omega
end Df
namespace Ty
theorem tok_ok {s : ByteArray} (hs : s.size ≤ 5000) {A : Nat} (hA : A < s.size) : Df.TkOk (tok s A) := by
  unfold tok
  split
  · rename_i h3
    have h1 := bst_le s A A
    rcases bst_is s A A (Nat.le_refl _) with h0 | ⟨h4, h5, _⟩
    · omega
    · right
      refine ⟨?_, ?_, ?_, ?_⟩ <;> dsimp only <;> omega
  · have := b_lt s A
    left
    refine ⟨rfl, ?_, ?_⟩ <;> dsimp only <;> omega
theorem all_small {s : ByteArray} (hs : s.size ≤ 5000) : ∀ f A, (∀ t ∈ all s f A, Df.TkOk t) ∧ (all s f A).length + 2 * Df.again (all s f A) ≤ s.size - A
  | 0, A => ⟨fun t ht => by simp [all] at ht, Nat.zero_le _⟩
  | f + 1, A => by
    rw [all]
    split
    · rename_i hA
      obtain ⟨h1, h2⟩ := all_small hs f (A + adv s A)
      have h3 := adv_in hA
      refine ⟨fun t ht => ?_, ?_⟩
      · rcases List.mem_cons.1 ht with rfl | ht
        · exact tok_ok hs hA
        · exact h1 t ht
      · rw [List.length_cons]
        show _ + 1 + 2 * ((if (tok s A).2.1 = 0 then 0 else 1) + Df.again (all s f (A + adv s A))) ≤ _
        by_cases h5 : 3 ≤ (bst s A A).1
        · have e : adv s A = (bst s A A).1 := by unfold adv; rw [if_pos h5]
          split <;> omega
        · have e1 : adv s A = 1 := by unfold adv; rw [if_neg h5]
          have e2 : (tok s A).2.1 = 0 := by unfold tok; rw [if_neg h5]
          rw [if_pos e2]
          omega
    · exact ⟨fun t ht => by simp at ht, Nat.zero_le _⟩
theorem small {s : ByteArray} (hs : s.size ≤ 5000) : Df.Small (from_ s 0) := by
  obtain ⟨h1, h2⟩ := all_small hs (s.size - 0) 0
  exact ⟨h1, by unfold from_; omega⟩
end Ty
end Go.Proofs.Ythfdnloeicbgkaa

/- A text that is not packed, bit by bit; what a text is, packed in a kind (mathematics). -/
namespace Go.Proofs.Ythfdnloeicbgkaa
namespace Df
/-- the bytes of a text that is not packed -/
def stored (s : List Nat) : List Nat := [1, s.length % 256, s.length / 256 % 256, (65535 - s.length) % 256, (65535 - s.length) / 256 % 256] ++ s
/-- the bytes of a text, as numbers -/
def nums (s : ByteArray) : List Nat := s.data.toList.map UInt8.toNat
theorem nums_len (s : ByteArray) : (nums s).length = s.size := by
  unfold nums
  rw [List.length_map, Array.length_toList]
  rfl
/-- a text, packed in a kind -/
def Packed (s : ByteArray) (k : Nat) (T : List Nat) : Prop :=
  if k = 0 then T = stored (nums s)
  else if k = 1 then T = Bp.text false ([(1, 1), (1, 2)] ++ body fixS fixD (Ty.from_ s 0))
  else ∃ LS LD BY, IsOwn (Ty.from_ s 0) LS LD BY ∧ T = Bp.text false ([(1, 1), (2, 2)] ++ own LS LD BY (Ty.from_ s 0))
theorem Packed.same {s : ByteArray} {k : Nat} {T T' : List Nat} (h : Packed s k T) (h' : Packed s k T') : T = T' := by
  unfold Packed at h h'
  split at h
  · rename_i c; rw [if_pos c] at h'; exact h.trans h'.symm
  · rename_i c
    rw [if_neg c] at h'
    split at h
    · rename_i d; rw [if_pos d] at h'; exact h.trans h'.symm
    · rename_i d
      rw [if_neg d] at h'
      obtain ⟨_, _, _, g1, e1⟩ := h
      obtain ⟨_, _, _, g2, e2⟩ := h'
      rw [e1, e2, g1.same g2]
/-- the same as a text -/
def bytes (T : List Nat) : ByteArray := ⟨(T.map UInt8.ofNat).toArray⟩
end Df
end Go.Proofs.Ythfdnloeicbgkaa

/- Tokens as bits with codes of their own, as the specification has them: its own parts. -/
namespace Go.Proofs.Ythfdnloeicbgkaa
open Go.RowKit

theorem ints_cells {w : World} {b off : Nat} {l : List Int} (h : Ints w (some ⟨b, off, none⟩) l) : ∀ i (hi : i < l.length), w.cell? ⟨b, off + i, none⟩ = some (.int .i64 l[i]) := fun i hi => by
  rcases h with e | ⟨b', off', e, _, hc⟩
  · rw [e] at hi; simp at hi
  · cases e; exact hc i hi
theorem Own3.toks {T : TypeId} {w : World} {B n : Nat} {v : Value} {l : List Tk} (h : Own3 T w B v n l) : ∃ ao cap, v = .slice ao n cap ∧ Toks w ao l := by
  have hl := h.len
  rcases h.2 with ⟨rfl, h0⟩ | ⟨g, cap, cur, rfl, _, hg, _, _, _, ht⟩
  · subst h0
    exact ⟨none, 0, rfl, .inl (List.eq_nil_of_length_eq_zero hl)⟩
  · refine ⟨some ⟨g, 0, none⟩, cap, rfl, .inr ⟨g, 0, rfl, (Array.getElem?_eq_some_iff.1 hg).1, fun i hi => ?_⟩⟩
    obtain ⟨c1, c2, c3⟩ := tkCells_get l i hi
    rw [Nat.zero_add]
    exact ⟨(World.ownsRow.cellAt h (i * 3) (by omega)).trans c1, (World.ownsRow.cellAt h (i * 3 + 1) (by omega)).trans c2, (World.ownsRow.cellAt h (i * 3 + 2) (by omega)).trans c3⟩
/-- lengths that are fitted, in a row -/
def FitEndS (zs : List Int) (n : Nat) (m : Int) (w : World) (e : Ending) (w' : World) : Prop := (∃ b L, e = .returned (.slice (some ⟨b, 0, none⟩) n n) ∧ Ints w' (some ⟨b, 0, none⟩) L ∧ Df.FitL m zs L) ∧ Below w.heap.size w w'
theorem l3Fit_fitL (a : Option Addr) (n c : Nat) (l : List Int) (M : Nat) (w : World) (h : Ints w a l) (hn : l.length = n) (hM1 : 1 ≤ M) (hM : M ≤ 15) (hb : fitB l (M : Int) = true) :
    Calls Try.prog 76 #[.slice a n c, .int .i64 (M : Int)] w (FitEndS l n (M : Int) w) := by
  refine (l3Fit_is a n c l M w h hn hM1 hM (Df.good_of hb)).mono ?_
  rintro e w' ⟨⟨b, f, rfl, hI, hF⟩, hB⟩
  refine ⟨⟨b, _, rfl, hI, hb, f, hF, ?_⟩, hB⟩
  rw [← hn]
  rfl
theorem l5Used_ints (b off L cap least : Nat) (l : List Int) (w : World) (h : Ints w (some ⟨b, off, none⟩) l) (hL : l.length = L) (hLb : L ≤ 1000) (hle : least ≤ 1000) (hl0 : 1 ≤ least) :
    Calls Try.prog 77 #[.slice (some ⟨b, off, none⟩) L cap, .int .i64 (least : Int)] w fun e w' => e = .returned (.int .i64 ((Df.used l least : Nat) : Int)) ∧ Below w.heap.size w w' :=
  (l5Used_any b off L cap least l w (ints_cells h) hL hLb hle hl0).mono (by
    rintro e w' ⟨h1, q, rfl⟩
    exact ⟨h1, below_drewN _ _ _⟩)
/-- the first ones of a row -/
theorem ints_take {w : World} {b : Nat} {l : List Int} (h : Ints w (some ⟨b, 0, none⟩) l) (n : Nat) : Ints w (some ⟨b, 0, none⟩) (l.take n) := by
  rcases h with e | ⟨b', off', e, hb, hc⟩
  · exact .inl (by rw [e]; simp)
  · cases e
    refine .inr ⟨b, 0, rfl, hb, fun i hi => ?_⟩
    rw [List.length_take] at hi
    rw [List.getElem_take]
    exact hc i (by omega)
theorem oftS_fit {l : List Tk} (h : l.length ≤ 5000) : fitB (Df.oftS l) 15 = true := by
  refine Df.fitB_yes (by omega) (by omega) (by rw [Df.oftS_len]; omega) (fun i _ => ?_) (by rw [Df.oftS_len]; decide)
  have := Df.oftS_cnt l l.length (Nat.le_refl _) i
  rw [List.take_length] at this
  omega
theorem cntD_fit {l : List Tk} (h : l.length ≤ 5000) : fitB (Df.cntD l) 15 = true := by
  refine Df.fitB_yes (by omega) (by omega) (by rw [Df.cntD_len]; omega) (fun i _ => ?_) (by rw [Df.cntD_len]; decide)
  have := Df.cntD_cnt l l.length (Nat.le_refl _) i
  rw [List.take_length] at this
  omega
theorem cnt3_fit {R : List Tk} (h : R.length ≤ 5000) : fitB (Df.cnt3 R) 7 = true := by
  refine Df.fitB_yes (by omega) (by omega) (by rw [Df.cnt3_len]; omega) (fun i _ => ?_) (by rw [Df.cnt3_len]; decide)
  have := Df.cnt3_cnt R R.length (Nat.le_refl _) i
  rw [List.take_length] at this
  omega
set_option maxHeartbeats 2000000 in
theorem l4Order_any (w : World) :
    Calls Try.prog 79 #[] w fun e w' => e = .returned (.slice (some ⟨w.heap.size, 0, none⟩) 19 19) ∧ Ints w' (some ⟨w.heap.size, 0, none⟩) (Df.lord.map (fun (n : Nat) => (n : Int))) ∧ Below w.heap.size w w' := by
  go_enter Try.func79, Try.ntmps79
  go_wp2_with fail
  go_ret
  exact ⟨rfl, ints_arrD _ (Df.lord.map (fun (n : Nat) => (n : Int))) _, (Below.refl _ _).alloc (Nat.le_refl _) _⟩
/-- pairs of another row, behind a row of one's own -/
theorem wpList_appQ {ops : Array Oper} {rest : List Oper} {o : Oper} {a : Act} {w : World} {Q : Exit → Act → World → Prop} (hgd : o.guard = none) (s x : Operand)
    (ho : o.op = .call { callee := .builtin .append, args := #[s, x], argTypes := #[56, 56] })
    (base : Nat) (v : Value) (n : Nat) (l : List (Int × Int)) (hs : a.eval s = v) (hown : OwnP w base v n l) (B2 : Nat) (ax : Option Addr) (m c : Nat) (ps : List (Int × Int)) (hx : a.eval x = .slice ax m c) (hsrc : OwnP w B2 (.slice ax m c) m ps) (h0 : 0 < m) (hn : n + m ≤ 2000000) (hb : base ≤ w.heap.size)
    (h : ∀ g cap w', OwnP w' base (.slice (some ⟨g, 0, none⟩) (n + m) cap) (n + m) (l ++ ps) → Below base w w' → wpList Try.prog ops Q rest (a.put o.dst (.slice (some ⟨g, 0, none⟩) (n + m) cap)) w') :
    wpList Try.prog ops Q (o :: rest) a w := by
  obtain ⟨i0, hi0, hz0, hz1, hz2⟩ := info_parts info_bit
  have hl := hsrc.len
  obtain ⟨g2, rfl⟩ : ∃ g2, ax = some ⟨g2, 0, none⟩ := by
    rcases hsrc.2 with ⟨e, e0⟩ | ⟨g, cap, cur, e, _⟩
    · omega
    · cases e; exact ⟨g, rfl⟩
  refine wpList_append_lies _ hgd s x _ ho base 55 i0 (.agg #[.int .i64 0, .int .i64 0]) 2 16 Try.underlying56 hi0 hz0 hz1 hz2 rfl (by decide) v n (cellsOf l) hs hown ⟨g2, 0, none⟩ m c (cellsOf ps) hx (by rw [cellsOf_len, hl]) (fun j u hu => ?_) (cellsOf_one ps) h0 (by unfold maxLen; omega) (by omega) hb _ rfl ?_
  · have hj : j < m * 2 := by
      rcases Nat.lt_or_ge j (cellsOf ps).length with h | h
      · rw [cellsOf_len, hl] at h; exact h
      · rw [List.getElem?_eq_none h] at hu; cases hu
    have := World.ownsRow.cellAt hsrc j hj
    rw [hu] at this
    have hadd : (⟨g2, 0, none⟩ : Addr).add j = ⟨g2, j, none⟩ := by unfold Addr.add; split <;> simp_all
    rw [hadd]
    exact this
  · intro g cap w' hown' hg _ _
    rw [cellsOf_app] at hown'
    exact h g cap w' hown' ((Below.refl base w).grown hg hb (fun k hk => (World.ownsRow.lt (show World.ownsRow _ _ _ _ _ _ _ from hown) k hk).1))
theorem lord_lt : ∀ k, k < 19 → Df.lord.getD k 0 < 19 := by decide
theorem lord_map {k : Nat} (hk : k < 19) (h : k < (Df.lord.map (fun (n : Nat) => (n : Int))).length) : (Df.lord.map (fun (n : Nat) => (n : Int)))[k] = ((Df.lord.getD k 0 : Nat) : Int) := by
  rw [List.getElem_map, List.getD_eq_getElem?_getD, List.getElem?_eq_getElem (show k < Df.lord.length from hk)]
  rfl
theorem ordered_take (BY : List Int) {k : Nat} (hk : k < 19) : (Df.ordered BY).take (k + 1) = (Df.ordered BY).take k ++ [BY.getD (Df.lord.getD k 0) 0] := by
  rw [List.take_succ_eq_append_getElem (by rw [Df.ordered_len]; exact hk)]
  congr 2
  unfold Df.ordered
  rw [List.getElem_map, List.getD_eq_getElem?_getD (l := Df.lord), List.getElem?_eq_getElem (show k < Df.lord.length from hk)]
  rfl
theorem getD_cell {w : World} {b : Nat} {l : List Int} (h : Ints w (some ⟨b, 0, none⟩) l) {i : Nat} (hi : i < l.length) : w.cell? ⟨b, i, none⟩ = some (.int .i64 (l.getD i 0)) := by
  have := ints_cells h i hi
  rw [Nat.zero_add] at this
  rw [this, List.getD_eq_getElem?_getD, List.getElem?_eq_getElem hi]
  rfl
end Go.Proofs.Ythfdnloeicbgkaa

/- How long a packed short text is. -/
namespace Go.Proofs.Ythfdnloeicbgkaa
open Go.RowKit

theorem tot_le {L : List (Int × Int)} {n : Nat} (h : Df.sz L ≤ 8 * n) : (Bp.text false L).length ≤ n := by
  unfold Bp.text
  rw [Bp.pack_len]
  have := Df.tot_sz L L.length
  omega
theorem few_of {s : ByteArray} (hs : s.size ≤ 2400) : (Ty.from_ s 0).length + 2 * Df.again (Ty.from_ s 0) ≤ 2400 := by
  have := (Ty.all_small (s := s) (by omega) (s.size - 0) 0).2
  unfold Ty.from_
  omega
theorem packed_short {s : ByteArray} {k : Nat} {T : List Nat} (hs : s.size ≤ 2400) (h : Df.Packed s k T) : T.length ≤ 5000 := by
  have hsm := Ty.small (s := s) (by omega)
  have hf := few_of hs
  unfold Df.Packed at h
  split at h
  · rw [h]
    unfold Df.stored
    rw [List.length_append, Df.nums_len]
    simp
    omega
  · split at h
    · rw [h]
      refine tot_le ?_
      have s2 := Df.sz_toks (LS := Df.fixS) (LD := Df.fixD) hsm.ok
      have a1 : ∀ l : List Tk, Df.sumS (fun i => (Df.fixS.getD i 0).toNat) l ≤ 9 * l.length := fun l => by
        induction l with
        | nil => exact Nat.zero_le _
        | cons t l ih =>
          have := Df.fixS_le (Df.sym t)
          show (Df.fixS.getD (Df.sym t) 0).toNat + Df.sumS _ l ≤ 9 * (l.length + 1)
          omega
      have a2 : ∀ l : List Tk, Df.sumD (fun i => (Df.fixD.getD i 0).toNat) l ≤ 5 * Df.again l := fun l => by
        induction l with
        | nil => exact Nat.zero_le _
        | cons t l ih =>
          have := Df.fixD_le (Df.dsSym t.2.2.toNat)
          show (if t.2.1 = 0 then 0 else (Df.fixD.getD (Df.dsSym t.2.2.toNat) 0).toNat) + Df.sumD _ l ≤ 5 * ((if t.2.1 = 0 then 0 else 1) + Df.again l)
          split <;> omega
      have b1 := a1 (Ty.from_ s 0)
      have b2 := a2 (Ty.from_ s 0)
      have b3 := Df.fixS_le 256
      unfold Df.body
      rw [Df.sz_app, Df.sz_app]
      have e1 : Df.sz [((1 : Int), (1 : Int)), (1, 2)] = 3 := rfl
      have e2 : Df.sz [Cp.bit Df.fixS 256] = (Df.fixS.getD 256 0).toNat := by show _ + 0 = _; rfl
      rw [e1, e2]
      omega
    · obtain ⟨LS, LD, BY, ho, h⟩ := h
      rw [h]
      refine tot_le ?_
      obtain ⟨f1, f2, f3⟩ := ho
      have hLS : LS.length = 286 := by rw [f1.len, Df.oftS_len]
      have hLD : LD.length = 30 := by rw [f2.len, Df.cntD_len]
      have hBY : BY.length = 19 := by rw [f3.len, Df.cnt3_len]
      have hR : ∀ t ∈ Df.runs (Df.joined LS LD), Df.RunOk t := Df.runs_ok (Df.joined_all (f1.all (by omega)) (f2.all (by omega)))
      have hRl := Df.runs_len (Df.joined LS LD)
      have hJ := Df.joined_len (LS := LS) (LD := LD)
      have hBm : ∀ i, BY.getD i 0 ≤ 7 := fun i => by
        by_cases hi : i < (Df.cnt3 (Df.runs (Df.joined LS LD))).length
        · exact (f3.le hi).2.1
        · rw [List.getD_eq_getElem?_getD, List.getElem?_eq_none (by rw [f3.len]; omega)]
          decide
      have hu1 := Df.used_le LS 257
      have hu2 := Df.used_le LD 1
      have hu3 := Df.used_le (Df.ordered BY) 4
      rw [Df.ordered_len] at hu3
      have hk : ((Df.ordered BY).take (Df.used (Df.ordered BY) 4)).length = Df.used (Df.ordered BY) 4 := by rw [List.length_take, Df.ordered_len]; omega
      have s1 := Df.sz_runBits hBm hR
      have s2 := Df.sz_body (LS := LS) (LD := LD) hsm.ok
      have s3 := Df.wtS_le hsm f1
      have s4 := Df.wtD_le hsm f2
      have s5 := Df.sz_threes ((Df.ordered BY).take (Df.used (Df.ordered BY) 4))
      rw [if_pos (by omega)] at s3
      rw [Df.sz_app]
      unfold Df.own Df.head
      rw [Df.sz_app, Df.sz_app, Df.sz_app]
      have e1 : Df.sz [((1 : Int), (1 : Int)), (2, 2)] = 3 := rfl
      have e2 : Df.sz (Df.top LS LD BY) = 14 := rfl
      rw [e1, e2]
      omega
end Go.Proofs.Ythfdnloeicbgkaa
