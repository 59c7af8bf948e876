/- The specification's l3Fit and CodeFit. -/
import Derived.Test.YtcolgcddhchkhaaCtSFit
namespace Go.Proofs.Ytcolgcddhchkhaa
open Go.RowKit

theorem xrow_own {w W : World} {a1 : Option Addr} {n c : Nat} {l : List Int} (h : OwnI W w.heap.size (.slice a1 n c) n l) : XRow w W a1 n l := by
  have hl : l.length = n := by have h1 := h.1; unfold intsV at h1; simpa using h1
  refine ⟨hl, ?_⟩
  have h' : W.ownsRow w.heap.size 3 1 (.slice a1 n c) n (l.map (Value.int .i64)) := h
  rcases h'.2 with ⟨e, h0⟩ | ⟨g, cap, cur, e, hg, hh, _⟩
  · exact .inl h0
  · cases e
    refine .inr ⟨g, rfl, hg, (Array.getElem?_eq_some_iff.1 hh).1, fun i hi => ⟨?_, World.ownsRow.frozenAt h' i⟩⟩
    rw [World.ownsRow.cellAt h' i (by omega), List.getElem?_map]
    show _ = some (Value.int .i64 (l.getD i 0))
    rw [List.getD_eq_getElem?_getD, List.getElem?_eq_getElem (by omega)]
    rfl
/-- the first k are halved -/
def hx (x : List Int) (k : Nat) (i : Nat) : Int := if i < k then Ct.half (x.getD i 0) else x.getD i 0
set_option maxHeartbeats 8000000 in
set_option maxRecDepth 20000 in
theorem l3Fit_is (a : Option Addr) (n c : Nat) (l : List Int) (M : Nat) (w : World) (h : Ints w a l) (hn : l.length = n) (hM1 : 1 ≤ M) (hM : M ≤ 15) (hG : Ct.Good M l) :
    Calls Try.prog 45 #[.slice a n c, .int .i64 (M : Int)] w fun e w' => (∃ b f, e = .returned (.slice (some ⟨b, 0, none⟩) n n) ∧ Ints w' (some ⟨b, 0, none⟩) ((List.range n).map (fun i => ((f i : Nat) : Int))) ∧ Ct.Fits M l f) ∧ Below w.heap.size w w' := by
  have HN : Hid (l.length = n) := hn
  have HG : Hid (Ct.Good M l) := hG
  have hn3 : n ≤ 300 := by have := hG.1; omega
  have HE : Hid (OwnI (w.alloc (.cells #[] 3)) w.heap.size (.slice (some ⟨w.heap.size, 0, none⟩) 0 0) 0 []) := ownI_none w
  have HIA : Hid (Ints (w.alloc (.cells #[] 3)) a l) := h.kept ((Below.refl _ _).alloc (Nat.le_refl _) _)
  clear h hn hG
  go_enter Try.func45, Try.ntmps45
  go_wp2_with (at_builtin; refine wpList_append_ints (by rfl) _ _ (by rfl) w.heap.size _ 0 [] (by rfl) HE.out a n c l (by rfl) HIA.out HN.out (by omega) (by simp) ?_)
  intro a1 c1 w1 hO1 hg1
  have HX1 : Hid (XRow w w1 a1 n l) := by
    have hO2 : OwnI w1 w.heap.size (.slice a1 n c1) n l := by simpa using hO1
    exact xrow_own hO2
  have HB1 : Hid (Below w.heap.size w w1) := ((Below.refl _ _).alloc (Nat.le_refl _) _).trans ((Below.refl _ _).grown hg1 (by simp) (fun j hj => (World.ownsRow.lt (show World.ownsRow _ _ _ _ _ _ _ from HE.out) j hj).1))
  have HT1 : Hid (Calls Try.prog 71 #[.slice a1 n c1] w1 (TrEndX w1 n l)) := l3Tree_is a1 c1 n l w1 HX1.out.ints HN.out hn3 HG.out.2.1
  clear hO1 hg1 HE HIA
  go_wp2_with fail
  refine HT1.out.mono ?_
  rintro e w2 ⟨⟨rfl, f, hO2, hl2, _⟩, b2⟩
  have hs1 := HB1.out.size
  have H2 : Hid (XRow w w2 a1 n l ∧ Own w2 w1.heap.size n (fun i => ((f i : Nat) : Int)) ∧ Ct.IsLens l f ∧ Below w.heap.size w w2 ∧ w.heap.size ≤ w1.heap.size) := ⟨HX1.out.kept b2, hO2, hl2, HB1.out.trans (b2.mono hs1), hs1⟩
  have hw12 : w1.heap.size ≤ w2.heap.size := b2.size
  clear hO2 hl2 b2 HT1 HX1 HB1
  generalize w1.heap.size = B1 at *
  go_wp2_with fail
  go_loopw [6] (fun v wr => ∃ (x : List Int) (b : Nat) (f : Nat → Nat), v = .slice (some ⟨b, 0, none⟩) n n ∧ Hid (XRow w wr a1 n x ∧ Own wr b n (fun i => ((f i : Nat) : Int)) ∧ Ct.IsLens x f ∧ Below w.heap.size w wr ∧ Ct.Good M x ∧ (∀ G, Ct.Fits M x G → Ct.Fits M l G))) (fun _ wr => memSum wr (.slice a1 n c1))
  case atStart => exact ⟨l, B1, f, rfl, H2.out.1, H2.out.2.1, H2.out.2.2.1, H2.out.2.2.2.1, HG.out, fun G h => h⟩
  case round =>
    clear H2 hw12 hs1
    obtain ⟨x, b, fx, rfl, HR⟩ := hrel
    have hdp : Cf.deep x ≤ 100000 := by
      have h1 : Cf.fin ((initT x x.length).map Ct.wt) ≤ Cf.maxh ((initT x x.length).map Ct.wt) + (initT x x.length).length := Cf.fin_le _ _ (by rw [List.length_map]; omega)
      have h2 : Cf.maxh ((initT x x.length).map Ct.wt) ≤ 0 := Cf.maxh_le _ (fun z hz => by
        obtain ⟨p, hp, rfl⟩ := List.mem_map.1 hz
        have := Cf.init_mem x x.length (Ct.nd p) (by rw [← Ct.init_nd]; exact List.mem_map.2 ⟨p, hp, rfl⟩)
        exact Nat.le_of_eq this.1)
      have h3 := initT_len x x.length
      have h4 := HR.out.1.1
      unfold Cf.deep
      rw [← Ct.init_nd, Ct.nd_wt]
      exact Ct.max_le (by omega) (by omega)
    have HMO : Hid (Calls Try.prog 72 #[.slice (some ⟨b, 0, none⟩) n n] wr fun e w' => (∃ m : Nat, e = .returned (.int .i64 (m : Int)) ∧ (∀ i, i < n → fx i ≤ m) ∧ (m = 0 ∨ ∃ i, i < n ∧ m = fx i)) ∧ w' = wr) := by
      refine l3Most_is _ n n fx wr ?_ (by omega) (fun i _ => Nat.le_trans (HR.out.2.2.1.deep i) hdp)
      refine .inr ⟨b, 0, rfl, HR.out.2.1.1, fun i hi => ?_⟩
      rw [List.length_map, List.length_range] at hi
      rw [Nat.zero_add, List.getElem_map, List.getElem_range]
      exact (HR.out.2.1.2 i hi).1
    clear hdp
    go_wp2_with fail
    refine HMO.out.mono ?_
    rintro e w3 ⟨⟨m, rfl, hm1, hm2⟩, hw3⟩
    replace hw3 := hw3.symm
    subst hw3
    clear HMO
    by_cases hgt : M < m
    · have dgt : decide ((m : Int) > (M : Int)) = true := by simp; omega
      have hex : ∃ i, i < n ∧ M < fx i := by
        rcases hm2 with h0 | ⟨i, hi, e⟩
        · omega
        · exact ⟨i, hi, by omega⟩
      have HLS : Hid (memSum wr (.slice a1 n c1) = Ct.tot x ∧ Ct.tot (Ct.hv x) < Ct.tot x) := ⟨memSum_is HR.out.1.ints HR.out.1.1, HR.out.2.2.2.2.1.less hM1 HR.out.2.2.1 (by rw [HR.out.1.1]; exact hex)⟩
      have HEX : Hid (∃ i, i < x.length ∧ M < fx i) := by rw [HR.out.1.1]; exact hex
      obtain ⟨g, rfl, hg, hOx⟩ : ∃ g, a1 = some ⟨g, 0, none⟩ ∧ w.heap.size ≤ g ∧ Own wr g n (fun i => x.getD i 0) := by
        rcases HR.out.1.2 with h0 | hgx
        · obtain ⟨i, hi, _⟩ := hex; omega
        · exact hgx
      have HOX : Hid (Own wr g n (fun i => x.getD i 0)) := hOx
      have HXL : Hid (x.length = n) := HR.out.1.1
      have HRX : Hid (Ct.IsLens x fx ∧ Below w.heap.size w wr ∧ Ct.Good M x ∧ (∀ G, Ct.Fits M x G → Ct.Fits M l G)) := HR.out.2.2
      clear hex hOx hm1 hm2 HR
      go_wp2_with fail
      go_loopw [7] (fun i wv => ∃ k : Nat, k ≤ n ∧ i = .int .i64 (k : Int) ∧ Hid (Own wv g n (hx x k) ∧ Below w.heap.size w wv)) (fun i _ => n - (intOf i).toNat)
      case atStart => exact ⟨0, Nat.zero_le _, rfl, HOX.out, HRX.out.2.1⟩
      case round =>
        obtain ⟨k, hk, rfl, HK⟩ := hrel
        by_cases hlt : k < n
        · have hki : (k : Int) < (n : Int) := by omega
          have hzk := HRX.out.2.2.1.2.1 k (by rw [HXL.out]; exact hlt)
          obtain ⟨hc, hfr⟩ := HK.out.1.2 k hlt
          have hcv : hx x k k = x.getD k 0 := by unfold hx; rw [if_neg (by omega)]
          rw [hcv] at hc
          obtain ⟨z, hz⟩ : ∃ z : Nat, x.getD k 0 = (z : Int) := ⟨(x.getD k 0).toNat, by omega⟩
          rw [hz] at hc
          obtain ⟨z1, hz1⟩ : ∃ z1, z1 = z + 1 := ⟨_, rfl⟩
          have ez : (z : Int) + 1 = (z1 : Int) := by omega
          obtain ⟨H, hH⟩ : ∃ H, H = (z + 1) / 2 := ⟨_, rfl⟩
          have eH : (z1 : Int).tdiv 2 = (H : Int) := by rw [hH, ← hz1]; rfl
          have eH2 : (z1 : Int) / 2 = (H : Int) := by omega
          have hzb : z1 ≤ 9001 := by omega
          have HK2 : Hid (Own (wr.setCell ⟨g, k, none⟩ (.int .i64 (H : Int))) g n (hx x (k + 1)) ∧ Below w.heap.size w (wr.setCell ⟨g, k, none⟩ (.int .i64 (H : Int)))) := by
            refine ⟨own_set (H : Int) HK.out.1 hlt ?_ (fun i hi hne => ?_), HK.out.2.setCell (p := ⟨g, k, none⟩) hg _⟩
            · unfold hx Ct.half
              rw [if_pos (by omega), hz]
              omega
            · unfold hx
              by_cases e : i < k
              · rw [if_pos e, if_pos (by omega)]
              · rw [if_neg e, if_neg (by omega)]
          clear HK hz hz1 hH hzk hcv
          go_wp2_with fail
          go_roundw
          case rel => exact ⟨k + 1, by omega, by go_num, HK2⟩
          case measure => simp [intOf]; omega
        · have hki : ¬ (k : Int) < (n : Int) := by omega
          obtain rfl : k = n := by omega
          have hxr : XRow w wr (some ⟨g, 0, none⟩) k (Ct.hv x) := by
            refine ⟨by rw [Ct.hv_len]; exact HXL.out, .inr ⟨g, rfl, hg, HK.out.1.1, fun i hi => ?_⟩⟩
            have h5 := HK.out.1.2 i hi
            have e5 : hx x k i = (Ct.hv x).getD i 0 := by
              unfold hx
              rw [if_pos hi, Ct.hv_get (by rw [HXL.out]; exact hi)]
            rw [e5] at h5
            exact h5
          have HXR : Hid (XRow w wr (some ⟨g, 0, none⟩) k (Ct.hv x) ∧ Below w.heap.size w wr) := ⟨hxr, HK.out.2⟩
          have HT4 : Hid (Calls Try.prog 71 #[.slice (some ⟨g, 0, none⟩) k c1] wr (TrEndX wr k (Ct.hv x))) := l3Tree_is _ c1 k (Ct.hv x) wr hxr.ints hxr.1 hn3 HRX.out.2.2.1.hv.2.1
          clear hxr HK
          go_wp2_with fail
          refine HT4.out.mono ?_
          rintro e w5 ⟨⟨rfl, f5, o5, l5, _⟩, b5⟩
          have hx5 := HXR.out.1.kept b5
          have HR5 : Hid (XRow w w5 (some ⟨g, 0, none⟩) k (Ct.hv x) ∧ Own w5 wr.heap.size k (fun i => ((f5 i : Nat) : Int)) ∧ Ct.IsLens (Ct.hv x) f5 ∧ Below w.heap.size w w5 ∧ Ct.Good M (Ct.hv x) ∧ (∀ G, Ct.Fits M (Ct.hv x) G → Ct.Fits M l G)) :=
            ⟨hx5, o5, l5, HXR.out.2.trans (b5.mono HXR.out.2.size), HRX.out.2.2.1.hv, fun G hG => HRX.out.2.2.2 G (.more HRX.out.1 HEX.out hG)⟩
          have HM5 : Hid (memSum w5 (.slice (some ⟨g, 0, none⟩) k c1) < Ct.tot x) := by
            show _ < _
            rw [memSum_is hx5.ints hx5.1]
            exact HLS.out.2
          have HM6 := HLS.out.1
          clear o5 l5 b5 hx5 HT4 HXR
          go_wp2_with fail
          go_roundw
          case rel => exact ⟨Ct.hv x, _, f5, rfl, HR5⟩
          case measure => rw [HM6]; exact HM5.out
    · have dgt : decide ((m : Int) > (M : Int)) = false := by simp; omega
      have HF1 : Hid (Ints wr (some ⟨b, 0, none⟩) ((List.range n).map (fun i => ((fx i : Nat) : Int)))) := by
        refine .inr ⟨b, 0, rfl, HR.out.2.1.1, fun i hi => ?_⟩
        rw [List.length_map, List.length_range] at hi
        rw [Nat.zero_add, List.getElem_map, List.getElem_range]
        exact (HR.out.2.1.2 i hi).1
      have HF2 : Hid (Ct.Fits M l fx) := HR.out.2.2.2.2.2 fx (.stop HR.out.2.2.1 (fun i hi => by
        have := hm1 i (by rw [← HR.out.1.1]; exact hi)
        omega))
      have HF3 : Hid (Below w.heap.size w wr) := HR.out.2.2.2.1
      clear HR hm1 hm2
      go_wp2_with fail
      go_ret
      exact ⟨⟨b, fx, rfl, HF1.out, HF2.out⟩, HF3.out⟩
set_option maxHeartbeats 1000000 in
theorem spec_codeFit (a : Option Addr) (n c : Nat) (l : List Int) (m : Int) (w : World) (h : Ints w a l) (hn : l.length = n) (hb : n ≤ 1048576) :
    Calls Try.prog 12 #[.slice a n c, .int .i64 m] w (SFitEnd l m w) := by
  have HR : Hid (Calls Try.prog 44 #[.slice a n c, .int .i64 m] w fun e w' => e = .returned (.bool (fitB l m)) ∧ w' = w) := l3Room_is a n c l m w h hn hb
  cases hr : fitB l m with
  | false =>
    rw [hr] at HR
    have HF : Hid (SFitEnd l m w (.returned (.slice (some ⟨w.heap.size, 0, none⟩) 0 0)) (w.alloc (.cells #[] 3))) := ⟨.inl ⟨hr, _, _, rfl⟩, (Below.refl _ _).alloc (Nat.le_refl _) _⟩
    clear h hn hr
    go_enter Try.func12, Try.ntmps12
    go_wp2_with fail
    refine HR.out.mono ?_
    rintro e w1 ⟨rfl, hw1⟩
    replace hw1 := hw1.symm
    subst hw1
    go_wp2_with fail
    go_ret
    exact HF.out
  | true =>
    have hg : l.length ≤ 300 ∧ 1 ≤ m ∧ m ≤ 15 ∧ oftenB l = true ∧ Ct.come l ≤ 2 ^ m.toNat := by
      unfold fitB at hr
      simpa [and_assoc] using hr
    obtain ⟨M, hM⟩ : ∃ M : Nat, m = (M : Int) := ⟨m.toNat, by omega⟩
    subst hM
    rw [Int.toNat_natCast] at hg
    have HFT : Hid (Calls Try.prog 45 #[.slice a n c, .int .i64 (M : Int)] w fun e w' => (∃ b f, e = .returned (.slice (some ⟨b, 0, none⟩) n n) ∧ Ints w' (some ⟨b, 0, none⟩) ((List.range n).map (fun i => ((f i : Nat) : Int))) ∧ Ct.Fits M l f) ∧ Below w.heap.size w w') := l3Fit_is a n c l M w h hn (by omega) (by omega) ⟨hg.1, often_all hg.2.2.2.1, hg.2.2.2.2⟩
    have HE : Hid (∀ (b : Nat) (f : Nat → Nat) (W : World), Ints W (some ⟨b, 0, none⟩) ((List.range n).map (fun i => ((f i : Nat) : Int))) → Ct.Fits M l f → Below w.heap.size w W → SFitEnd l (M : Int) w (.returned (.slice (some ⟨b, 0, none⟩) n n)) W) := fun b f W h1 h2 h3 => ⟨.inr ⟨hr, _, _, f, by rw [hn], by rw [hn]; exact h1, by rw [Int.toNat_natCast]; exact h2⟩, h3⟩
    rw [hr] at HR
    clear h hn hr hg
    go_enter Try.func12, Try.ntmps12
    go_wp2_with fail
    refine HR.out.mono ?_
    rintro e w1 ⟨rfl, hw1⟩
    replace hw1 := hw1.symm
    subst hw1
    go_wp2_with fail
    refine HFT.out.mono ?_
    rintro e w2 ⟨⟨b, f, rfl, h1, h2⟩, b2⟩
    have HF : Hid (SFitEnd l (M : Int) w (.returned (.slice (some ⟨b, 0, none⟩) n n)) w2) := HE.out b f w2 h1 h2 b2
    clear h1 h2 b2 HFT HE
    go_wp2_with fail
    go_ret
    exact HF.out
end Go.Proofs.Ytcolgcddhchkhaa
