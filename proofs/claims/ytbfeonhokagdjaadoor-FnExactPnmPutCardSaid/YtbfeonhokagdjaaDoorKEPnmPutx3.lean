/- Texts laid together: PnAll, PnImpl, ExPnmPut. -/
import Derived.Test.YtbfeonhokagdjaaDoorVEPnmPutPnTop
import Derived.Test.YtbfeonhokagdjaaDoorKEPnmPutx2
import Derived.Test.YtbfeonhokagdjaaDoorKEPnmPutx0
/- PnmPut: both sides. -/
namespace Go.Proofs.YtbfeonhokagdjaaDoor
open Go.RowKit

/-- what PnmPut answers -/
noncomputable def Pn.ans (k d wd hi : Int) (cs ps : List Int) (plain : Bool) : List UInt8 := if (Im.okB k d wd hi cs ps && Pn.rep k) = true then Pn.head d (Pn.num k d plain).toNat wd.toNat hi.toNat ++ (rowsOfL wd.toNat hi.toNat ps).flatMap (Pn.line k d plain) else []
/-- what is known of a picture that a PNM holds -/
structure Pn.Held (k d wd hi : Int) (ps : List Int) : Prop where
  k12 : k = 1 ∨ k = 2
  dep : d = 1 ∨ d = 2 ∨ d = 4 ∨ d = 8 ∨ d = 24
  kd : k = 2 ↔ d = 24
  wide : 1 ≤ wd ∧ wd ≤ 20
  high : 1 ≤ hi ∧ hi ≤ 20
  len : (ps.length : Int) = wd * hi
  pts : ∀ z ∈ ps, 0 ≤ z ∧ z < 16777216 ∧ (d = 1 → z ≤ 1) ∧ (k = 1 → z < 256)
theorem Pn.held {k d wd hi : Int} {cs ps : List Int} (h : (Im.okB k d wd hi cs ps && Pn.rep k) = true) : Pn.Held k d wd hi ps := by
  rw [Bool.and_eq_true] at h
  have hO : Im.Ok k d wd hi cs ps := @of_decide_eq_true _ (Classical.propDecidable _) h.1
  have hk : k = 1 ∨ k = 2 := by have := h.2; simpa [Pn.rep] using this
  obtain ⟨h1, h2, h3, _, h5, h6⟩ := hO
  have hd : d = 1 ∨ d = 2 ∨ d = 4 ∨ d = 8 ∨ d = 24 := by
    rcases hk with rfl | rfl
    · have : d = 1 ∨ d = 2 ∨ d = 4 ∨ d = 8 := by simpa [depL] using h1
      omega
    · have : d = 24 := by simpa [depL] using h1
      omega
  have hkd : k = 2 ↔ d = 24 := by
    rcases hk with rfl | rfl
    · have : d = 1 ∨ d = 2 ∨ d = 4 ∨ d = 8 := by simpa [depL] using h1
      constructor <;> intro e <;> omega
    · have : d = 24 := by simpa [depL] using h1
      constructor <;> intro e <;> omega
  refine ⟨hk, hd, hkd, h2, h3, h5, fun z hz => ?_⟩
  obtain ⟨z0, z1⟩ := h6 z hz
  unfold Im.most at z1
  rw [if_neg (by omega)] at z1
  rcases hd with rfl | rfl | rfl | rfl | rfl
  · have e : ((2 ^ (1 : Int).toNat : Nat) : Int) = 2 := rfl
    omega
  · have e : ((2 ^ (2 : Int).toNat : Nat) : Int) = 4 := rfl
    omega
  · have e : ((2 ^ (4 : Int).toNat : Nat) : Int) = 16 := rfl
    omega
  · have e : ((2 ^ (8 : Int).toNat : Nat) : Int) = 256 := rfl
    omega
  · have e : ((2 ^ (24 : Int).toNat : Nat) : Int) = 16777216 := rfl
    have : k = 2 := hkd.2 rfl
    omega
theorem Pn.numN {k d : Int} (plain : Bool) : Pn.num k d plain = ((Pn.num k d plain).toNat : Int) := by
  unfold Pn.num
  cases plain <;> (split <;> try split) <;> rfl
set_option linter.unusedSimpArgs false in
set_option maxHeartbeats 4000000 in
set_option maxRecDepth 20000 in
theorem spec_pnmPut (k d wd hi : Int) (ca : Option Addr) (cn cc : Nat) (pa : Option Addr) (pn pc : Nat) (cs ps : List Int) (plain : Bool) (w : World) (hc : Ints w ca cs) (hcn : cs.length = cn) (hcl : cn ≤ 1048576) (hp : Ints w pa ps) (hpn : ps.length = pn) (hpc : pn ≤ pc) :
    Calls Tryd.prog 5 #[.agg #[.int .i64 k, .int .i64 d, .int .i64 wd, .int .i64 hi, .slice ca cn cc, .slice pa pn pc], .bool plain] w fun e w' => e = .returned (.string ⟨(Pn.ans k d wd hi cs ps plain).toArray⟩) ∧ Below w.heap.size w w' := by
  obtain ⟨W0, hW0⟩ : ∃ W0, W0 = w.alloc (.cells #[.int .i64 k, .int .i64 d, .int .i64 wd, .int .i64 hi, .slice ca cn cc, .slice pa pn pc] 27) := ⟨_, rfl⟩
  have HB0 : Hid (Below w.heap.size w W0) := by rw [hW0]; exact (Below.refl _ _).alloc (Nat.le_refl _) _
  have X0 : Hid (Bx W0 w.heap.size (.int .i64 k) (.int .i64 d) (.int .i64 wd) (.int .i64 hi) (.slice ca cn cc) (.slice pa pn pc)) := by rw [hW0]; exact bx_new w _ _ _ _ _ _ 27
  obtain ⟨o, ho⟩ : ∃ o, o = Im.okB k d wd hi cs ps := ⟨_, rfl⟩
  have HO : Hid (Calls Tryd.prog 10 #[.agg #[.int .i64 k, .int .i64 d, .int .i64 wd, .int .i64 hi, .slice ca cn cc, .slice pa pn pc]] W0 fun e w' => e = .returned (.bool o) ∧ Below W0.heap.size W0 w') := by rw [ho]; exact spec_imageOk k d wd hi ca cn cc pa pn pc W0 cs ps (hc.kept HB0.out) hcn hcl (hp.kept HB0.out) hpn
  have HRP : Hid (∀ w' : World, Calls Tryd.prog 11 #[.agg #[.int .i64 k, .int .i64 d, .int .i64 wd, .int .i64 hi, .slice ca cn cc, .slice pa pn pc]] w' fun e w'' => e = .returned (.bool (Pn.rep k)) ∧ Below w'.heap.size w' w'') := fun w' => l12Rep_any k d wd hi ca cn cc pa pn pc w'
  obtain ⟨A, hA⟩ : ∃ A : ByteArray, A = ⟨(Pn.ans k d wd hi cs ps plain).toArray⟩ := ⟨_, rfl⟩
  have HPP : Hid (∀ w', Below w.heap.size w w' → Ints w' pa ps) := fun w' b => hp.kept b
  have hnil : (o && Pn.rep k) = false → A = ⟨#[]⟩ := fun h => by
    rw [hA]; unfold Pn.ans; rw [← ho, h]; rfl
  have HPT : Hid ((o && Pn.rep k) = true → ∀ w', Below w.heap.size w w' → Calls Tryd.prog 12 #[.agg #[.int .i64 k, .int .i64 d, .int .i64 wd, .int .i64 hi, .slice ca cn cc, .slice pa pn pc], .bool plain] w' fun e w'' => e = .returned (.string A) ∧ Below w'.heap.size w' w'') := fun h w' b => by
    have h0 := h
    rw [ho] at h0
    have H := Pn.held h0
    obtain ⟨Wd, hWd⟩ := Int.eq_ofNat_of_zero_le (show 0 ≤ wd by have := H.wide; omega)
    obtain ⟨Hi, hHi⟩ := Int.eq_ofNat_of_zero_le (show 0 ≤ hi by have := H.high; omega)
    rw [hA]
    unfold Pn.ans
    rw [if_pos h0]
    subst hWd
    subst hHi
    rw [Int.toNat_natCast, Int.toNat_natCast]
    have hw := H.wide
    have hh := H.high
    have hl := H.len
    refine l12Put_any k d Wd Hi ca cn cc pa pn pc ps plain _ H.k12 H.dep H.kd (Pn.numN plain) (by omega) (by omega) (by omega) w' (HPP.out w' b) hpn hpc (by rw [← hpn]; exact_mod_cast hl) (fun z hz => ⟨(H.pts z hz).1, (H.pts z hz).2.1, (H.pts z hz).2.2.1⟩) ?_
    intro a c l u hm hlen hI _
    unfold Pn.pack
    by_cases h2 : k = 2
    · rw [if_pos h2]
      subst h2
      exact l12Row_rgb d _ _ ca cn cc pa pn pc a Wd c l u hI hlen (by omega) (fun z hz => ⟨(H.pts z (hm z hz)).1, (H.pts z (hm z hz)).2.1⟩)
    · rw [if_neg h2]
      have h1 : k = 1 := by have := H.k12; omega
      by_cases hd1 : d = 1
      · rw [if_pos hd1]
        subst hd1
        exact l12Row_bits k _ _ h2 ca cn cc pa pn pc a Wd c l u hI hlen (by omega) (fun z hz => ⟨(H.pts z (hm z hz)).1, (H.pts z (hm z hz)).2.2.1 rfl⟩) (Rp.row_small 1 _ (by omega) (by rw [List.length_map]; omega) (fun z hz => by
          obtain ⟨q, hq, rfl⟩ := List.mem_map.1 hz
          have e := H.pts q (hm q hq)
          have := e.2.2.1 rfl
          constructor <;> omega))
      · rw [if_neg hd1]
        exact l12Row_gray k d _ _ h2 hd1 ca cn cc pa pn pc a Wd c l u hI hlen (by omega) (Rp.row_small 8 _ (by omega) (by omega) (fun z hz => by
          have e := H.pts z (hm z hz)
          have := e.2.2.2 h1
          constructor <;> omega))
  rw [← hA]
  generalize Pn.rep k = rp at *
  clear hc hp hcn hpn hpc ho hA
  obtain ⟨_, a0, a1, a2, a3, a4, a5⟩ := bx_new w (.int .i64 k) (.int .i64 d) (.int .i64 wd) (.int .i64 hi) (.slice ca cn cc) (.slice pa pn pc) 27
  go_enter Tryd.func5, Tryd.ntmps5
  go_wp2_with fail
  rw [← hW0]
  refine HO.out.mono ?_
  rintro e w1 ⟨rfl, b1⟩
  have X1 : Hid (Bx w1 w.heap.size (.int .i64 k) (.int .i64 d) (.int .i64 wd) (.int .i64 hi) (.slice ca cn cc) (.slice pa pn pc)) := X0.out.kept b1
  have B1 : Hid (Below w.heap.size w w1) := HB0.out.trans (b1.mono HB0.out.size)
  clear b1 X0 HB0 HO hW0 a0 a1 a2 a3 a4 a5
  obtain ⟨_, a0, a1, a2, a3, a4, a5⟩ := X1.out
  cases o with
  | false =>
    have hn := hnil rfl
    subst hn
    go_wp2_with fail
    go_ret
    exact ⟨rfl, B1.out⟩
  | true =>
    go_wp2_with fail
    refine (HRP.out _).mono ?_
    rintro e w2 ⟨rfl, b2⟩
    have X2 : Hid (Bx w2 w.heap.size (.int .i64 k) (.int .i64 d) (.int .i64 wd) (.int .i64 hi) (.slice ca cn cc) (.slice pa pn pc)) := X1.out.kept b2
    have B2 : Hid (Below w.heap.size w w2) := B1.out.trans (b2.mono B1.out.size)
    clear b2 X1 B1 a0 a1 a2 a3 a4 a5
    obtain ⟨_, a0, a1, a2, a3, a4, a5⟩ := X2.out
    cases rp with
    | false =>
      have hn := hnil rfl
      subst hn
      go_wp2_with fail
      go_ret
      exact ⟨rfl, B2.out⟩
    | true =>
      have HC := HPT.out rfl w2 B2.out
      go_wp2_with fail
      refine HC.mono ?_
      rintro e w3 ⟨rfl, b3⟩
      have B3 : Hid (Below w.heap.size w w3) := B2.out.trans (b3.mono B2.out.size)
      clear b3
      go_wp2_with fail
      go_ret
      exact ⟨rfl, B3.out⟩
end Go.Proofs.YtbfeonhokagdjaaDoor

/- PnmPut of the program. -/
namespace Go.Proofs.YtbfeonhokagdjaaDoor
open Go.RowKit Go.Shelf

theorem Pn.rows_turn (Wd Hi : Nat) (ps : List Int) : rowsF Wd Hi (fun x y => 1 - pixF Wd ps x y) = (rowsOfL Wd Hi ps).map (fun r => r.map fun z => 1 - z) := by
  simp [rowsF, rowsOfL, seg, pixF, List.map_map, Function.comp_def]
theorem Pn.rows_same (Wd Hi : Nat) (ps : List Int) : rowsF Wd Hi (pixF Wd ps) = rowsOfL Wd Hi ps := by
  simp [rowsF, rowsOfL, seg, pixF]
theorem Pn.rows_mem {Wd Hi : Nat} {ps : List Int} (h : ps.length = Wd * Hi) {r : List Int} (hr : r ∈ rowsOfL Wd Hi ps) : (∀ z ∈ r, z ∈ ps) ∧ r.length = Wd := by
  unfold rowsOfL at hr
  obtain ⟨y, hy, rfl⟩ := List.mem_map.1 hr
  rw [List.mem_range] at hy
  refine ⟨fun z hz => ?_, seg_len _ _ _⟩
  unfold seg at hz
  obtain ⟨t, ht, rfl⟩ := List.mem_map.1 hz
  rw [List.mem_range] at ht
  have h1 : (y + 1) * Wd ≤ Hi * Wd := Nat.mul_le_mul_right _ (by omega)
  rw [Nat.succ_mul] at h1
  have h2 : y * Wd + t < ps.length := by rw [h, Nat.mul_comm Wd Hi]; omega
  rw [List.getD_eq_getElem?_getD, List.getElem?_eq_getElem h2]
  exact List.getElem_mem _
theorem Pn.pt_one {k : Int} (hk : k ≠ 2) : ∀ r : List Int, (∀ z ∈ r, 0 ≤ z) → r.flatMap (fun p => Pn.pt k 1 p.toNat) = r.map fun z => 1 - z
  | [], _ => rfl
  | z :: r, h => by
    have h0 := h z (List.mem_cons_self ..)
    rw [List.flatMap_cons, Pn.pt_one hk r (fun x hx => h x (List.mem_cons_of_mem _ hx)), List.map_cons]
    unfold Pn.pt
    rw [if_neg hk, if_pos rfl, Int.toNat_of_nonneg h0]
    rfl
theorem Pn.pt_gray {k d : Int} (hk : k ≠ 2) (hd : d ≠ 1) : ∀ r : List Int, (∀ z ∈ r, 0 ≤ z) → r.flatMap (fun p => Pn.pt k d p.toNat) = r
  | [], _ => rfl
  | z :: r, h => by
    have h0 := h z (List.mem_cons_self ..)
    rw [List.flatMap_cons, Pn.pt_gray hk hd r (fun x hx => h x (List.mem_cons_of_mem _ hx))]
    unfold Pn.pt
    rw [if_neg hk, if_neg hd, Int.toNat_of_nonneg h0]
    rfl
theorem Pn.pt_rgb {d : Int} : ∀ r : List Int, (∀ z ∈ r, 0 ≤ z) → r.flatMap (fun p => Pn.pt 2 d p.toNat) = Pn.parts r
  | [], _ => rfl
  | z :: r, h => by
    have h0 := h z (List.mem_cons_self ..)
    have ih := Pn.pt_rgb (d := d) r (fun x hx => h x (List.mem_cons_of_mem _ hx))
    unfold Pn.parts at ih ⊢
    rw [List.flatMap_cons, ih, List.flatMap_cons]
    congr 1
    unfold Pn.pt Pn.three
    rw [if_pos rfl]
    obtain ⟨n, rfl⟩ := Int.eq_ofNat_of_zero_le h0
    rw [Int.toNat_natCast]
    simp
/-- how the rows of the view are written -/
def Pn.lineV (k d : Int) (plain : Bool) (l : List Int) : List UInt8 := if plain then figs (if k = 2 then Pn.parts l else l) ++ [10] else (Bp.text true (Rp.bl (Pn.bits d).toNat l)).map UInt8.ofNat
theorem Pn.line_turn {k : Int} (hk : k ≠ 2) (plain : Bool) {r : List Int} (h : ∀ z ∈ r, 0 ≤ z) : Pn.lineV k 1 plain (r.map fun z => 1 - z) = Pn.line k 1 plain r := by
  unfold Pn.lineV Pn.line
  rw [if_neg hk, Pn.pt_one hk r h]
  cases plain
  · unfold Pn.pack
    rw [if_neg hk, if_pos rfl]
    rfl
  · rfl
theorem Pn.line_same {k d : Int} (hkd : k = 2 ↔ d = 24) (hd1 : d ≠ 1) (hd : d = 1 ∨ d = 2 ∨ d = 4 ∨ d = 8 ∨ d = 24) (plain : Bool) {r : List Int} (h : ∀ z ∈ r, 0 ≤ z) : Pn.lineV k d plain r = Pn.line k d plain r := by
  unfold Pn.lineV Pn.line
  by_cases hk : k = 2
  · subst hk
    have h24 : d = 24 := hkd.1 rfl
    subst h24
    rw [if_pos rfl, Pn.pt_rgb r h]
    cases plain
    · unfold Pn.pack Pn.tab
      rw [if_pos rfl]
      show (Bp.text true (Rp.bl 24 r)).map UInt8.ofNat = _
      rw [Pn.text24]
      rfl
    · rfl
  · have h24 : d ≠ 24 := fun e => hk (hkd.2 e)
    rw [if_neg hk, Pn.pt_gray hk hd1 r h]
    cases plain
    · unfold Pn.pack Pn.bits
      rw [if_neg hk, if_neg hd1, if_neg hd1, if_neg h24]
      rfl
    · rfl

theorem row_ints {W : World} {b : Nat} {l : List Int} (h : RowAt W b l) : Ints W (some ⟨b, 0, none⟩) l := .inr ⟨b, 0, rfl, h.lt, fun j hj => by rw [Nat.zero_add]; exact h.cell j hj⟩
/-- a row of the view -/
def Pn.RowOk (k d : Int) (Wd : Nat) (l : List Int) : Prop := l.length = Wd ∧ ∀ z ∈ l, 0 ≤ z ∧ z < 16777216 ∧ (d = 1 → z ≤ 1) ∧ (k = 1 → z < 256)
theorem Pn.lineV_len {k d : Int} {Wd : Nat} {plain : Bool} {l : List Int} (hd : d = 1 ∨ d = 2 ∨ d = 4 ∨ d = 8 ∨ d = 24) (hW : Wd ≤ 20) (h : Pn.RowOk k d Wd l) : (Pn.lineV k d plain l).length ≤ 20000 := by
  have hP : Pn.Pts l := fun z hz => ⟨(h.2 z hz).1, (h.2 z hz).2.1⟩
  have hl := h.1
  unfold Pn.lineV
  cases plain
  · have hb : (Pn.bits d).toNat ≠ 32 ∧ (Pn.bits d).toNat ≤ 24 := by
      unfold Pn.bits
      rcases hd with rfl | rfl | rfl | rfl | rfl <;> decide
    show (List.map _ _).length ≤ _
    rw [List.length_map, Pn.text_len hb.1, hl]
    have := Nat.mul_le_mul hb.2 hW
    omega
  · show (_ ++ [10]).length ≤ _
    rw [List.length_append, List.length_singleton]
    split
    · have h1 := figs_len (Pn.parts_fig hP)
      have h2 := Pn.parts_len l
      omega
    · have h1 := figs_len (Pn.pts_fig hP)
      omega
theorem pnmPut_view (k d : Int) (Wd Hi : Nat) (ca : Option Addr) (cn cc : Nat) (pa : Option Addr) (pn pc : Nat) (cs ps : List Int) (plain : Bool) (T : TypeId) (V : Value) (fs : Nat) (rs : Value) (fa : Nat) (ra : Value) (f : Nat → Nat → Int) (w : World)
    (H : Pn.Held k d (Wd : Int) (Hi : Int) ps) (hok : Im.okB k d (Wd : Int) (Hi : Int) cs ps = true) (hc : Ints w ca cs) (hcn : cs.length = cn) (hcl : cn ≤ 1048576) (hp : Ints w pa ps) (hpn : ps.length = pn) (hpl : pn ≤ 1048576) (ht : Tens w)
    (hVW : ∀ w', Calls Tryd.prog 18 #[.agg #[.int .i64 k, .int .i64 d, .int .i64 (Wd : Int), .int .i64 (Hi : Int), .slice ca cn cc, .slice pa pn pc]] w' fun e w'' => e = .returned (.iface T V) ∧ Below w'.heap.size w' w'')
    (hSN : ∀ w', Ints w' pa ps → Seen T V fs rs fa ra Wd Hi f w'.heap.size w') (hRW : ∀ l ∈ rowsF Wd Hi f, Pn.RowOk k d Wd l) :
    Calls Tryd.prog 7 #[.agg #[.int .i64 k, .int .i64 d, .int .i64 (Wd : Int), .int .i64 (Hi : Int), .slice ca cn cc, .slice pa pn pc], .bool plain] w fun e w' => e = .returned (.string ⟨(Pn.head d (Pn.num k d plain).toNat Wd Hi ++ (rowsF Wd Hi f).flatMap (Pn.lineV k d plain)).toArray⟩) ∧ Below w.heap.size w w' := by
  have hw := H.wide
  have hh := H.high
  have hNb : (Pn.num k d plain).toNat ≤ 6 := by
    unfold Pn.num
    cases plain <;> (split <;> try split) <;> decide
  refine callsIn_wide.1 (pnmPut_gen k d Wd Hi ca cn cc pa pn pc ps plain T V fs rs fa ra f _ (Pn.lineV k d plain) (Pn.RowOk k d Wd) w hp (by omega) (by omega) ht ?_ ?_ ?_ hVW hSN hRW (fun l hl => Pn.lineV_len H.dep (by omega) hl) ?_ ?_ ?_)
  · have e1 := dec_short (n := (Pn.num k d plain).toNat) (by omega)
    have e2 := dec_short (n := Wd) (by omega)
    have e3 := dec_short (n := Hi) (by omega)
    have e4 : (Lib.decDigits (Pn.most d).toNat).length ≤ 10 := dec_short (by unfold Pn.most; repeat' split <;> omega)
    unfold Pn.head
    split <;> simp only [List.length_append, List.length_cons, List.length_nil] <;> omega
  · intro w' b
    have h := pnmHolds_any k d (Wd : Int) (Hi : Int) ca cn cc pa pn pc true w' (fun u bu => by
      have h1 := impl_imageOk k d (Wd : Int) (Hi : Int) ca cn cc pa pn pc u cs ps ((hc.kept b).kept bu) hcn hcl ((hp.kept b).kept bu) hpn hpl
      rw [hok] at h1
      exact h1)
    have hs : (true && (Pn.sort k d != 0)) = true := by
      unfold Pn.sort
      rcases H.k12 with rfl | rfl
      · by_cases h1 : d = 1
        · simp [h1]
        · simp [h1]
      · rfl
    rw [hs] at h
    exact h
  · intro w' ht'
    exact pnmHead_any k d Wd Hi ca cn cc pa pn pc plain _ H.k12 H.dep (Pn.numN plain) (by omega) (by omega) w' ht'
  · intro hpl b l w' hrow hlen hR ht'
    subst hpl
    have hP : Pn.Pts l := fun z hz => ⟨(hR.2 z hz).1, (hR.2 z hz).2.1⟩
    unfold Pn.lineV
    rw [if_pos rfl]
    by_cases h2 : k = 2
    · subst h2
      rw [if_pos rfl]
      exact pnmFigures_rgb _ Wd Wd l w' (row_ints hrow) hlen (by omega) hP ht'
    · rw [if_neg h2]
      exact pnmFigures_low _ Wd Wd l k h2 w' (row_ints hrow) hlen (by omega) hP ht'
  · intro _ w'
    exact pnmBits_any d H.dep w'
  · intro hpl b l w' hrow hlen hR
    subst hpl
    have hF : Rp.Fit (Pn.bits d) l := by
      refine ⟨?_, by omega, fun z hz => ?_⟩
      · unfold Pn.bits depB
        rcases H.dep with rfl | rfl | rfl | rfl | rfl <;> decide
      · obtain ⟨z0, z1, z2, z3⟩ := hR.2 z hz
        refine ⟨z0, ?_⟩
        rcases H.dep with rfl | rfl | rfl | rfl | rfl
        · have := z2 rfl; show z.toNat < 2; omega
        · have : k = 1 := by have h1 := H.k12; have h2 := H.kd; omega
          have := z3 this; show z.toNat < 256; omega
        · have : k = 1 := by have h1 := H.k12; have h2 := H.kd; omega
          have := z3 this; show z.toNat < 256; omega
        · have : k = 1 := by have h1 := H.k12; have h2 := H.kd; omega
          have := z3 this; show z.toNat < 256; omega
        · show z.toNat < 16777216; omega
    have h := impl_rowPut (some ⟨b, 0, none⟩) Wd Wd (Pn.bits d) l w' (row_ints hrow) hlen (by omega) (fun z hz => by have := hR.2 z hz; omega)
    rw [Rp.put_yes hF] at h
    exact h
set_option linter.unusedSimpArgs false in
set_option maxHeartbeats 2000000 in
set_option maxRecDepth 20000 in
theorem impl_pnmPut_no (k d wd hi : Int) (ca : Option Addr) (cn cc : Nat) (pa : Option Addr) (pn pc : Nat) (plain : Bool) (w : World)
    (hH : ∀ w', Below w.heap.size w w' → Calls Tryd.prog 14 #[.agg #[.int .i64 k, .int .i64 d, .int .i64 wd, .int .i64 hi, .slice ca cn cc, .slice pa pn pc]] w' fun e w'' => e = .returned (.bool false) ∧ Below w'.heap.size w' w'') :
    Calls Tryd.prog 7 #[.agg #[.int .i64 k, .int .i64 d, .int .i64 wd, .int .i64 hi, .slice ca cn cc, .slice pa pn pc], .bool plain] w fun e w' => e = .returned (.string ⟨#[]⟩) ∧ Below w.heap.size w w' := by
  obtain ⟨W0, hW0⟩ : ∃ W0, W0 = (w.alloc (.cells #[.int .i64 k, .int .i64 d, .int .i64 wd, .int .i64 hi, .slice ca cn cc, .slice pa pn pc] 27)).alloc (.cells #[.bool plain] 4) := ⟨_, rfl⟩
  have bW : Below w.heap.size w W0 := by rw [hW0]; exact ((Below.refl _ _).alloc (Nat.le_refl _) _).alloc (by simp) _
  have HB0 : Hid (Below w.heap.size w W0) := bW
  have HC : Hid (Calls Tryd.prog 14 #[.agg #[.int .i64 k, .int .i64 d, .int .i64 wd, .int .i64 hi, .slice ca cn cc, .slice pa pn pc]] W0 fun e w'' => e = .returned (.bool false) ∧ Below W0.heap.size W0 w'') := hH W0 bW
  have X0 : Bx W0 w.heap.size (.int .i64 k) (.int .i64 d) (.int .i64 wd) (.int .i64 hi) (.slice ca cn cc) (.slice pa pn pc) := by
    rw [hW0]
    exact (bx_new w _ _ _ _ _ _ 27).kept ((Below.refl _ _).alloc (Nat.le_refl _) _)
  obtain ⟨_, a0, a1, a2, a3, a4, a5⟩ := X0
  rw [hW0] at a0 a1 a2 a3 a4 a5
  clear hH bW
  go_enter Tryd.func7, Tryd.ntmps7
  go_wp2_with fail
  rw [← hW0]
  refine HC.out.mono ?_
  rintro e w1 ⟨rfl, b1⟩
  have HE : Hid (Below w.heap.size w w1) := HB0.out.trans (b1.mono HB0.out.size)
  clear b1 HC HB0 hW0 a0 a1 a2 a3 a4 a5
  go_wp2_with fail
  go_ret
  exact ⟨rfl, HE.out⟩
theorem impl_pnmPut (k d wd hi : Int) (ca : Option Addr) (cn cc : Nat) (pa : Option Addr) (pn pc : Nat) (cs ps : List Int) (plain : Bool) (w : World) (hc : Ints w ca cs) (hcn : cs.length = cn) (hcl : cn ≤ 1048576) (hp : Ints w pa ps) (hpn : ps.length = pn) (hpl : pn ≤ 1048576) (ht : Tens w) :
    Calls Tryd.prog 7 #[.agg #[.int .i64 k, .int .i64 d, .int .i64 wd, .int .i64 hi, .slice ca cn cc, .slice pa pn pc], .bool plain] w fun e w' => e = .returned (.string ⟨(Pn.ans k d wd hi cs ps plain).toArray⟩) ∧ Below w.heap.size w w' := by
  unfold Pn.ans
  cases hg : (Im.okB k d wd hi cs ps && Pn.rep k) with
  | false =>
    rw [if_neg (by decide)]
    refine impl_pnmPut_no k d wd hi ca cn cc pa pn pc plain w (fun w' b => ?_)
    have h := pnmHolds_any k d wd hi ca cn cc pa pn pc (Im.okB k d wd hi cs ps) w' (fun u bu => impl_imageOk k d wd hi ca cn cc pa pn pc u cs ps ((hc.kept b).kept bu) hcn hcl ((hp.kept b).kept bu) hpn hpl)
    have e : (Im.okB k d wd hi cs ps && (Pn.sort k d != 0)) = false := by
      rw [← hg]
      congr 1
      unfold Pn.sort Pn.rep
      by_cases h1 : k = 1
      · rw [if_pos h1]
        by_cases hd1 : d = 1 <;> simp [h1, hd1]
      · rw [if_neg h1]
        by_cases h2 : k = 2
        · rw [if_pos h2]; simp [h2]
        · rw [if_neg h2]; simp [h1, h2]
    rw [e] at h
    exact h
  | true =>
    rw [if_pos rfl]
    have H := Pn.held hg
    have hok : Im.okB k d wd hi cs ps = true := by rw [Bool.and_eq_true] at hg; exact hg.1
    obtain ⟨Wd, hWd⟩ := Int.eq_ofNat_of_zero_le (show 0 ≤ wd by have := H.wide; omega)
    obtain ⟨Hi, hHi⟩ := Int.eq_ofNat_of_zero_le (show 0 ≤ hi by have := H.high; omega)
    subst hWd
    subst hHi
    rw [Int.toNat_natCast, Int.toNat_natCast]
    have hm : ps.length = Wd * Hi := by exact_mod_cast H.len
    have hw := H.wide
    have hh := H.high
    have h0 : ∀ r ∈ rowsOfL Wd Hi ps, ∀ z ∈ r, 0 ≤ z := fun r hr z hz => (H.pts z ((Pn.rows_mem hm hr).1 z hz)).1
    by_cases hd1 : d = 1
    · subst hd1
      have hk : k ≠ 2 := fun e => by have := H.kd.1 e; omega
      have hk1 : k = 1 := by have := H.k12; omega
      subst hk1
      have h := pnmPut_view 1 1 Wd Hi ca cn cc pa pn pc cs ps plain _ _ _ _ _ _ _ w H hok hc hcn hcl hp hpn hpl ht (fun w' => by have h := pnmView_any 1 1 (Wd : Int) (Hi : Int) ca cn cc pa pn pc w'; rw [if_pos rfl] at h; exact h)
        (fun w' hI => pnm_seen Wd Hi ca cn cc pa pn pc ps w' hI hpn (by omega) (by omega) (by omega) (fun v hv => ⟨(H.pts v hv).1, (H.pts v hv).2.2.1 rfl⟩))
        (fun l hl => by
          rw [Pn.rows_turn] at hl
          obtain ⟨r, hr, rfl⟩ := List.mem_map.1 hl
          obtain ⟨m1, m2⟩ := Pn.rows_mem hm hr
          refine ⟨by rw [List.length_map]; exact m2, fun z hz => ?_⟩
          obtain ⟨q, hq, rfl⟩ := List.mem_map.1 hz
          have e := H.pts q (m1 q hq)
          have := e.2.2.1 rfl
          omega)
      rw [Pn.rows_turn, List.flatMap_map] at h
      have e : (rowsOfL Wd Hi ps).flatMap (fun r => Pn.lineV 1 1 plain (r.map fun z => 1 - z)) = (rowsOfL Wd Hi ps).flatMap (Pn.line 1 1 plain) := by
        rw [List.flatMap_def, List.flatMap_def]
        congr 1
        exact List.map_congr_left (fun r hr => Pn.line_turn hk plain (h0 r hr))
      rw [e] at h
      exact h
    · have h := pnmPut_view k d Wd Hi ca cn cc pa pn pc cs ps plain _ _ _ _ _ _ _ w H hok hc hcn hcl hp hpn hpl ht (fun w' => by have h := pnmView_any k d (Wd : Int) (Hi : Int) ca cn cc pa pn pc w'; rw [if_neg hd1] at h; exact h)
        (fun w' hI => plain_seen k d Wd Hi ca cn cc pa pn pc ps w' hI hpn (by omega) (by omega) (by omega))
        (fun l hl => by
          rw [Pn.rows_same] at hl
          obtain ⟨m1, m2⟩ := Pn.rows_mem hm hl
          exact ⟨m2, fun z hz => H.pts z (m1 z hz)⟩)
      rw [Pn.rows_same] at h
      have e : (rowsOfL Wd Hi ps).flatMap (Pn.lineV k d plain) = (rowsOfL Wd Hi ps).flatMap (Pn.line k d plain) := by
        rw [List.flatMap_def, List.flatMap_def]
        congr 1
        exact List.map_congr_left (fun r hr => Pn.line_same H.kd hd1 H.dep plain (h0 r hr))
      rw [e] at h
      exact h
end Go.Proofs.YtbfeonhokagdjaaDoor

/- The exact law of PnmPut, walked. -/
namespace Go.Proofs.YtbfeonhokagdjaaDoor
open Go.RowKit

set_option maxHeartbeats 2000000 in
set_option maxRecDepth 20000 in
theorem exPnmPut (k d wd hi : Int) (ca : Option Addr) (cn cc : Nat) (pa : Option Addr) (pn pc : Nat) (bo : Bool) (w : World) (hc : Row64 w ca cn cc) (hp : Row64 w pa pn pc) (ht : Tens w) :
    Calls Tryd.prog 3 #[.agg #[.int .i64 k, .int .i64 d, .int .i64 wd, .int .i64 hi, .slice ca cn cc, .slice pa pn pc], .bool bo] w fun e w' => e = .returned (.bool true) ∧ Below w.heap.size w w' := by
  obtain ⟨_, hcm, cs, hcn, hIc, _⟩ := hc
  obtain ⟨_, hpm, ps, hpn, hIp, _⟩ := hp
  unfold maxLen at hcm hpm
  have hB0 : Below w.heap.size w (w.alloc (.cells #[.int .i64 k, .int .i64 d, .int .i64 wd, .int .i64 hi, .slice ca cn cc, .slice pa pn pc] 24)) := (Below.refl _ _).alloc (Nat.le_refl _) _
  by_cases hbig : 1048576 < cn + pn
  · have HZ : Hid (Calls Tryd.prog 4 #[.agg #[.int .i64 k, .int .i64 d, .int .i64 wd, .int .i64 hi, .slice ca cn cc, .slice pa pn pc], .int .i64 1048576] (w.alloc (.cells #[.int .i64 k, .int .i64 d, .int .i64 wd, .int .i64 hi, .slice ca cn cc, .slice pa pn pc] 24)) fun e w' => e = .returned (.int .i64 (-1)) ∧ Below (w.alloc (.cells #[.int .i64 k, .int .i64 d, .int .i64 wd, .int .i64 hi, .slice ca cn cc, .slice pa pn pc] 24)).heap.size (w.alloc (.cells #[.int .i64 k, .int .i64 d, .int .i64 wd, .int .i64 hi, .slice ca cn cc, .slice pa pn pc] 24)) w') := szImage_big k d wd hi ca cn cc pa pn pc _ (by omega) (by omega) hbig
    clear hIc hIp hcn hpn ht
    go_enter Tryd.func3, Tryd.ntmps3
    go_wp2_with fail
    refine HZ.out.mono ?_
    rintro e w1 ⟨rfl, b1⟩
    have bel1 := hB0.trans (b1.mono (by simp))
    clear b1 HZ hB0
    go_wp2_with fail
    go_ret
    exact ⟨rfl, bel1⟩
  · refine exPnmPut_core k d wd hi ca cn cc pa pn pc bo ⟨(Pn.ans k d wd hi cs ps bo).toArray⟩ cs ps w hIc hIp hcn hpn (by omega) ?_ ?_
    · exact fun x y w' h1 h2 => spec_pnmPut k d wd hi x cn cn y pn pn cs ps bo w' h1 hcn (by omega) h2 hpn (Nat.le_refl _)
    · exact fun x y w' b h1 h2 => impl_pnmPut k d wd hi x cn cn y pn pn cs ps bo w' h1 hcn (by omega) h2 hpn (by omega) (ht.below b)
end Go.Proofs.YtbfeonhokagdjaaDoor
