/- ImageRgb of the program. -/
import Derived.Test.YtchaepkdpbiffaaRgbSeen
import Derived.Test.YtchaepkdpbiffaaRgbMath
import Derived.Test.YtchaepkdpbiffaaPicLaw
import Derived.Test.YtchaepkdpbiffaaBlankSpec
import Derived.Test.YtchaepkdpbiffaaSixRow
import Derived.Test.YtchaepkdpbiffaaRnWent
namespace Go.Proofs.Ytchaepkdpbiffaa
open Go.RowKit Go.Shelf

attribute [local go_sem] Oper.semAt_some

theorem heap_setCell_other (w : World) (a : Addr) (u : Value) (k : Nat) (h : k ≠ a.block) : (w.setCell a u).heap[k]? = w.heap[k]? := by
  simp only [World.setCell, Array.getElem?_modify]
  rw [if_neg (Ne.symm h)]

theorem heap_alloc3_mid (w : World) (a b c : Obj) : (((w.alloc a).alloc b).alloc c).heap[w.heap.size + 1]? = some b :=
  (Below.heap_alloc _ _ _ (by simp)).trans (by have := World.alloc_heap_new (w.alloc a) b; rwa [World.size_alloc] at this)
theorem heap_alloc3_end (w : World) (a b c : Obj) : (((w.alloc a).alloc b).alloc c).heap[w.heap.size + 2]? = some c := by
  have := World.alloc_heap_new ((w.alloc a).alloc b) c; rwa [World.size_alloc, World.size_alloc] at this
theorem heap_alloc3_first (w : World) (a b c : Obj) : (((w.alloc a).alloc b).alloc c).heap[w.heap.size]? = some a :=
  (Below.heap_alloc _ _ _ (by simp; omega)).trans ((Below.heap_alloc _ _ _ (by simp)).trans (World.alloc_heap_new w a))

set_option maxHeartbeats 1000000 in
set_option maxRecDepth 20000 in
theorem impl_rgb_no (k d wd hi : Int) (ca : Option Addr) (cn cc : Nat) (pa : Option Addr) (pn pc : Nat) (w : World)
    (hO : ∀ w', Below w.heap.size w w' → Calls Try.prog 12 #[.agg #[.int .i64 k, .int .i64 d, .int .i64 wd, .int .i64 hi, .slice ca cn cc, .slice pa pn pc]] w' fun e w'' => e = .returned (.bool false) ∧ Below w'.heap.size w' w'') :
    Calls Try.prog 9 #[.agg #[.int .i64 k, .int .i64 d, .int .i64 wd, .int .i64 hi, .slice ca cn cc, .slice pa pn pc]] w fun e w' => e = .returned (.tuple #[.agg #[.int .i64 0, .int .i64 0, .int .i64 0, .int .i64 0, .slice none 0 0, .slice none 0 0], .bool false]) ∧ Below w.heap.size w w' := by
  have hB0 : Below w.heap.size w (((w.alloc (.cells #[.int .i64 k, .int .i64 d, .int .i64 wd, .int .i64 hi, .slice ca cn cc, .slice pa pn pc] 25)).alloc (.cells #[.int .i64 0, .int .i64 0, .int .i64 0, .int .i64 0, .slice none 0 0, .slice none 0 0] 25)).alloc (.cells #[.bool false] 4)) := (((Below.refl _ _).alloc (Nat.le_refl _) _).alloc (by simp) _).alloc (by simp; omega) _
  have HO : Hid (∀ w', Below w.heap.size w w' → Calls Try.prog 12 #[.agg #[.int .i64 k, .int .i64 d, .int .i64 wd, .int .i64 hi, .slice ca cn cc, .slice pa pn pc]] w' fun e w'' => e = .returned (.bool false) ∧ Below w'.heap.size w' w'') := hO
  clear hO
  have HZ : Hid ((((w.alloc (.cells #[.int .i64 k, .int .i64 d, .int .i64 wd, .int .i64 hi, .slice ca cn cc, .slice pa pn pc] 25)).alloc (.cells #[.int .i64 0, .int .i64 0, .int .i64 0, .int .i64 0, .slice none 0 0, .slice none 0 0] 25)).alloc (.cells #[.bool false] 4)).heap[w.heap.size + 1]? = some (.cells #[.int .i64 0, .int .i64 0, .int .i64 0, .int .i64 0, .slice none 0 0, .slice none 0 0] 25 (0, 0))) := heap_alloc3_mid _ _ _ _
  have HF : Hid ((((w.alloc (.cells #[.int .i64 k, .int .i64 d, .int .i64 wd, .int .i64 hi, .slice ca cn cc, .slice pa pn pc] 25)).alloc (.cells #[.int .i64 0, .int .i64 0, .int .i64 0, .int .i64 0, .slice none 0 0, .slice none 0 0] 25)).alloc (.cells #[.bool false] 4)).heap[w.heap.size + 2]? = some (.cells #[.bool false] 4 (0, 0))) := heap_alloc3_end _ _ _ _
  go_enter Try.func9, Try.ntmps9
  go_wp2_with fail
  refine (HO.out _ hB0).mono ?_
  rintro e w1 ⟨rfl, b1⟩
  have bel1 := hB0.trans (b1.mono hB0.size)
  have hz1 : w1.heap[w.heap.size + 1]? = some (.cells #[.int .i64 0, .int .i64 0, .int .i64 0, .int .i64 0, .slice none 0 0, .slice none 0 0] 25 (0, 0)) := (b1.block _ (by simp)).trans HZ.out
  have hf1 : Boxed w1 (w.heap.size + 2) 4 (.bool false) := (b1.block _ (by simp)).trans HF.out
  have hI6 : (Try.prog.info? 25).map (·.size) = some (#[Value.int .i64 0, .int .i64 0, .int .i64 0, .int .i64 0, .slice none 0 0, .slice none 0 0]).size := by kernel_rfl
  have h16 : (#[Value.int .i64 0, .int .i64 0, .int .i64 0, .int .i64 0, .slice none 0 0, .slice none 0 0]).all (·.oneCell') = true := by simp [Value.oneCell']
  have hs2 := setRow_heap w1 (w.heap.size + 1) _ #[.int .i64 0, .int .i64 0, .int .i64 0, .int .i64 0, .slice none 0 0, .slice none 0 0] _ _ hz1
  obtain ⟨⟨z0, z1, z2, z3, z4, z5⟩, _⟩ := box6 hs2
  have hf2 : Boxed (w1.setRow (w.heap.size + 1) #[.int .i64 0, .int .i64 0, .int .i64 0, .int .i64 0, .slice none 0 0, .slice none 0 0]) (w.heap.size + 2) 4 (.bool false) := (setRow_other _ _ _ _ (by omega)).trans hf1
  have hfc := hf2.cell
  have hff := hf2.frozen
  clear b1 hB0 HO HZ HF hf1
  go_wp2_with (refine wpList_store_row rfl 25 (.tmp 2) (.tmp 9) rfl (w.heap.size + 1) #[.int .i64 0, .int .i64 0, .int .i64 0, .int .i64 0, .slice none 0 0, .slice none 0 0] rfl rfl 25 #[.int .i64 0, .int .i64 0, .int .i64 0, .int .i64 0, .slice none 0 0, .slice none 0 0] hz1 hI6 rfl h16 ?_)
  refine bodyPost_ret (v := .tuple #[.agg #[.int .i64 0, .int .i64 0, .int .i64 0, .int .i64 0, .slice none 0 0, .slice none 0 0], .bool false]) (by simp [results, Try.results9, go_sem, z0, z1, z2, z3, z4, z5, hfc]) rfl ⟨rfl, ?_⟩
  exact (bel1.trans ((below_setRow _ _ _).mono (by omega))).setCell (by show w.heap.size ≤ w.heap.size + 1 + 1; omega) _

theorem Owns.above {w w' : World} {lo : Nat} {a : Option Addr} {l : List Int} (h : Owns w lo a l) (hs : w.heap.size ≤ w'.heap.size) (hb : ∀ k, lo ≤ k → w'.heap[k]? = w.heap[k]?) : Owns w' lo a l := by
  rcases h with e | ⟨b, rfl, hlo, h2, h3⟩
  · exact .inl e
  · have hh := hb b hlo
    exact .inr ⟨b, rfl, hlo, Nat.lt_of_lt_of_le h2 hs, fun i hi => ⟨(World.cell?_of_block (w := w) (a := ⟨b, i, none⟩) hh).trans (h3 i hi).1, (World.frozen?_of_block (w := w) (a := ⟨b, i, none⟩) hh).trans (h3 i hi).2⟩⟩
theorem Pair2.above {w w' : World} {lo : Nat} {x y : Option Addr} {cs ps : List Int} (h : Pair2 w lo x cs y ps) (hs : w.heap.size ≤ w'.heap.size) (hb : ∀ k, lo ≤ k → w'.heap[k]? = w.heap[k]?) : Pair2 w' lo x cs y ps := by
  obtain ⟨m, h1, h2, h3, h4⟩ := h
  exact ⟨m, h1, h2.above hs hb, h3, h4.above hs (fun k hk => hb k (Nat.le_trans h1 hk))⟩

/-- a point that is less than dense was met: what is answered lies there -/
def RgbX (w : World) (c : Code) (pre : List Int) (W : World) : Prop :=
  c = .ret ∧ (∃ z ∈ pre, ¬ z.tmod 256 = 255) ∧ W.heap[w.heap.size + 1]? = some (.cells #[.int .i64 0, .int .i64 0, .int .i64 0, .int .i64 0, .slice none 0 0, .slice none 0 0] 25 (0, 0)) ∧ W.heap[w.heap.size + 2]? = some (.cells #[.bool false] 4 (0, 0)) ∧ Below w.heap.size w W

theorem rgbX_own (w : World) (c : Code) (B : Nat) (hB : w.heap.size + 3 ≤ B) : OwnFrom B (RgbX w c) := by
  rintro pre X Y row ⟨h1, h2, h3, h4, h5⟩ hg hrow
  have hne : ∀ k, k < w.heap.size + 3 → some k ≠ row := fun k hk e => by have := (hrow k e.symm).1; omega
  exact ⟨h1, h2, (hg.block _ (lt_of_at h3) (hne _ (by omega))).trans h3, (hg.block _ (lt_of_at h4) (hne _ (by omega))).trans h4, h5.grown hg h5.size (fun k e => by have := (hrow k e).1; omega)⟩

def RgbI (W0 : World) (pre : List Int) (W : World) : Prop := (∀ z ∈ pre, z.tmod 256 = 255) ∧ Below W0.heap.size W0 W

theorem rgbI_own (W0 : World) : OwnFrom W0.heap.size (RgbI W0) := by
  rintro pre X Y row ⟨h1, h2⟩ hg hrow
  exact ⟨h1, h2.grown hg h2.size (fun k e => (hrow k e).1)⟩

set_option maxRecDepth 100000 in
set_option maxHeartbeats 4000000 in
theorem impl_rgb_in (k : Int) (D Wd Hi : Nat) (ca : Option Addr) (cn cc : Nat) (pa : Option Addr) (pn pc : Nat) (cs ps : List Int) (w : World) (hok : Im.Ok k (D : Int) (Wd : Int) (Hi : Int) cs ps) (hc : Ints w ca cs) (hcn : cs.length = cn) (hp : Ints w pa ps) (hpn : ps.length = pn) (hW : Wd ≤ 20) (hH : Hi ≤ 20) (hm : pn = Wd * Hi)
    (hO : ∀ w', Below w.heap.size w w' → Calls Try.prog 12 #[.agg #[.int .i64 k, .int .i64 (D : Int), .int .i64 (Wd : Int), .int .i64 (Hi : Int), .slice ca cn cc, .slice pa pn pc]] w' fun e w'' => e = .returned (.bool true) ∧ Below w'.heap.size w' w'') :
    CallsIn Fence.wide 2 Try.prog 9 #[.agg #[.int .i64 k, .int .i64 (D : Int), .int .i64 (Wd : Int), .int .i64 (Hi : Int), .slice ca cn cc, .slice pa pn pc]] w fun e w' =>
      (((∀ z ∈ cols k D cs ps, z.tmod 256 = 255) ∧ ∃ x cx y cy, e = .returned (.tuple #[.agg #[.int .i64 2, .int .i64 24, .int .i64 (Wd : Int), .int .i64 (Hi : Int), .slice x 0 cx, .slice y (Wd * Hi) cy], .bool true]) ∧ Pair2 w' w.heap.size x [] y (upto (ptF Wd (fun x y => colF k D cs Wd ps x y / 256)) (Wd * Hi))) ∨
       ((∃ z ∈ cols k D cs ps, ¬ z.tmod 256 = 255) ∧ e = .returned (.tuple #[.agg #[.int .i64 0, .int .i64 0, .int .i64 0, .int .i64 0, .slice none 0 0, .slice none 0 0], .bool false]))) ∧ Below w.heap.size w w' := by
  have hro : Fence.wide.round = none := rfl
  have hB0 : Below w.heap.size w (((w.alloc (.cells #[.int .i64 k, .int .i64 (D : Int), .int .i64 (Wd : Int), .int .i64 (Hi : Int), .slice ca cn cc, .slice pa pn pc] 25)).alloc (.cells #[.int .i64 0, .int .i64 0, .int .i64 0, .int .i64 0, .slice none 0 0, .slice none 0 0] 25)).alloc (.cells #[.bool false] 4)) := (((Below.refl _ _).alloc (Nat.le_refl _) _).alloc (by simp) _).alloc (by simp; omega) _
  have HO : Hid (∀ w', Below w.heap.size w w' → Calls Try.prog 12 #[.agg #[.int .i64 k, .int .i64 (D : Int), .int .i64 (Wd : Int), .int .i64 (Hi : Int), .slice ca cn cc, .slice pa pn pc]] w' fun e w'' => e = .returned (.bool true) ∧ Below w'.heap.size w' w'') := hO
  clear hO
  have HZ : Hid ((((w.alloc (.cells #[.int .i64 k, .int .i64 (D : Int), .int .i64 (Wd : Int), .int .i64 (Hi : Int), .slice ca cn cc, .slice pa pn pc] 25)).alloc (.cells #[.int .i64 0, .int .i64 0, .int .i64 0, .int .i64 0, .slice none 0 0, .slice none 0 0] 25)).alloc (.cells #[.bool false] 4)).heap[w.heap.size + 1]? = some (.cells #[.int .i64 0, .int .i64 0, .int .i64 0, .int .i64 0, .slice none 0 0, .slice none 0 0] 25 (0, 0))) := heap_alloc3_mid _ _ _ _
  have HF : Hid ((((w.alloc (.cells #[.int .i64 k, .int .i64 (D : Int), .int .i64 (Wd : Int), .int .i64 (Hi : Int), .slice ca cn cc, .slice pa pn pc] 25)).alloc (.cells #[.int .i64 0, .int .i64 0, .int .i64 0, .int .i64 0, .slice none 0 0, .slice none 0 0] 25)).alloc (.cells #[.bool false] 4)).heap[w.heap.size + 2]? = some (.cells #[.bool false] 4 (0, 0))) := heap_alloc3_end _ _ _ _
  have A0 : Hid (Bx (((w.alloc (.cells #[.int .i64 k, .int .i64 (D : Int), .int .i64 (Wd : Int), .int .i64 (Hi : Int), .slice ca cn cc, .slice pa pn pc] 25)).alloc (.cells #[.int .i64 0, .int .i64 0, .int .i64 0, .int .i64 0, .slice none 0 0, .slice none 0 0] 25)).alloc (.cells #[.bool false] 4)) w.heap.size (.int .i64 k) (.int .i64 (D : Int)) (.int .i64 (Wd : Int)) (.int .i64 (Hi : Int)) (.slice ca cn cc) (.slice pa pn pc)) := ((bx_new w _ _ _ _ _ _ 25).kept ((Below.refl _ _).alloc (Nat.le_refl _) _)).kept ((Below.refl _ _).alloc (Nat.le_refl _) _)
  have HCN : Hid (∀ w', Below w.heap.size w w' → Calls Try.prog 31 #[.agg #[.int .i64 k, .int .i64 (D : Int), .int .i64 (Wd : Int), .int .i64 (Hi : Int), .slice ca cn cc, .slice pa pn pc]] w' fun e w'' => (∃ V fs rs fa ra, e = .returned (.iface 54 V) ∧ Nest V fs rs ∧ Seen 54 V fs rs fa ra Wd Hi (colF k D cs Wd ps) w''.heap.size w'') ∧ Below w'.heap.size w' w'') := fun w' b => colored_nest k D Wd Hi ca cn cc pa pn pc cs ps w' hok (hc.kept b) hcn (hp.kept b) hpn hW hH hm
  have HCO : Hid (upto (ptF Wd (colF k D cs Wd ps)) (Wd * Hi) = cols k D cs ps) := cols_upto k D cs ps Wd Hi (by rw [hpn, hm])
  have HFB : Hid (∀ x y, x < Wd → y < Hi → ∃ v : Nat, colF k D cs Wd ps x y = (v : Int) ∧ v ≤ 4294967295) := fun x y hx hy => by
    have hs := (spot_in hx hy hW hH hm).lt
    have hjl : y * Wd + x < ps.length := by rw [hpn]; exact hs
    have hmm : ps.getD (y * Wd + x) 0 ∈ ps := by rw [List.getD_eq_getElem?_getD, List.getElem?_eq_getElem hjl]; exact List.getElem_mem hjl
    obtain ⟨b0, b1, _⟩ := col_bounds hok hmm
    obtain ⟨c, hc⟩ := Int.eq_ofNat_of_zero_le b0
    exact ⟨c, hc, by omega⟩
  clear hok hc hcn hp hpn hm
  refine callsIn_of_wp_marks Try.func9 rfl trivial ?_ hro
  simp only [Try.ntmps9, List.size_toArray, List.length_cons, List.length_nil, Nat.reduceAdd, Nat.reduceSub, Array.replicate_succ, Array.replicate_zero, List.push_toArray, List.append_toArray, List.nil_append, List.cons_append]
  gi_wp2
  refine ⟨trivial, ?_⟩
  gi_wp2
  refine (callsIn_wide.2 (HO.out _ hB0)).mono ?_
  rintro e w1 ⟨rfl, b1⟩
  have bel1 := hB0.trans (b1.mono hB0.size)
  have A1 : Hid (Bx w1 w.heap.size (.int .i64 k) (.int .i64 (D : Int)) (.int .i64 (Wd : Int)) (.int .i64 (Hi : Int)) (.slice ca cn cc) (.slice pa pn pc)) := A0.out.kept b1
  have HZ1 : Hid (w1.heap[w.heap.size + 1]? = some (.cells #[.int .i64 0, .int .i64 0, .int .i64 0, .int .i64 0, .slice none 0 0, .slice none 0 0] 25 (0, 0))) := (b1.block _ (by simp)).trans HZ.out
  have HF1 : Hid (w1.heap[w.heap.size + 2]? = some (.cells #[.bool false] 4 (0, 0))) := (b1.block _ (by simp)).trans HF.out
  have hlt1 : w.heap.size + 3 ≤ w1.heap.size := Nat.le_trans (by simp) b1.size
  clear b1 hB0 HO A0 HZ HF
  obtain ⟨_, a0, a1, a2, a3, a4, a5⟩ := A1.out
  gi_wp2
  refine ⟨trivial, ?_⟩
  gi_wp2
  refine (callsIn_wide.2 (HCN.out w1 bel1)).mono ?_
  rintro e w2 ⟨⟨V, fs, rs, fa, ra, rfl, _, S⟩, b2⟩
  clear a0 a1 a2 a3 a4 a5
  gi_wp2
  refine ⟨trivial, ?_⟩
  gi_wp2
  refine (callsIn_wide.2 (pointsOf_any _ _ w2)).mono ?_
  rintro e w3 ⟨rfl, hw3⟩
  have HT := points_tells 1 (Nat.le_refl _) _ V fs rs fa ra Wd Hi _ hW hH w2 S
  rw [HCO.out] at HT
  rw [← hw3] at HT
  have b3 : Below w1.heap.size w1 w3 := by rw [hw3]; exact b2.alloc b2.size _
  have bel3 : Below w.heap.size w w3 := bel1.trans (b3.mono bel1.size)
  have A3 : Hid (Bx w3 w.heap.size (.int .i64 k) (.int .i64 (D : Int)) (.int .i64 (Wd : Int)) (.int .i64 (Hi : Int)) (.slice ca cn cc) (.slice pa pn pc)) := A1.out.kept b3
  have HZ3 : Hid (w3.heap[w.heap.size + 1]? = some (.cells #[.int .i64 0, .int .i64 0, .int .i64 0, .int .i64 0, .slice none 0 0, .slice none 0 0] 25 (0, 0))) := (b3.block _ (by omega)).trans HZ1.out
  have HF3 : Hid (w3.heap[w.heap.size + 2]? = some (.cells #[.bool false] 4 (0, 0))) := (b3.block _ (by omega)).trans HF1.out
  have hlt3 : w.heap.size + 3 ≤ w3.heap.size := Nat.le_trans hlt1 b3.size
  clear b3 b2 S hw3 A1 HZ1 HF1 hlt1 bel1
  gi_wp2
  refine wpIn_rangeFunc_ownG hro (by omega) (gf := 62) (lb := _) rfl trivial (enters_of Try.func62 (by kernel_rfl) rfl) HT belowK_t (belowK_b (Nat.le_refl _)) (Below.refl _ _) (fun _ => rfl)
    (RgbI w3) (RgbX w) (rgbI_own w3) (fun c => rgbX_own w c _ hlt3) ⟨fun z hz => by simp at hz, Below.refl _ _⟩
    (fun x => { tmps := #[.agg #[.int .i64 k, .int .i64 (D : Int), .int .i64 (Wd : Int), .int .i64 (Hi : Int), .slice ca cn cc, .slice pa pn pc], .pointer (some ⟨w.heap.size, 0, none⟩), .pointer (some ⟨w.heap.size + 1, 0, none⟩), .pointer (some ⟨w.heap.size + 2, 0, none⟩), .int .i64 x, undef, .agg #[.int .i64 k, .int .i64 (D : Int), .int .i64 (Wd : Int), .int .i64 (Hi : Int), .slice ca cn cc, .slice pa pn pc], .bool true, .bool false, undef, .agg #[.int .i64 k, .int .i64 (D : Int), .int .i64 (Wd : Int), .int .i64 (Hi : Int), .slice ca cn cc, .slice pa pn pc], .iface 54 V, .func (.func 62) #[] #[.pointer (some ⟨w2.heap.size, 0, none⟩)], .int .i64 x, undef, undef, undef, undef, undef, undef, undef, undef, undef, undef], defers := [] }) ?assign ?body ?done ?stop
  case assign =>
    intro l x W K hK
    gi_wp2
    exact hK
  case body =>
    rintro l pre x W ⟨hd, hB⟩ hlt
    have hI6 : (Try.prog.info? 25).map (·.size) = some (#[Value.int .i64 0, .int .i64 0, .int .i64 0, .int .i64 0, .slice none 0 0, .slice none 0 0]).size := by kernel_rfl
    have h16 : (#[Value.int .i64 0, .int .i64 0, .int .i64 0, .int .i64 0, .slice none 0 0, .slice none 0 0]).all (·.oneCell') = true := by simp [Value.oneCell']
    by_cases hx : x.tmod 256 = 255
    · have hb : (x.tmod 256 != 255) = false := by rw [hx]; rfl
      have HX : Hid (x.tmod 256 = 255) := hx
      clear hx
      gi_wp2
      refine ⟨KeepsFrom.refl _ _, Below.refl _ _, ?_, hB⟩
      intro z hz
      rcases List.mem_append.1 hz with h | h
      · exact hd z h
      · rw [List.mem_singleton.1 h]; exact HX.out
    · have hb : (x.tmod 256 != 255) = true := by rw [bne_iff_ne]; exact hx
      have hzW : W.heap[w.heap.size + 1]? = some (.cells #[.int .i64 0, .int .i64 0, .int .i64 0, .int .i64 0, .slice none 0 0, .slice none 0 0] 25 (0, 0)) := (hB.block _ (by omega)).trans HZ3.out
      have hfW : Boxed W (w.heap.size + 2) 4 (.bool false) := (hB.block _ (by omega)).trans HF3.out
      have HQ : Hid (RgbX w .ret (pre ++ [x]) ((W.setRow (w.heap.size + 1) #[.int .i64 0, .int .i64 0, .int .i64 0, .int .i64 0, .slice none 0 0, .slice none 0 0]).setCell ⟨w.heap.size + 2, 0, none⟩ (.bool false)) ∧ KeepsFrom w3.heap.size W ((W.setRow (w.heap.size + 1) #[.int .i64 0, .int .i64 0, .int .i64 0, .int .i64 0, .slice none 0 0, .slice none 0 0]).setCell ⟨w.heap.size + 2, 0, none⟩ (.bool false))) := by
        have hs := setRow_heap W (w.heap.size + 1) _ #[.int .i64 0, .int .i64 0, .int .i64 0, .int .i64 0, .slice none 0 0, .slice none 0 0] _ _ hzW
        have hf2 : Boxed (W.setRow (w.heap.size + 1) #[.int .i64 0, .int .i64 0, .int .i64 0, .int .i64 0, .slice none 0 0, .slice none 0 0]) (w.heap.size + 2) 4 (.bool false) := (setRow_other _ _ _ _ (by omega)).trans hfW
        refine ⟨⟨rfl, ⟨x, by simp, hx⟩, ?_, hf2.set _, ?_⟩, ?_, ?_⟩
        · rw [heap_setCell_other _ _ _ _ (by show w.heap.size + 1 ≠ w.heap.size + 2; omega)]; exact hs
        · exact ((bel3.trans (hB.mono bel3.size)).trans ((below_setRow _ _ _).mono (by omega))).setCell (by show w.heap.size ≤ w.heap.size + 2; omega) _
        · simp
        · intro j o hj ho _
          rw [heap_setCell_other _ _ _ _ (by show j ≠ w.heap.size + 2; omega), setRow_other _ _ _ _ (by omega)]; exact ho
      obtain ⟨⟨z0, z1, z2, z3, z4, z5⟩, f0, f1, f2, f3, f4, f5⟩ := box6 hzW
      have hfc := hfW.cell
      have hff := hfW.frozen
      have hsix := six_row hzW (.int .i64 0) (.int .i64 0) (.int .i64 0) (.int .i64 0) (.slice none 0 0) (.slice none 0 0)
      have HSX : Hid (((((((W.setCell ⟨w.heap.size + 1, 0, none⟩ (.int .i64 0)).setCell ⟨w.heap.size + 1, 1, none⟩ (.int .i64 0)).setCell ⟨w.heap.size + 1, 2, none⟩ (.int .i64 0)).setCell ⟨w.heap.size + 1, 3, none⟩ (.int .i64 0)).setCell ⟨w.heap.size + 1, 4, none⟩ (.slice none 0 0)).setCell ⟨w.heap.size + 1, 5, none⟩ (.slice none 0 0)).setCell ⟨w.heap.size + 2, 0, none⟩ (.bool false) = (W.setRow (w.heap.size + 1) #[.int .i64 0, .int .i64 0, .int .i64 0, .int .i64 0, .slice none 0 0, .slice none 0 0]).setCell ⟨w.heap.size + 2, 0, none⟩ (.bool false)) := by show _ = _; rw [hsix]
      clear hsix hzW hfW hd hB hI6 h16
      gi_wp2
      rw [HSX.out]
      exact ⟨HQ.out.2, HQ.out.1⟩
  case done =>
    rintro DD ys W hD hys ⟨hd, hB⟩ hK
    subst hys
    have AW : Hid (Bx W w.heap.size (.int .i64 k) (.int .i64 (D : Int)) (.int .i64 (Wd : Int)) (.int .i64 (Hi : Int)) (.slice ca cn cc) (.slice pa pn pc)) := A3.out.kept hB
    have belW : Below w.heap.size w W := bel3.trans (hB.mono bel3.size)
    have HKD : Hid (W.heap[DD]? = some (.deferred (some []))) := hK
    have hDW : DD < W.heap.size := lt_of_at hK
    have HZW : Hid (W.heap[w.heap.size + 1]? = some (.cells #[.int .i64 0, .int .i64 0, .int .i64 0, .int .i64 0, .slice none 0 0, .slice none 0 0] 25 (0, 0))) := (hB.block _ (by omega)).trans HZ3.out
    have HFW : Hid (W.heap[w.heap.size + 2]? = some (.cells #[.bool false] 4 (0, 0))) := (hB.block _ (by omega)).trans HF3.out
    have hltW : w.heap.size + 3 ≤ W.heap.size := Nat.le_trans hlt3 hB.size
    clear hB hK A3 bel3 HZ3 HF3 HT
    obtain ⟨_, a0, a1, a2, a3, a4, a5⟩ := AW.out
    gi_wp2
    refine ⟨trivial, ?_⟩
    gi_wp2
    refine (callsIn_wide.2 (HCN.out W belW)).mono ?_
    rintro e w5 ⟨⟨V2, fs2, rs2, fa2, ra2, rfl, hN2, S2⟩, b5⟩
    have bel5 := belW.trans (b5.mono belW.size)
    have HS5 := nest_seen V2 fs2 rs2 fa2 ra2 Wd Hi _ w5 S2 hN2 HFB.out
    have HM : Hid (Calls Try.prog 33 #[.iface 54 (.agg #[.iface 54 V2, .func (.func 32) #[] #[]]), .int .i64 2, .int .i64 24, .slice none 0 0] w5 fun e w'' =>
        (∃ x cx y cy, e = .returned (.agg #[.int .i64 2, .int .i64 24, .int .i64 (Wd : Int), .int .i64 (Hi : Int), .slice x 0 cx, .slice y (Wd * Hi) cy]) ∧ Pair2 w'' w5.heap.size x [] y (upto (ptF Wd (fun x y => colF k D cs Wd ps x y / 256)) (Wd * Hi))) ∧ Below w5.heap.size w5 w'') :=
      drawn_any 54 _ _ _ _ _ Wd Hi _ hW hH 2 24 none 0 0 [] w5 HS5 (.inl rfl) rfl (by omega)
    clear a0 a1 a2 a3 a4 a5 HS5 S2 hN2 HCN
    gi_wp2
    refine ⟨trivial, ?_⟩
    gi_wp2
    refine (callsIn_wide.2 HM.out).mono ?_
    rintro e w6 ⟨⟨x, cx, y, cy, rfl, hP⟩, b6⟩
    have b56 : Below W.heap.size W w6 := b5.trans (b6.mono b5.size)
    have hz6 : w6.heap[w.heap.size + 1]? = some (.cells #[.int .i64 0, .int .i64 0, .int .i64 0, .int .i64 0, .slice none 0 0, .slice none 0 0] 25 (0, 0)) := (b56.block _ (by omega)).trans HZW.out
    have hf6 : Boxed w6 (w.heap.size + 2) 4 (.bool false) := (b56.block _ (by omega)).trans HFW.out
    have hk6 : w6.heap[DD]? = some (.deferred (some [])) := (b56.block _ hDW).trans HKD.out
    have bel6 : Below w.heap.size w w6 := belW.trans (b56.mono belW.size)
    have hsix := six_row hz6 (.int .i64 2) (.int .i64 24) (.int .i64 (Wd : Int)) (.int .i64 (Hi : Int)) (.slice x 0 cx) (.slice y (Wd * Hi) cy)
    obtain ⟨⟨z0, z1, z2, z3, z4, z5⟩, f0, f1, f2, f3, f4, f5⟩ := box6 hz6
    have hf7 : Boxed (w6.setRow (w.heap.size + 1) #[.int .i64 2, .int .i64 24, .int .i64 (Wd : Int), .int .i64 (Hi : Int), .slice x 0 cx, .slice y (Wd * Hi) cy]) (w.heap.size + 1 + 1) 4 (.bool false) := (setRow_other _ _ _ _ (by omega)).trans hf6
    have hfc := hf7.cell
    have hff := hf7.frozen
    have HP6 : Hid (Pair2 w6 w5.heap.size x [] y (upto (ptF Wd (fun x y => colF k D cs Wd ps x y / 256)) (Wd * Hi))) := hP
    have hb5s := b5.size
    have hb6s := b6.size
    clear b56 b6 b5 hP HM
    gi_wp2
    obtain ⟨w7, hw7⟩ : ∃ w7, w7 = (w6.setRow (w.heap.size + 1) #[.int .i64 2, .int .i64 24, .int .i64 (Wd : Int), .int .i64 (Hi : Int), .slice x 0 cx, .slice y (Wd * Hi) cy]).setCell ⟨w.heap.size + 1 + 1, 0, none⟩ (.bool true) := ⟨_, rfl⟩
    rw [← hw7]
    have hz7 : w7.heap[w.heap.size + 1]? = some (.cells #[.int .i64 2, .int .i64 24, .int .i64 (Wd : Int), .int .i64 (Hi : Int), .slice x 0 cx, .slice y (Wd * Hi) cy] 25 (0, 0)) := by
      rw [hw7, heap_setCell_other _ _ _ _ (by show w.heap.size + 1 ≠ w.heap.size + 1 + 1; omega)]; exact setRow_heap w6 (w.heap.size + 1) _ _ _ _ hz6
    have hb7 : Boxed w7 (w.heap.size + 1 + 1) 4 (.bool true) := by rw [hw7]; exact hf7.set _
    have hsame : ∀ k, w.heap.size + 3 ≤ k → w7.heap[k]? = w6.heap[k]? := fun k hk => by
      rw [hw7, heap_setCell_other _ _ _ _ (by show k ≠ w.heap.size + 1 + 1; omega), setRow_other _ _ _ _ (by omega)]
    have hs7 : w7.heap.size = w6.heap.size := by rw [hw7]; simp
    have hk7 : w7.heap[DD]? = some (.deferred (some [])) := (hsame DD (by omega)).trans hk6
    have bel7 : Below w.heap.size w w7 := by rw [hw7]; exact (bel6.trans ((below_setRow _ _ _).mono (by omega))).setCell (by show w.heap.size ≤ w.heap.size + 1 + 1; omega) _
    refine ⟨by simp, .inl ⟨_, _, rfl, run_takeDeferred hk7, ?_⟩⟩
    have hz8 : (w7.putObj DD (.deferred none)).heap[w.heap.size + 1]? = some (.cells #[.int .i64 2, .int .i64 24, .int .i64 (Wd : Int), .int .i64 (Hi : Int), .slice x 0 cx, .slice y (Wd * Hi) cy] 25 (0, 0)) := (World.putObj_heap_other (by omega)).trans hz7
    have hb8 : Boxed (w7.putObj DD (.deferred none)) (w.heap.size + 1 + 1) 4 (.bool true) := (World.putObj_heap_other (by omega)).trans hb7
    obtain ⟨⟨q0, q1, q2, q3, q4, q5⟩, _⟩ := box6 hz8
    have q6 := hb8.cell
    refine ⟨.tuple #[.agg #[.int .i64 2, .int .i64 24, .int .i64 (Wd : Int), .int .i64 (Hi : Int), .slice x 0 cx, .slice y (Wd * Hi) cy], .bool true], by simp [results, Try.results9, go_sem, q0, q1, q2, q3, q4, q5, q6], .inl ⟨hd, x, cx, y, cy, rfl, ?_⟩, bel7.trans (belowK_b (w := w) (Nat.le_refl _) w7 DD _ _ (by omega) hk7 rfl rfl)⟩
    exact (HP6.out.above (by simp [hs7]) (fun k hk => (World.putObj_heap_other (by omega)).trans (hsame k (by omega)))).lower (by omega)
  case stop =>
    rintro DD c pre W hD hpre ⟨rfl, ⟨z, hz, hz2⟩, h3, h4, h5⟩ hK
    gi_wp2
    refine ⟨by simp, .inl ⟨_, _, rfl, run_takeDeferred hK, ?_⟩⟩
    have hz8 : (W.putObj DD (.deferred none)).heap[w.heap.size + 1]? = some (.cells #[.int .i64 0, .int .i64 0, .int .i64 0, .int .i64 0, .slice none 0 0, .slice none 0 0] 25 (0, 0)) := (World.putObj_heap_other (by omega)).trans h3
    have hb8 : Boxed (W.putObj DD (.deferred none)) (w.heap.size + 1 + 1) 4 (.bool false) := (World.putObj_heap_other (by omega)).trans h4
    obtain ⟨⟨q0, q1, q2, q3, q4, q5⟩, _⟩ := box6 hz8
    have q6 := hb8.cell
    exact ⟨.tuple #[.agg #[.int .i64 0, .int .i64 0, .int .i64 0, .int .i64 0, .slice none 0 0, .slice none 0 0], .bool false], by simp [results, Try.results9, go_sem, q0, q1, q2, q3, q4, q5, q6], .inr ⟨⟨z, hpre.subset hz, hz2⟩, rfl⟩, h5.trans (belowK_b (w := w) (Nat.le_refl _) W DD _ _ (by omega) hK rfl rfl)⟩
end Go.Proofs.Ytchaepkdpbiffaa
