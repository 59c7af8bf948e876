/- ImageRgb of the specification. -/
import Derived.Test.YtchaepkdpbiffaaRgbMath
import Derived.Test.YtchaepkdpbiffaaColSpecTop
import Derived.Test.YtchaepkdpbiffaaPicLaw
import Derived.Test.YtchaepkdpbiffaaBlankSpec
import Derived.Test.YtchaepkdpbiffaaAppOne
import Derived.Test.YtchaepkdpbiffaaColSeen
import Derived.Deep.RegionHeld3
namespace Go.Proofs.Ytchaepkdpbiffaa
open Go.RowKit

/-- no colour is less than dense -/
def denseB (l : List Int) : Bool := l.all fun c => c % 256 == 255
theorem denseB_no {l : List Int} {c : Int} (h : c ∈ l) (hc : ¬ c % 256 = 255) : denseB l = false := by
  unfold denseB; rw [List.all_eq_false]; exact ⟨c, h, by simpa using hc⟩
theorem denseB_yes {l : List Int} (h : ∀ c ∈ l, c % 256 = 255) : denseB l = true := by
  unfold denseB; rw [List.all_eq_true]; intro c hc; simpa using h c hc
/-- what is red, green and blue of colours -/
def bares (l : List Int) : List Int := l.map (· / 256)

set_option maxHeartbeats 1000000 in
set_option maxRecDepth 20000 in
theorem spec_rgb_no (k d wd hi : Int) (ca : Option Addr) (cn cc : Nat) (pa : Option Addr) (pn pc : Nat) (w : World)
    (hO : ∀ w', Below w.heap.size w w' → Calls Try.prog 13 #[.agg #[.int .i64 k, .int .i64 d, .int .i64 wd, .int .i64 hi, .slice ca cn cc, .slice pa pn pc]] w' fun e w'' => e = .returned (.bool false) ∧ Below w'.heap.size w' w'') :
    Calls Try.prog 10 #[.agg #[.int .i64 k, .int .i64 d, .int .i64 wd, .int .i64 hi, .slice ca cn cc, .slice pa pn pc]] w fun e w' => e = .returned (.tuple #[.agg #[.int .i64 0, .int .i64 0, .int .i64 0, .int .i64 0, .slice none 0 0, .slice none 0 0], .bool false]) ∧ Below w.heap.size w w' := by
  have hB0 : Below w.heap.size w ((w.alloc (.cells #[.int .i64 k, .int .i64 d, .int .i64 wd, .int .i64 hi, .slice ca cn cc, .slice pa pn pc] 25)).alloc (.cells #[.int .i64 0, .int .i64 0, .int .i64 0, .int .i64 0, .slice none 0 0, .slice none 0 0] 25)) := ((Below.refl _ _).alloc (Nat.le_refl _) _).alloc (by simp) _
  have HO : Hid (∀ w', Below w.heap.size w w' → Calls Try.prog 13 #[.agg #[.int .i64 k, .int .i64 d, .int .i64 wd, .int .i64 hi, .slice ca cn cc, .slice pa pn pc]] w' fun e w'' => e = .returned (.bool false) ∧ Below w'.heap.size w' w'') := hO
  clear hO
  have HZ : Hid (((w.alloc (.cells #[.int .i64 k, .int .i64 d, .int .i64 wd, .int .i64 hi, .slice ca cn cc, .slice pa pn pc] 25)).alloc (.cells #[.int .i64 0, .int .i64 0, .int .i64 0, .int .i64 0, .slice none 0 0, .slice none 0 0] 25)).heap[w.heap.size + 1]? = some (.cells #[.int .i64 0, .int .i64 0, .int .i64 0, .int .i64 0, .slice none 0 0, .slice none 0 0] 25 (0, 0))) := heap_alloc2_new _ _ _
  go_enter Try.func10, Try.ntmps10
  go_wp2_with fail
  refine (HO.out _ hB0).mono ?_
  rintro e w1 ⟨rfl, b1⟩
  have bel1 := hB0.trans (b1.mono hB0.size)
  have hz1 : w1.heap[w.heap.size + 1]? = some (.cells #[.int .i64 0, .int .i64 0, .int .i64 0, .int .i64 0, .slice none 0 0, .slice none 0 0] 25 (0, 0)) := (b1.block _ (by simp)).trans HZ.out
  clear b1 hB0 HO HZ
  have hI6 : (Try.prog.info? 25).map (·.size) = some (#[Value.int .i64 0, .int .i64 0, .int .i64 0, .int .i64 0, .slice none 0 0, .slice none 0 0]).size := by kernel_rfl
  have h16 : (#[Value.int .i64 0, .int .i64 0, .int .i64 0, .int .i64 0, .slice none 0 0, .slice none 0 0]).all (·.oneCell') = true := by simp [Value.oneCell']
  have hs2 := setRow_heap w1 (w.heap.size + 1) _ #[.int .i64 0, .int .i64 0, .int .i64 0, .int .i64 0, .slice none 0 0, .slice none 0 0] _ _ hz1
  obtain ⟨⟨z0, z1, z2, z3, z4, z5⟩, _⟩ := box6 hs2
  go_wp2_with (refine wpList_store_row rfl 25 (.tmp 2) (.tmp 10) rfl (w.heap.size + 1) #[.int .i64 0, .int .i64 0, .int .i64 0, .int .i64 0, .slice none 0 0, .slice none 0 0] rfl rfl 25 #[.int .i64 0, .int .i64 0, .int .i64 0, .int .i64 0, .slice none 0 0, .slice none 0 0] hz1 hI6 rfl h16 ?_)
  refine bodyPost_ret (v := .tuple #[.agg #[.int .i64 0, .int .i64 0, .int .i64 0, .int .i64 0, .slice none 0 0, .slice none 0 0], .bool false]) (by simp [results, Try.results10, go_sem, z0, z1, z2, z3, z4, z5]) rfl ⟨rfl, ?_⟩
  exact bel1.trans ((below_setRow _ _ _).mono (by omega))

set_option maxHeartbeats 4000000 in
set_option maxRecDepth 20000 in
theorem spec_rgb_ok (k : Int) (D Wd Hi : Nat) (ca : Option Addr) (cn cc : Nat) (pa : Option Addr) (pn pc : Nat) (cs ps : List Int) (w : World) (ok : Im.Ok k (D : Int) (Wd : Int) (Hi : Int) cs ps) (hc : Ints w ca cs) (hcn : cs.length = cn) (hp : Ints w pa ps) (hpn : ps.length = pn) (hW : Wd ≤ 20) (hH : Hi ≤ 20) (hm : pn = Wd * Hi)
    (hOA : ∀ w', Below w.heap.size w w' → Calls Try.prog 13 #[.agg #[.int .i64 k, .int .i64 (D : Int), .int .i64 (Wd : Int), .int .i64 (Hi : Int), .slice ca cn cc, .slice pa pn pc]] w' fun e w'' => e = .returned (.bool true) ∧ Below w'.heap.size w' w'') :
    Calls Try.prog 10 #[.agg #[.int .i64 k, .int .i64 (D : Int), .int .i64 (Wd : Int), .int .i64 (Hi : Int), .slice ca cn cc, .slice pa pn pc]] w fun e w' =>
      ((denseB (cols k D cs ps) = true ∧ ∃ y cy, e = .returned (.tuple #[.agg #[.int .i64 2, .int .i64 24, .int .i64 (Wd : Int), .int .i64 (Hi : Int), .slice none 0 0, .slice y pn cy], .bool true]) ∧ Ints w' y (bares (cols k D cs ps))) ∨
       (denseB (cols k D cs ps) = false ∧ e = .returned (.tuple #[.agg #[.int .i64 0, .int .i64 0, .int .i64 0, .int .i64 0, .slice none 0 0, .slice none 0 0], .bool false]))) ∧ Below w.heap.size w w' := by
  obtain ⟨i0, hi0, hz0, hz1', hz2⟩ := info_parts info_int
  have hB0 : Below w.heap.size w ((w.alloc (.cells #[.int .i64 k, .int .i64 (D : Int), .int .i64 (Wd : Int), .int .i64 (Hi : Int), .slice ca cn cc, .slice pa pn pc] 25)).alloc (.cells #[.int .i64 0, .int .i64 0, .int .i64 0, .int .i64 0, .slice none 0 0, .slice none 0 0] 25)) := ((Below.refl _ _).alloc (Nat.le_refl _) _).alloc (by simp) _
  have A0 : Hid (Bx ((w.alloc (.cells #[.int .i64 k, .int .i64 (D : Int), .int .i64 (Wd : Int), .int .i64 (Hi : Int), .slice ca cn cc, .slice pa pn pc] 25)).alloc (.cells #[.int .i64 0, .int .i64 0, .int .i64 0, .int .i64 0, .slice none 0 0, .slice none 0 0] 25)) w.heap.size (.int .i64 k) (.int .i64 (D : Int)) (.int .i64 (Wd : Int)) (.int .i64 (Hi : Int)) (.slice ca cn cc) (.slice pa pn pc)) := (bx_new w _ _ _ _ _ _ 25).kept ((Below.refl _ _).alloc (Nat.le_refl _) _)
  have HZ : Hid (((w.alloc (.cells #[.int .i64 k, .int .i64 (D : Int), .int .i64 (Wd : Int), .int .i64 (Hi : Int), .slice ca cn cc, .slice pa pn pc] 25)).alloc (.cells #[.int .i64 0, .int .i64 0, .int .i64 0, .int .i64 0, .slice none 0 0, .slice none 0 0] 25)).heap[w.heap.size + 1]? = some (.cells #[.int .i64 0, .int .i64 0, .int .i64 0, .int .i64 0, .slice none 0 0, .slice none 0 0] 25 (0, 0))) := heap_alloc2_new _ _ _
  have HOA : Hid (∀ w', Below w.heap.size w w' → Calls Try.prog 13 #[.agg #[.int .i64 k, .int .i64 (D : Int), .int .i64 (Wd : Int), .int .i64 (Hi : Int), .slice ca cn cc, .slice pa pn pc]] w' fun e w'' => e = .returned (.bool true) ∧ Below w'.heap.size w' w'') := hOA
  have HLA : Hid (∀ (x : Nat) (w' : World), Below w.heap.size w w' → PtOk k D cs x → Calls Try.prog 34 #[.agg #[.int .i64 k, .int .i64 (D : Int), .int .i64 (Wd : Int), .int .i64 (Hi : Int), .slice ca cn cc, .slice pa pn pc], .int .i64 (x : Int)] w' fun e w'' => e = .returned (.int .i64 (colOf k D cs (x : Int))) ∧ Below w'.heap.size w' w'') := fun x w' b h => l8Color_any k D x (Wd : Int) (Hi : Int) ca cn cc pa pn pc cs w' (hc.kept b) hcn h
  have HP : Hid (∀ w', Below w.heap.size w w' → Ints w' pa ps) := fun w' b => hp.kept b
  have HPO : Hid (∀ j, j < pn → ∃ (p c : Nat), ps.getD j 0 = (p : Int) ∧ PtOk k D cs p ∧ colOf k D cs (p : Int) = (c : Int) ∧ c ≤ 4294967295) := fun j hj => by
    obtain ⟨p, h1, h2⟩ := Im.pt_ok ok j (by omega)
    have hjl : j < ps.length := by omega
    have hm : (p : Int) ∈ ps := by rw [← h1, List.getD_eq_getElem?_getD, List.getElem?_eq_getElem hjl]; exact List.getElem_mem hjl
    obtain ⟨b0, b1, _⟩ := col_bounds ok hm
    obtain ⟨c, hc⟩ := Int.eq_ofNat_of_zero_le b0
    exact ⟨p, c, h1, h2, hc, by omega⟩
  have HN : Hid (ps.length = pn) := hpn
  have hmul : Wd * Hi ≤ 20 * 20 := Nat.mul_le_mul hW hH
  have hpb : pn ≤ 400 := by omega
  clear hOA ok hc hcn hp hpn hm hmul
  go_enter Try.func10, Try.ntmps10
  go_wp2_with fail
  refine (HOA.out _ hB0).mono ?_
  rintro e w1 ⟨rfl, b1⟩
  have A1 : Hid (Bx w1 w.heap.size (.int .i64 k) (.int .i64 (D : Int)) (.int .i64 (Wd : Int)) (.int .i64 (Hi : Int)) (.slice ca cn cc) (.slice pa pn pc)) := A0.out.kept b1
  have HZ1 : Hid (w1.heap[w.heap.size + 1]? = some (.cells #[.int .i64 0, .int .i64 0, .int .i64 0, .int .i64 0, .slice none 0 0, .slice none 0 0] 25 (0, 0))) := (b1.block _ (by simp)).trans HZ.out
  have bel1 : Below w.heap.size w w1 := hB0.trans (b1.mono hB0.size)
  have hlt1 : w.heap.size + 1 < w1.heap.size := Nat.lt_of_lt_of_le (by simp) b1.size
  clear b1 hB0 A0 HOA HZ
  obtain ⟨_, a0, a1, a2, a3, a4, a5⟩ := A1.out
  go_wp2_with fail
  clear a0 a1 a2 a3 a4 a5
  obtain ⟨WX, hWX⟩ : ∃ WX, WX = w1.alloc (.cells #[.int .i64 2, .int .i64 24, .int .i64 (Wd : Int), .int .i64 (Hi : Int), .slice none 0 0, .slice none 0 0] 25) := ⟨_, rfl⟩
  have HX0 : Hid (Bx WX w1.heap.size (.int .i64 2) (.int .i64 24) (.int .i64 (Wd : Int)) (.int .i64 (Hi : Int)) (.slice none 0 0) (.slice none 0 0) ∧ WX.frozen? ⟨w1.heap.size, 5, none⟩ = false ∧ Below w1.heap.size w1 WX ∧ w1.heap.size + 1 ≤ WX.heap.size) := by
    have hb := heap_alloc_new w1 (.cells #[.int .i64 2, .int .i64 24, .int .i64 (Wd : Int), .int .i64 (Hi : Int), .slice none 0 0, .slice none 0 0] 25)
    refine ⟨by rw [hWX]; exact bx_new w1 _ _ _ _ _ _ 25, by rw [hWX]; exact (box6 hb).2.2.2.2.2.2, by rw [hWX]; exact (Below.refl _ _).alloc (Nat.le_refl _) _, by rw [hWX]; simp⟩
  rw [← hWX]
  clear hWX
  go_loopw [5] (fun i wr => ∃ (j : Nat) (v : Value), j ≤ pn ∧ i = .int .i64 (j : Int) ∧ OwnI wr (w1.heap.size + 1) v j (bares (cols k D cs (ps.take j))) ∧ (∀ c ∈ cols k D cs (ps.take j), c % 256 = 255) ∧ Bx wr w1.heap.size (.int .i64 2) (.int .i64 24) (.int .i64 (Wd : Int)) (.int .i64 (Hi : Int)) (.slice none 0 0) v ∧ wr.frozen? ⟨w1.heap.size, 5, none⟩ = false ∧ Below w1.heap.size w1 wr) (fun i _ => pn - (intOf i).toNat)
  case atStart => exact ⟨0, .slice none 0 0, Nat.zero_le _, rfl, World.ownsRow_nil _ _ _ _, fun c hc => by simp [cols] at hc, HX0.out.1, HX0.out.2.1, HX0.out.2.2.1⟩
  case round =>
    obtain ⟨j, v, hj, rfl, hown, hall, hbx, hfz, hbel⟩ := hrel
    have HOw : Hid (OwnI wr (w1.heap.size + 1) v j (bares (cols k D cs (ps.take j)))) := hown
    have HAL : Hid (∀ c ∈ cols k D cs (ps.take j), c % 256 = 255) := hall
    have Ar : Hid (Bx wr w.heap.size (.int .i64 k) (.int .i64 (D : Int)) (.int .i64 (Wd : Int)) (.int .i64 (Hi : Int)) (.slice ca cn cc) (.slice pa pn pc)) := A1.out.kept hbel
    have HBX : Hid (Bx wr w1.heap.size (.int .i64 2) (.int .i64 24) (.int .i64 (Wd : Int)) (.int .i64 (Hi : Int)) (.slice none 0 0) v ∧ wr.frozen? ⟨w1.heap.size, 5, none⟩ = false) := ⟨hbx, hfz⟩
    have belr : Below w.heap.size w wr := bel1.trans (hbel.mono bel1.size)
    have hXr : w1.heap.size + 1 ≤ wr.heap.size := hbx.1
    have HZr : Hid (wr.heap[w.heap.size + 1]? = some (.cells #[.int .i64 0, .int .i64 0, .int .i64 0, .int .i64 0, .slice none 0 0, .slice none 0 0] 25 (0, 0))) := (hbel.block _ hlt1).trans HZ1.out
    clear hown hall hbx hfz HX0
    obtain ⟨_, a0, a1, a2, a3, a4, a5⟩ := Ar.out
    by_cases hlt : j < pn
    · obtain ⟨p, c, hpv, hPO1, hcol, hcb⟩ := HPO.out j hlt
      have hj1 : j < ps.length := by have := HN.out; omega
      have HTK : Hid (cols k D cs (ps.take (j + 1)) = cols k D cs (ps.take j) ++ [(c : Int)] ∧ (c : Int) ∈ cols k D cs ps) := by
        have hg : ps[j] = (p : Int) := by rw [← hpv, List.getD_eq_getElem?_getD, List.getElem?_eq_getElem hj1]; rfl
        refine ⟨?_, ?_⟩
        · rw [List.take_succ_eq_append_getElem hj1]
          unfold cols
          rw [List.map_append, List.map_singleton, hg, hcol]
        · unfold cols
          rw [← hcol, ← hg]; exact List.mem_map_of_mem (List.getElem_mem hj1)
      rcases HP.out wr belr with h | ⟨b, off, rfl, hbl, c1⟩
      · rw [h] at hj1; simp at hj1
      have e1 : wr.cell? ⟨b, off + j, none⟩ = some (.int .i64 (p : Int)) := by
        rw [c1 j hj1, ← hpv, List.getD_eq_getElem?_getD, List.getElem?_eq_getElem hj1]; rfl
      have hji : (j : Int) < (pn : Int) := by omega
      have HLp : Hid (∀ w' : World, Below w.heap.size w w' → Calls Try.prog 34 #[.agg #[.int .i64 k, .int .i64 (D : Int), .int .i64 (Wd : Int), .int .i64 (Hi : Int), .slice ca cn cc, .slice (some ⟨b, off, none⟩) pn pc], .int .i64 (p : Int)] w' fun e w'' => e = .returned (.int .i64 (c : Int)) ∧ Below w'.heap.size w' w'') := fun w' b => by rw [← hcol]; exact HLA.out p w' b hPO1
      clear c1 hpv hj1 hcol hPO1 HLA HPO HP
      go_wp2_with fail
      go_region_held3 (fun w' => w'.cell? ⟨w.heap.size, 0, none⟩ = some (.int .i64 k) ∧ w'.cell? ⟨w.heap.size, 1, none⟩ = some (.int .i64 (D : Int)) ∧ w'.cell? ⟨w.heap.size, 2, none⟩ = some (.int .i64 (Wd : Int)) ∧ w'.cell? ⟨w.heap.size, 3, none⟩ = some (.int .i64 (Hi : Int)) ∧ w'.cell? ⟨w.heap.size, 4, none⟩ = some (.slice ca cn cc) ∧ w'.cell? ⟨w.heap.size, 5, none⟩ = some (.slice (some ⟨b, off, none⟩) pn pc) ∧ w'.cell? ⟨b, off + j, none⟩ = some (.int .i64 (p : Int))) (go_keep) ((go_at_call 34; refine (HLp.out wr.drew belr.drew).mono ?_; rintro e w5 ⟨rfl, b5⟩; have b5' : Below wr.heap.size wr w5 := box_drew b5; obtain ⟨m0, m1, m2, m3, m4, m5⟩ := box_kept ⟨a0, a1, a2, a3, a4, a5⟩ b5' (World.block_lt_of_cell? _ _ a0); have r1 := (b5'.cell (p := ⟨b, off + j, none⟩) hbl).trans e1))
      all_goals
        clear b5 m0 m1 m2 m3 m4 m5 r1 a0 a1 a2 a3 a4 a5 e1
        have hown5 : OwnI w5 (w1.heap.size + 1) v j (bares (cols k D cs (ps.take j))) := World.ownsRow.kept (show World.ownsRow _ _ _ _ _ _ _ from HOw.out) (grown_of_below b5') (by cases v.ownBlock <;> simp)
        have hbx5 : Bx w5 w1.heap.size (.int .i64 2) (.int .i64 24) (.int .i64 (Wd : Int)) (.int .i64 (Hi : Int)) (.slice none 0 0) v := HBX.out.1.kept b5'
        have hfz5 : w5.frozen? ⟨w1.heap.size, 5, none⟩ = false := (b5'.frozen (p := ⟨w1.heap.size, 5, none⟩) hXr).trans HBX.out.2
        have bel5 : Below w1.heap.size w1 w5 := hbel.trans (b5'.mono (by omega))
        have hs5 : w1.heap.size + 1 ≤ w5.heap.size := Nat.le_trans hXr b5'.size
        have hz5 : w5.heap[w.heap.size + 1]? = some (.cells #[.int .i64 0, .int .i64 0, .int .i64 0, .int .i64 0, .slice none 0 0, .slice none 0 0] 25 (0, 0)) := (b5'.block _ (by omega)).trans HZr.out
        clear b5' hbel HOw HBX HZr
        by_cases hdn : (c : Int) % 256 = 255
        · have hbn : ((c : Int) % 256 != 255) = false := by rw [hdn]; rfl
          have HAL2 : Hid (∀ z ∈ cols k D cs (ps.take (j + 1)), z % 256 = 255) := by
            intro z hz
            rw [HTK.out.1] at hz
            rcases List.mem_append.1 hz with h | h
            · exact HAL.out z h
            · rw [List.mem_singleton.1 h]; exact hdn
          have HBR : Hid (bares (cols k D cs (ps.take (j + 1))) = bares (cols k D cs (ps.take j)) ++ [(c : Int) / 256]) := by
            show _ = _
            rw [HTK.out.1]; unfold bares; rw [List.map_append]; rfl
          generalize hL : bares (cols k D cs (ps.take j)) = L at *
          obtain ⟨hXlt, x0, x1, x2, x3, x4, x5⟩ := hbx5
          obtain ⟨u, hu⟩ : ∃ u, u = (c : Int) / 256 := ⟨_, rfl⟩
          rw [← hu] at HBR
          have HX6 : Hid (Bx w5 w1.heap.size (.int .i64 2) (.int .i64 24) (.int .i64 (Wd : Int)) (.int .i64 (Hi : Int)) (.slice none 0 0) v) := ⟨hXlt, x0, x1, x2, x3, x4, x5⟩
          have x5' : (w5.alloc (.cells #[.int .i64 u] 3)).cell? ⟨w1.heap.size, 5, none⟩ = some v := (World.cell?_alloc_some w5 _ _ (by rw [x5]; rfl)).trans x5
          clear hdn HAL hL x0 x1 x2 x3 x4
          go_wp2_with (at_builtin; rw [← hu]; refine wpList_app1 w5 (by rfl) _ _ (by rfl) (w1.heap.size + 1) v j L u (by rfl) hown5 (by rfl) (by omega) hs5 ?_)
          intro g cap w6 hown6 hgr
          have hnx : v.ownBlock ≠ some w1.heap.size := fun e => by have := (World.ownsRow.lt hown5 _ e).1; omega
          have x6 : w6.cell? ⟨w1.heap.size, 5, none⟩ = some v := (hgr.cell (a := ⟨w1.heap.size, 5, none⟩) hXlt hnx).trans x5
          have hblk : w6.heap[w1.heap.size]? = w5.heap[w1.heap.size]? := hgr.block w1.heap.size hXlt (fun e => hnx e.symm)
          have f6 : w6.frozen? ⟨w1.heap.size, 5, none⟩ = false := (World.frozen?_of_block (w := w5) (a := ⟨w1.heap.size, 5, none⟩) hblk).trans hfz5
          have bel6 : Below w1.heap.size w1 w6 := hgr.below bel5 (by omega) (by omega)
          have HX7 : Hid (Bx (w6.setCell ⟨w1.heap.size, 5, none⟩ (.slice (some ⟨g, 0, none⟩) (j + 1) cap)) w1.heap.size (.int .i64 2) (.int .i64 24) (.int .i64 (Wd : Int)) (.int .i64 (Hi : Int)) (.slice none 0 0) (.slice (some ⟨g, 0, none⟩) (j + 1) cap)) := by
            obtain ⟨_, q0, q1, q2, q3, q4, _⟩ := HX6.out
            have old : ∀ i (y : Value), i ≠ 5 → w5.cell? ⟨w1.heap.size, i, none⟩ = some y → (w6.setCell ⟨w1.heap.size, 5, none⟩ (.slice (some ⟨g, 0, none⟩) (j + 1) cap)).cell? ⟨w1.heap.size, i, none⟩ = some y := fun i y hi h =>
              (World.cell?_setCell_other _ _ _ _ (fun e => hi (by have := congrArg Addr.off e; simpa using this.symm))).trans ((World.cell?_of_block (w := w5) (a := ⟨w1.heap.size, i, none⟩) hblk).trans h)
            exact ⟨by simp; exact Nat.lt_of_lt_of_le hXlt hgr.size, old 0 _ (by decide) q0, old 1 _ (by decide) q1, old 2 _ (by decide) q2, old 3 _ (by decide) q3, old 4 _ (by decide) q4, World.cell?_setCell_same _ _ _ x6⟩
          have HF7 : Hid ((w6.setCell ⟨w1.heap.size, 5, none⟩ (.slice (some ⟨g, 0, none⟩) (j + 1) cap)).frozen? ⟨w1.heap.size, 5, none⟩ = false) := by show _ = _; rw [World.frozen?_setCell]; exact f6
          have HO7 : Hid (OwnI (w6.setCell ⟨w1.heap.size, 5, none⟩ (.slice (some ⟨g, 0, none⟩) (j + 1) cap)) (w1.heap.size + 1) (.slice (some ⟨g, 0, none⟩) (j + 1) cap) (j + 1) (L ++ [u])) := by
            show OwnI _ _ _ _ _
            rw [hu]
            exact ownsRow_setCell_below (show World.ownsRow _ _ _ _ _ _ _ from hown6) (a := ⟨w1.heap.size, 5, none⟩) (show w1.heap.size < w1.heap.size + 1 by omega) _
          have HB7 : Hid (Below w1.heap.size w1 (w6.setCell ⟨w1.heap.size, 5, none⟩ (.slice (some ⟨g, 0, none⟩) (j + 1) cap))) := bel6.setCell (Nat.le_refl _) _
          clear hgr hown6 hown5 bel5 bel6 x5 x5' HX6 hfz5 hz5 hblk
          go_wp2_with fail
          go_roundw
          case rel => exact ⟨j + 1, _, by omega, by go_num, by rw [HBR.out]; exact HO7.out, HAL2.out, HX7.out, HF7.out, HB7.out⟩
          case measure => simp [intOf]; omega
        · have hbn : ((c : Int) % 256 != 255) = true := by rw [bne_iff_ne]; exact hdn
          have HND : Hid (denseB (cols k D cs ps) = false) := denseB_no HTK.out.2 hdn
          have hI6 : (Try.prog.info? 25).map (·.size) = some (#[Value.int .i64 0, .int .i64 0, .int .i64 0, .int .i64 0, .slice none 0 0, .slice none 0 0]).size := by kernel_rfl
          have h16 : (#[Value.int .i64 0, .int .i64 0, .int .i64 0, .int .i64 0, .slice none 0 0, .slice none 0 0]).all (·.oneCell') = true := by simp [Value.oneCell']
          have hs2 := setRow_heap w5 (w.heap.size + 1) _ #[.int .i64 0, .int .i64 0, .int .i64 0, .int .i64 0, .slice none 0 0, .slice none 0 0] _ _ hz5
          obtain ⟨⟨z0, z1, z2, z3, z4, z5⟩, _⟩ := box6 hs2
          have belw5 : Below w.heap.size w w5 := bel1.trans (bel5.mono bel1.size)
          clear hown5 hbx5 hfz5 HAL HTK
          go_wp2_with (refine wpList_store_row rfl 25 (.tmp 2) (.tmp 33) rfl (w.heap.size + 1) #[.int .i64 0, .int .i64 0, .int .i64 0, .int .i64 0, .slice none 0 0, .slice none 0 0] rfl rfl 25 #[.int .i64 0, .int .i64 0, .int .i64 0, .int .i64 0, .slice none 0 0, .slice none 0 0] hz5 hI6 rfl h16 ?_)
          refine bodyPost_ret (v := .tuple #[.agg #[.int .i64 0, .int .i64 0, .int .i64 0, .int .i64 0, .slice none 0 0, .slice none 0 0], .bool false]) (by simp [results, Try.results10, go_sem, z0, z1, z2, z3, z4, z5]) rfl ⟨.inr ⟨HND.out, rfl⟩, ?_⟩
          exact belw5.trans ((below_setRow _ _ _).mono (by omega))
    · obtain rfl : j = pn := by omega
      have HTA : Hid (ps.take j = ps) := by show _ = _; rw [List.take_of_length_le (by have := HN.out; omega)]
      rw [HTA.out] at HOw HAL
      obtain ⟨hXlt, x0, x1, x2, x3, x4, x5⟩ := HBX.out.1
      obtain ⟨y, cy, rfl, hOy⟩ := HOw.out.owns
      have HDN : Hid (denseB (cols k D cs ps) = true) := denseB_yes HAL.out
      have hzr := HZr.out
      have hI6 : (Try.prog.info? 25).map (·.size) = some (#[Value.int .i64 2, .int .i64 24, .int .i64 (Wd : Int), .int .i64 (Hi : Int), .slice none 0 0, .slice y j cy]).size := by kernel_rfl
      have h16 : (#[Value.int .i64 2, .int .i64 24, .int .i64 (Wd : Int), .int .i64 (Hi : Int), .slice none 0 0, .slice y j cy]).all (·.oneCell') = true := by simp [Value.oneCell']
      have hs2 := setRow_heap wr (w.heap.size + 1) _ #[.int .i64 2, .int .i64 24, .int .i64 (Wd : Int), .int .i64 (Hi : Int), .slice none 0 0, .slice y j cy] _ _ hzr
      obtain ⟨⟨z0, z1, z2, z3, z4, z5⟩, _⟩ := box6 hs2
      have HIY : Hid (Ints (wr.setRow (w.heap.size + 1) #[.int .i64 2, .int .i64 24, .int .i64 (Wd : Int), .int .i64 (Hi : Int), .slice none 0 0, .slice y j cy]) y (bares (cols k D cs ps))) := (hOy.row (by omega) _).ints
      clear HAL HOw HBX hOy HPO HP HLA
      go_wp2_with (refine wpList_store_row rfl 25 (.tmp 2) (.tmp 41) rfl (w.heap.size + 1) #[.int .i64 2, .int .i64 24, .int .i64 (Wd : Int), .int .i64 (Hi : Int), .slice none 0 0, .slice y j cy] rfl rfl 25 #[.int .i64 0, .int .i64 0, .int .i64 0, .int .i64 0, .slice none 0 0, .slice none 0 0] hzr hI6 rfl h16 ?_)
      refine bodyPost_ret (v := .tuple #[.agg #[.int .i64 2, .int .i64 24, .int .i64 (Wd : Int), .int .i64 (Hi : Int), .slice none 0 0, .slice y j cy], .bool true]) (by simp [results, Try.results10, go_sem, z0, z1, z2, z3, z4, z5]) rfl ⟨.inl ⟨HDN.out, y, cy, rfl, HIY.out⟩, ?_⟩
      exact belr.trans ((below_setRow _ _ _).mono (by omega))
end Go.Proofs.Ytchaepkdpbiffaa
