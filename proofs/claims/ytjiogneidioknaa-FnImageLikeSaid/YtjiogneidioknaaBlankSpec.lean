/- A picture of the same kind without points: l8Blank of the specification. -/
import Derived.Test.YtjiogneidioknaaDrawnWalks
import Derived.Test.YtjiogneidioknaaPlainView
import Derived.Deep.RegionHeld3
namespace Go.Proofs.Ytjiogneidioknaa
open Go.RowKit

/-- six cells of a block that is known whole, which can be written -/
theorem box6 {w : World} {B : Nat} {v0 v1 v2 v3 v4 v5 : Value} {T : TypeId} (h : w.heap[B]? = some (.cells #[v0, v1, v2, v3, v4, v5] T (0, 0))) :
    (w.cell? ⟨B, 0, none⟩ = some v0 ∧ w.cell? ⟨B, 1, none⟩ = some v1 ∧ w.cell? ⟨B, 2, none⟩ = some v2 ∧ w.cell? ⟨B, 3, none⟩ = some v3 ∧ w.cell? ⟨B, 4, none⟩ = some v4 ∧ w.cell? ⟨B, 5, none⟩ = some v5) ∧ (w.frozen? ⟨B, 0, none⟩ = false ∧ w.frozen? ⟨B, 1, none⟩ = false ∧ w.frozen? ⟨B, 2, none⟩ = false ∧ w.frozen? ⟨B, 3, none⟩ = false ∧ w.frozen? ⟨B, 4, none⟩ = false ∧ w.frozen? ⟨B, 5, none⟩ = false) := by
  refine ⟨⟨?_, ?_, ?_, ?_, ?_, ?_⟩, ?_, ?_, ?_, ?_, ?_, ?_⟩ <;> simp [World.cell?, World.frozen?, h]

set_option maxHeartbeats 2000000 in
set_option maxRecDepth 20000 in
theorem blank_any (k d wd hi : Int) (ca : Option Addr) (cn cc : Nat) (pa : Option Addr) (pn pc : Nat) (W H : Int) (cs : List Int) (w : World) (hc : Ints w ca cs) (hcn : cs.length = cn) (hcl : cn ≤ 1048576) :
    Calls Try.prog 58 #[.agg #[.int .i64 k, .int .i64 d, .int .i64 wd, .int .i64 hi, .slice ca cn cc, .slice pa pn pc], .int .i64 W, .int .i64 H] w fun e w' =>
      (∃ x cx, e = .returned (.agg #[.int .i64 k, .int .i64 d, .int .i64 W, .int .i64 H, .slice x cn cx, .slice none 0 0]) ∧ Owns w' w.heap.size x cs) ∧ Below w.heap.size w w' := by
  obtain ⟨W0, hW0⟩ : ∃ W0, W0 = ((w.alloc (.cells #[.int .i64 k, .int .i64 d, .int .i64 wd, .int .i64 hi, .slice ca cn cc, .slice pa pn pc] 26)).alloc (.cells #[.int .i64 0, .int .i64 0, .int .i64 0, .int .i64 0, .slice none 0 0, .slice none 0 0] 26)) := ⟨_, rfl⟩
  have hB0 : Below w.heap.size w W0 := by rw [hW0]; exact ((Below.refl _ _).alloc (Nat.le_refl _) _).alloc (by simp) _
  have hs0 : W0.heap.size = w.heap.size + 2 := by rw [hW0]; simp
  have HZ : Hid (W0.heap[w.heap.size + 1]? = some (.cells #[.int .i64 0, .int .i64 0, .int .i64 0, .int .i64 0, .slice none 0 0, .slice none 0 0] 26 (0, 0))) := by rw [hW0]; exact heap_alloc2_new _ _ _
  have k0 := box_kept (box_new w (.int .i64 k) (.int .i64 d) (.int .i64 wd) (.int .i64 hi) (.slice ca cn cc) (.slice pa pn pc) 26) ((Below.refl _ _).alloc (Nat.le_refl _) (.cells #[.int .i64 0, .int .i64 0, .int .i64 0, .int .i64 0, .slice none 0 0, .slice none 0 0] 26)) (by simp)
  rw [← hW0] at k0
  have HI : Hid (Ints (W0.alloc (.cells #[] 3)) ca cs) := (hc.kept hB0).kept ((Below.refl _ _).alloc (Nat.le_refl _) _)
  have HE : Hid (OwnI (W0.alloc (.cells #[] 3)) W0.heap.size (.slice (some ⟨W0.heap.size, 0, none⟩) 0 0) 0 []) := ownI_none W0
  have HCN : Hid (cs.length = cn) := hcn
  have HB : Hid (Below w.heap.size w W0) := hB0
  obtain ⟨k0, k1, k2, k3, k4, k5⟩ := k0
  have hlt0 : w.heap.size + 1 < W0.heap.size := by omega
  have HS0 : Hid (W0.heap.size = w.heap.size + 2) := hs0
  clear hs0 hc hcn hB0
  go_enter Try.func58, Try.ntmps58
  go_wp2_with fail
  rw [← hW0]
  have HW0 : Hid (W0 = _) := hW0
  clear hW0
  go_region_held3 (fun w' => w'.cell? ⟨w.heap.size, 0, none⟩ = some (.int .i64 k) ∧ w'.cell? ⟨w.heap.size, 1, none⟩ = some (.int .i64 d) ∧ w'.cell? ⟨w.heap.size, 4, none⟩ = some (.slice ca cn cc)) (first | go_keep | (refine ⟨?_, ?_, ?_⟩ <;> (rw [hG2.cell_far _ (by simp; omega) (by simp [Value.ownBlock]; omega)]; go_keep))) ((refine step_append_ints (by rfl) _ _ (by rfl) W0.heap.size _ 0 [] (by rfl) (show OwnI _ _ _ _ _ from HE.out) ca cn cc cs (by rfl) (show Ints _ _ _ from HI.out) HCN.out (by omega) (by simp) ?_; intro x cx w2 hO2 hG2; obtain ⟨⟨z0, z1, z2, z3, z4, z5⟩, y0, y1, y2, y3, y4, y5⟩ := box6 ((hG2.block (w.heap.size + 1) (by simp; omega) (by simp [Value.ownBlock]; omega)).trans ((heap_alloc_old _ _ _ (show w.heap.size + 1 < W0.heap.size from hlt0)).trans (show _ from HZ.out)))))
  have hO3 : Owns w2 W0.heap.size x cs := by
    obtain ⟨ao, cap', he, hO⟩ := OwnI.owns hO2
    cases he
    simpa using hO
  have hT : Turned (w.heap.size + 1) w2 _ := (((((((Turned.refl (w.heap.size + 1) w2).set 0 (.int .i64 k)).set 1 (.int .i64 d)).set 2 (.int .i64 W)).set 3 (.int .i64 H)).set 4 (.slice x cn cx)).set 5 (.slice none 0 0))
  have H2 : Hid (Owns _ w.heap.size x cs) := (hT.owns hO3 hlt0).lower HB.out.size
  have b2 : Below W0.heap.size W0 w2 := (((Below.refl _ W0).drew).alloc (Nat.le_refl _) _).grown hG2 (by simp) (fun k hk => by have hk2 : some W0.heap.size = some k := hk; cases hk2; exact Nat.le_refl _)
  have H3 : Hid (Below w.heap.size w _) := (HB.out.trans (b2.mono HB.out.size)).trans (hT.below (by omega))
  clear hO3 hT b2 hO2 hG2 HE HI
  go_wp2_with fail
  refine bodyPost_ret (v := .agg #[.int .i64 k, .int .i64 d, .int .i64 W, .int .i64 H, .slice x cn cx, .slice none 0 0]) (by simp [results, Try.results58, go_sem, z0, z1, z2, z3, z4, z5]) rfl ⟨⟨x, cx, rfl, H2.out⟩, H3.out⟩
end Go.Proofs.Ytjiogneidioknaa
