/- RleGet of the program. -/
import Derived.Test.YtlpfedhehfbfeaaRlWork
import Derived.Test.YtlpfedhehfbfeaaRlNew
namespace Go.Proofs.Ytlpfedhehfbfeaa
open Go.RowKit Go.Shelf

/-- so many rows of W numbers, in memory of the call's own -/
def RowsAre (base : Nat) (w : World) (ao : Option Addr) (n W : Nat) (g : Rl.Grid) : Prop :=
  n = 0 ∨ ∃ (R : Nat) (G : List Nat), ao = some ⟨R, 0, none⟩ ∧ G.length = n ∧ base ≤ R ∧ R < w.heap.size ∧ Gd base w R G W g
/-- how RleGet ends -/
def RlAns (w : World) (s : ByteArray) (W H : Int) (e : Ending) (w' : World) : Prop :=
  Below w.heap.size w w' ∧ ((Rl.res s W H = none ∧ ∃ ao cap, e = .returned (.tuple #[.slice ao 0 cap, .bool false])) ∨ ∃ g, Rl.res s W H = some g ∧ ∃ ao cap, e = .returned (.tuple #[.slice ao H.toNat cap, .bool true]) ∧ RowsAre w.heap.size w' ao H.toNat W.toNat g)
theorem rlAns_no {w w' : World} {s : ByteArray} {W H : Int} {e : Ending} {ao : Option Addr} {cap : Nat} (h : Rl.res s W H = none) (h1 : e = .returned (.tuple #[.slice ao 0 cap, .bool false])) (h2 : Below w.heap.size w w') : RlAns w s W H e w' := ⟨h2, .inl ⟨h, ao, cap, h1⟩⟩

/-- the work was done -/
def RwYes (w : World) (W H : Nat) (s : ByteArray) (w' : World) : Prop :=
  (∃ g x y, Rl.get s W H 0 Rl.zero 0 0 = some g ∧ Sh w' (w.heap.size + 3) (.slice (some ⟨w.heap.size + 2, 0, none⟩) H H) x y ∧ Gd (w.heap.size + 2) w' (w.heap.size + 2) (rowsAt (w.heap.size + 2) H) W g) ∧ Boxed w' (w.heap.size + 4 + H) 53 (.pointer (some ⟨w.heap.size + 3, 0, none⟩)) ∧ Below w.heap.size w w' ∧ w.heap.size + 2 < w'.heap.size
/-- it broke off -/
def RwNo (w : World) (W H : Nat) (s : ByteArray) (c : Int) (w' : World) : Prop := c ≠ 0 ∧ Rl.get s W H 0 Rl.zero 0 0 = none ∧ Below w.heap.size w w'
theorem rl_up {w w' : World} {k : Nat} {T : TypeId} {v : Value} (h : Boxed w k T v) (b : Below w.heap.size w w') : Boxed w' k T v := (b.block k (rl_lt h)).trans h

set_option maxHeartbeats 4000000 in
set_option maxRecDepth 20000 in
theorem impl_rleGet (s : ByteArray) (wd hi : Int) (w : World) (hs : s.size ≤ 3000000) :
    Calls Try.prog 10 #[.string s, .int .i64 wd, .int .i64 hi] w (RlAns w s wd hi) := by
  by_cases hv : Rl.Valid s wd hi
  rotate_left
  · have HF : Hid (Rl.res s wd hi = none) := Rl.res_no hv
    unfold Rl.Valid at hv
    by_cases a1 : wd < 0
    · have d1 : decide (wd < 0) = true := decide_eq_true a1
      clear hv
      go_enter Try.func10, Try.ntmps10
      go_wp2_with fail
      exact bodyPost_ret (v := .tuple #[.slice none 0 0, .bool false]) (by simp [results, Try.results10, go_sem]) rfl (rlAns_no HF.out rfl (Below.refl _ _))
    have d1 : decide (wd < 0) = false := decide_eq_false a1
    by_cases a2 : wd > 100
    · have d2 : decide (wd > 100) = true := decide_eq_true a2
      clear hv
      go_enter Try.func10, Try.ntmps10
      go_wp2_with fail
      exact bodyPost_ret (v := .tuple #[.slice none 0 0, .bool false]) (by simp [results, Try.results10, go_sem]) rfl (rlAns_no HF.out rfl (Below.refl _ _))
    have d2 : decide (wd > 100) = false := decide_eq_false a2
    by_cases a3 : hi < 0
    · have d3 : decide (hi < 0) = true := decide_eq_true a3
      clear hv
      go_enter Try.func10, Try.ntmps10
      go_wp2_with fail
      exact bodyPost_ret (v := .tuple #[.slice none 0 0, .bool false]) (by simp [results, Try.results10, go_sem]) rfl (rlAns_no HF.out rfl (Below.refl _ _))
    have d3 : decide (hi < 0) = false := decide_eq_false a3
    by_cases a4 : hi > 100
    · have d4 : decide (hi > 100) = true := decide_eq_true a4
      clear hv
      go_enter Try.func10, Try.ntmps10
      go_wp2_with fail
      exact bodyPost_ret (v := .tuple #[.slice none 0 0, .bool false]) (by simp [results, Try.results10, go_sem]) rfl (rlAns_no HF.out rfl (Below.refl _ _))
    have d4 : decide (hi > 100) = false := decide_eq_false a4
    have d5 : decide ((s.size : Int) > 9000) = true := decide_eq_true (by omega)
    have a5 : (9000 : Int) < (s.size : Int) := by omega
    clear hv
    go_enter Try.func10, Try.ntmps10
    go_wp2_with fail
    exact bodyPost_ret (v := .tuple #[.slice none 0 0, .bool false]) (by simp [results, Try.results10, go_sem]) rfl (rlAns_no HF.out rfl (Below.refl _ _))
  have hv' := hv
  obtain ⟨v1, v2, v3, v4, v5⟩ := hv'
  obtain ⟨W, rfl⟩ := Int.eq_ofNat_of_zero_le v2
  obtain ⟨H, rfl⟩ := Int.eq_ofNat_of_zero_le v4
  have HRES : Hid (Rl.res s (W : Int) (H : Int) = Rl.get s W H 0 Rl.zero 0 0) := Rl.res_ok hv
  have hW : W ≤ 100 := by omega
  have hH : H ≤ 100 := by omega
  have dn : ¬ (9000 : Int) < (s.size : Int) := by omega
  obtain ⟨W2, hW2⟩ : ∃ W2, W2 = (w.alloc (.cells #[.string s, .int .i64 0] 52)).alloc (.cells #[.pointer (some ⟨w.heap.size, 0, none⟩)] 50) := ⟨_, rfl⟩
  have hs2 : W2.heap.size = w.heap.size + 2 := by rw [hW2]; simp
  have HX2 : Hid (Br W2 w.heap.size s 0 ∧ Boxed W2 (w.heap.size + 1) 50 (.pointer (some ⟨w.heap.size, 0, none⟩)) ∧ Below w.heap.size w W2) := by
    rw [hW2]
    refine ⟨(Below.heap_alloc _ _ _ (by simp)).trans (World.alloc_heap_new w _), ?_, ((Below.refl _ _).alloc (Nat.le_refl _) _).alloc (by simp) _⟩
    have := World.alloc_heap_new (w.alloc (.cells #[.string s, .int .i64 0] 52)) (.cells #[.pointer (some ⟨w.heap.size, 0, none⟩)] 50)
    unfold Boxed
    simpa using this
  have hW2' : (w.alloc (.cells #[.string s, .int .i64 0] 52)).alloc (.cells #[.pointer (some ⟨w.heap.size, 0, none⟩)] 50) = W2 := hW2.symm
  have HNS : Hid (Calls Try.prog 27 #[.int .i64 (W : Int), .int .i64 (H : Int)] W2 fun e w' => e = .returned (.pointer (some ⟨w.heap.size + 3, 0, none⟩)) ∧ Ns W2 (w.heap.size + 2) W H H w') := by
    have h := newSheet_any W H W2 hW hH
    rw [hs2] at h
    exact h
  have hmf : ∀ (fn : Fn) (first cap : Array Value) (w : World), (Instr.makeFunc fn first cap).run Try.prog w = .ok (.func fn first cap) w := fun _ _ _ _ => rfl
  have f1 : ¬ (W : Int) < 0 := by omega
  have f2 : ¬ (100 : Int) < (W : Int) := by omega
  have f3 : ¬ (H : Int) < 0 := by omega
  have f4 : ¬ (100 : Int) < (H : Int) := by omega
  clear hW2 hv
  go_enter Try.func10, Try.ntmps10
  go_wp2_with fail
  refine HNS.out.mono ?_
  rintro e w3 ⟨rfl, hns⟩
  have hz3 := hns.size
  obtain ⟨W4, hW4⟩ : ∃ W4, W4 = w3.alloc (.cells #[.pointer (some ⟨w.heap.size + 3, 0, none⟩)] 53) := ⟨_, rfl⟩
  have hW4' : w3.alloc (.cells #[.pointer (some ⟨w.heap.size + 3, 0, none⟩)] 53) = W4 := hW4.symm
  have hz4 : W4.heap.size = w.heap.size + 5 + H := by rw [hW4, World.size_alloc, hz3]; omega
  have HWK : Hid (Calls Try.prog 29 #[.pointer (some ⟨w.heap.size + 4 + H, 0, none⟩), .pointer (some ⟨w.heap.size + 1, 0, none⟩)] (W4.alloc (.cells #[.int .i64 0] 3)) fun e w' => Boxed w' W4.heap.size 3 (.int .i64 0) ∧ ((∃ v, e = .returned v) ∧ RwYes w W H s w' ∨ ∃ c, e = fault c ∧ RwNo w W H s c w')) := by
    obtain ⟨x0, x1, x2⟩ := HX2.out
    have b3 : Below (w.heap.size + 2) W2 w3 := hns.below
    have b4 : Below w3.heap.size w3 W4 := by rw [hW4]; exact (Below.refl _ _).alloc (Nat.le_refl _) _
    have b5 : Below W4.heap.size W4 (W4.alloc (.cells #[.int .i64 0] 3)) := (Below.refl _ _).alloc (Nat.le_refl _) _
    obtain ⟨W5, hW5⟩ : ∃ W5, W5 = W4.alloc (.cells #[.int .i64 0] 3) := ⟨_, rfl⟩
    rw [← hW5] at b5 ⊢
    have hz5 : W5.heap.size = w.heap.size + 6 + H := by rw [hW5, World.size_alloc, hz4]; omega
    have bw : Below w.heap.size w W5 := ((x2.trans (b3.mono (by omega))).trans (b4.mono (by omega))).trans (b5.mono (by omega))
    have hBr : Br W5 w.heap.size s 0 := ((b5.block _ (by omega)).trans ((b4.block _ (by omega)).trans ((b3.block _ (by omega)).trans x0)))
    have hIB : Boxed W5 (w.heap.size + 1) 50 (.pointer (some ⟨w.heap.size, 0, none⟩)) := ((b5.block _ (by omega)).trans ((b4.block _ (by omega)).trans ((b3.block _ (by omega)).trans x1)))
    have hSB4 : Boxed W4 (w.heap.size + 4 + H) 53 (.pointer (some ⟨w.heap.size + 3, 0, none⟩)) := by
      have := World.alloc_heap_new w3 (.cells #[.pointer (some ⟨w.heap.size + 3, 0, none⟩)] 53)
      rw [hz3, ← hW4, show w.heap.size + 2 + 2 + H = w.heap.size + 4 + H by omega] at this
      exact this
    have hSB : Boxed W5 (w.heap.size + 4 + H) 53 (.pointer (some ⟨w.heap.size + 3, 0, none⟩)) := rl_up hSB4 b5
    have k35 : ∀ k, k < w3.heap.size → W5.heap[k]? = w3.heap[k]? := fun k hk => (b5.block k (by omega)).trans (b4.block k hk)
    have hSh : Sh W5 (w.heap.size + 3) (.slice (some ⟨w.heap.size + 2, 0, none⟩) (rowsAt (w.heap.size + 2) H).length H) 0 0 := by rw [rowsAt_len]; exact (k35 _ (by omega)).trans hns.sheet
    have hGd : Gd (w.heap.size + 2) W5 (w.heap.size + 2) (rowsAt (w.heap.size + 2) H) W Rl.zero := hns.gd.same (by omega) (fun _ => k35 _ (by omega)) (fun b hb => k35 _ (hns.gd.low b hb).2)
    have ap : Apart w.heap.size (w.heap.size + 3) (w.heap.size + 2) (rowsAt (w.heap.size + 2) H) (some ⟨w.heap.size + 2, 0, none⟩) :=
      ⟨by omega, fun h => by have := rowsAt_mem h; omega, fun h => by have := rowsAt_mem h; omega, by omega, by omega, .inr rfl⟩
    refine (rleWork_any (w.heap.size + 2) W5 (w.heap.size + 4 + H) (w.heap.size + 1) w.heap.size (w.heap.size + 3) (w.heap.size + 2) (rowsAt (w.heap.size + 2) H) W (some ⟨w.heap.size + 2, 0, none⟩) H s hSB hIB ⟨hBr, hSh, hGd, Tn.refl _ _ _ _⟩ ap v1 (by omega) (by omega) (fun h => by have := rowsAt_mem h; omega) (by omega) (by omega) (fun h => by have := rowsAt_mem h; omega)).mono ?_
    rintro e w' ⟨ht, h⟩
    have hbel : Below w.heap.size w w' := bw.trans ⟨ht.os, ht.tape, ht.output, by rw [ht.size]; exact Nat.le_refl _, fun k hk => ht.rest k (by omega) (by omega) (fun h => by have := rowsAt_mem h; omega)⟩
    have hcode : Boxed W5 W4.heap.size 3 (.int .i64 0) := by rw [hW5]; exact Boxed.new W4 3 (.int .i64 0)
    refine ⟨ht.box hcode (by omega) (by omega) (fun h => by have := rowsAt_mem h; omega), ?_⟩
    rw [rowsAt_len] at h
    rcases h with ⟨hv, g, x, y, g1, g2, g3⟩ | ⟨c, g1, g2, g3⟩
    · exact .inl ⟨⟨_, hv⟩, ⟨g, x, y, g1, g2, g3⟩, ht.box hSB (by omega) (by omega) (fun h => by have := rowsAt_mem h; omega), hbel, by rw [ht.size]; omega⟩
    · exact .inr ⟨c, g1, g2, g3, hbel⟩
  have HFI : Hid (Calls Try.prog 28 #[.func (.func 29) #[] #[.pointer (some ⟨w.heap.size + 4 + H, 0, none⟩), .pointer (some ⟨w.heap.size + 1, 0, none⟩)]] W4 (FaultOut W4 (RwYes w W H s) (RwNo w W H s))) :=
    faultIn_any 29 _ (enters_of Try.func29 (by kernel_rfl) rfl) _ _ W4 HWK.out
  have e3 : w3.heap.size = w.heap.size + 4 + H := by omega
  clear HWK HX2 hW4 hns hz3 HNS hW2'
  go_wp2_with fail
  refine HFI.out.mono ?_
  rintro e w7 ⟨w6, hb6, (⟨rfl, ⟨⟨g, x, y, g1, g2, g3⟩, g4, g5, g6⟩, ht⟩ | ⟨c, rfl, ⟨hc0, hno, g5⟩, ht⟩)⟩
  · have HANS : Hid (Rl.res s (W : Int) (H : Int) = some g) := HRES.out.trans g1
    have hne : ∀ k, k < w.heap.size + 5 + H → k ≠ W4.heap.size := fun k hk => by omega
    have hsame : ∀ k, k < w.heap.size + 5 + H → w7.heap[k]? = w6.heap[k]? := fun k hk => by rw [ht]; exact Below.heap_setCell w6 ⟨W4.heap.size, 0, none⟩ _ _ (hne k hk)
    have hb7 : Boxed w7 (w.heap.size + 4 + H) 53 (.pointer (some ⟨w.heap.size + 3, 0, none⟩)) := (hsame _ (by omega)).trans g4
    have ho7 : Sh w7 (w.heap.size + 3) (.slice (some ⟨w.heap.size + 2, 0, none⟩) H H) x y := (hsame _ (by omega)).trans g2
    have hz7 : w7.heap.size = w6.heap.size := by rw [ht]; simp
    have hG7 : Gd w.heap.size w7 (w.heap.size + 2) (rowsAt (w.heap.size + 2) H) W g := (g3.same (by omega) (fun _ => hsame _ (by omega)) (fun b hb => hsame b (by have := rowsAt_mem hb; omega))).base (by omega)
    have HF : Hid (RlAns w s (W : Int) (H : Int) (.returned (.tuple #[.slice (some ⟨w.heap.size + 2, 0, none⟩) H H, .bool true])) w7) := by
      refine ⟨by show Below _ _ _; rw [ht]; exact g5.setCell (by show w.heap.size ≤ W4.heap.size; omega) _, .inr ⟨g, HANS.out, some ⟨w.heap.size + 2, 0, none⟩, H, by rw [Int.toNat_natCast], ?_⟩⟩
      rw [Int.toNat_natCast, Int.toNat_natCast]
      exact .inr ⟨w.heap.size + 2, rowsAt (w.heap.size + 2) H, rfl, rowsAt_len _ _, by omega, by omega, hG7⟩
    have k1 := hb7.cell
    obtain ⟨k2, -, -, -, -⟩ := ho7.cells
    clear hb7 ho7 hG7 g1 g2 g3 g4 g5 g6 ht hb6 HFI hsame hne hz7
    go_wp2_with fail
    exact bodyPost_ret (v := .tuple #[.slice (some ⟨w.heap.size + 2, 0, none⟩) H H, .bool true]) (by simp [results, Try.results10, go_sem]) rfl HF.out
  · have HF : Hid (RlAns w s (W : Int) (H : Int) (.returned (.tuple #[.slice none 0 0, .bool false])) w7) := rlAns_no (HRES.out.trans hno) rfl (by show Below _ _ _; rw [ht]; exact g5.setCell (by show w.heap.size ≤ W4.heap.size; omega) _)
    have hcb : (c != 0) = true := by rw [bne_iff_ne]; exact hc0
    clear hno g5 ht hb6 HFI HRES
    go_wp2_with fail
    exact bodyPost_ret (v := .tuple #[.slice none 0 0, .bool false]) (by simp [results, Try.results10, go_sem]) rfl HF.out
end Go.Proofs.Ytlpfedhehfbfeaa
