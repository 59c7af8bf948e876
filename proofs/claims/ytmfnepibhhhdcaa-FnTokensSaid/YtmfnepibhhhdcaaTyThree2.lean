/- The three bytes at a place. -/
import Derived.Test.YtmfnepibhhhdcaaTyMath
import Derived.Below
import Derived.BigQuiet
import Derived.Deep.QuietTactic
import Derived.Deep.RegionLaw
import Derived.Lib.LazyBuf
import Derived.Test.YtmfnepibhhhdcaaBase
namespace Go.Proofs.Ytmfnepibhhhdcaa
open Go.RowKit Go.Lib

def tri (x y z : Nat) : Value := .agg #[.int .u8 (x : Int), .int .u8 (y : Int), .int .u8 (z : Int)]
theorem info_u8_c : (Try.prog.info? 5).map (fun i => (i.zero, i.size, i.bytes)) = some (some (.int .u8 0), 1, 1) := by kernel_rfl
theorem size_u8_c (w : World) : (Go.sizeOf 5).run Try.prog w = .ok 1 w := by
  obtain ⟨i0, hi, hz0, hz1, hz2⟩ := info_parts info_u8_c
  simp [Go.sizeOf, typeInfo, hi, hz1]
theorem first3 (s : ByteArray) (A : Nat) (h : A + 3 ≤ s.size) : ((s.extract A s.size).data.toList.map fun x => Value.int .u8 (x.toNat : Int)).take 3 = [.int .u8 (Ty.b s A : Int), .int .u8 (Ty.b s (A + 1) : Int), .int .u8 (Ty.b s (A + 2) : Int)] := by
  rw [Ty.b_at (by omega), Ty.b_at (by omega), Ty.b_at (by omega)]
  apply List.ext_getElem
  · simp; omega
  · intro i h1 h2
    have hi : i = 0 ∨ i = 1 ∨ i = 2 := by simp at h2; omega
    rcases hi with rfl | rfl | rfl <;> simp [ByteArray.getElem_eq_getElem_data]
theorem run_copy3 (w : World) (ty : TypeId) (b : Nat) (t : ByteArray) (x y z : Value) (h3 : 3 ≤ t.size) (ht : (t.data.toList.map fun x => Value.int .u8 (x.toNat : Int)).take 3 = [x, y, z])
    (hc : ∀ j, j < 3 → (w.cell? ⟨b, 0 + j, none⟩).isSome = true) (hf : ∀ j, j < 3 → w.frozen? ⟨b, 0 + j, none⟩ = false) :
    (Builtin.copy_ #[36, 9] ty #[.slice (some ⟨b, 0, none⟩) 3 3, .string t]).run Try.prog w = .ok (goInt 3) (((w.setCell ⟨b, 0, none⟩ x).setCell ⟨b, 1, none⟩ y).setCell ⟨b, 2, none⟩ z) := by
  have hmin : Nat.min t.size 3 = 3 := Nat.min_eq_right h3
  have hall : ∀ v ∈ [x, y, z], v.oneCell' = true := by
    intro v hv
    rw [← ht] at hv
    obtain ⟨u, _, rfl⟩ := List.mem_map.1 (List.mem_of_mem_take hv)
    rfl
  have hst := run_storeCells_cells (P := Try.prog) b 0 [x, y, z] 0 w (by simpa using hc) (by simpa using hf) hall
  simp [Builtin.copy_, run_underlying Try.underlying36, Builtin.lenOf, Builtin.firstCells, hmin]
  rw [ht, hst]
  rfl
theorem step_copy3 {ops : Array Oper} {o : Oper} {a : Act} {w : World} {K : Act → World → Prop} {Q : Exit → Act → World → Prop} {E : Prop}
    (hg : o.guard = none) (d x : Operand) (hop : o.op = Op.call { callee := Callee.builtin Builtin.copy, args := #[d, x], argTypes := #[36, 9] })
    (b : Nat) (hd : a.eval d = .slice (some ⟨b, 0, none⟩) 3 3) (t : ByteArray) (hx : a.eval x = .string t) (X Y Z : Value) (h3 : 3 ≤ t.size) (ht : (t.data.toList.map fun x => Value.int .u8 (x.toNat : Int)).take 3 = [X, Y, Z])
    (hc : ∀ j, j < 3 → (w.cell? ⟨b, 0 + j, none⟩).isSome = true) (hf : ∀ j, j < 3 → w.frozen? ⟨b, 0 + j, none⟩ = false)
    (hK : K (a.put o.dst (goInt 3)) (((w.setCell ⟨b, 0, none⟩ X).setCell ⟨b, 1, none⟩ Y).setCell ⟨b, 2, none⟩ Z)) :
    if Region.wanted o (yielded ops a.tmps) = true then Oper.wp Try.prog o a w K Q else E := by
  have hw : Region.wanted o (yielded ops a.tmps) = true := by simp [Region.wanted, hg]
  rw [if_pos hw]
  have hrun := run_copy3 w o.type b t X Y Z h3 ht hc hf
  unfold Oper.wp
  simp [execOp, hop, resolve, invoke, builtin, hd, hx, hrun, Result.andThen]
  exact hK

theorem tri_some (W : World) (B : Nat) (hB : B = W.heap.size) (x y z : Value) (T : TypeId) : ∀ j, j < 3 → ((W.alloc (.cells #[x, y, z] T)).drew.cell? ⟨B, 0 + j, none⟩).isSome = true := fun j hj => by
  subst hB
  show ((W.alloc (.cells #[x, y, z] T)).cell? ⟨W.heap.size, 0 + j, none⟩).isSome = true
  have hj' : j = 0 ∨ j = 1 ∨ j = 2 := by omega
  rcases hj' with rfl | rfl | rfl
  all_goals rw [World.cell?_alloc_at _ _ _ _ rfl]; rfl
theorem tri_free (W : World) (B : Nat) (hB : B = W.heap.size) (x y z : Value) (T : TypeId) : ∀ j, j < 3 → (W.alloc (.cells #[x, y, z] T)).drew.frozen? ⟨B, 0 + j, none⟩ = false := fun j _ => by
  subst hB
  show (W.alloc (.cells #[x, y, z] T)).frozen? ⟨W.heap.size, 0 + j, none⟩ = false
  unfold World.frozen?
  rw [show (W.alloc (.cells #[x, y, z] T)).heap[W.heap.size]? = some (.cells #[x, y, z] T (0, 0)) from heap_alloc_new _ _]
  simp
def ThreeEnd (v : Value) (ok : Bool) (w : World) (e : Ending) (w' : World) : Prop := e = .returned (.tuple #[v, .bool ok]) ∧ Below w.heap.size w w'
set_option maxHeartbeats 2000000 in
set_option maxRecDepth 20000 in
theorem threeAt_no (s : ByteArray) (A : Nat) (w : World) (hs : s.size ≤ 9001) (hA : A ≤ s.size) (h : ¬ A + 3 ≤ s.size) :
    Calls Try.prog 113 #[.string s, .int .i64 (A : Int)] w (ThreeEnd (tri 0 0 0) false w) := by
  obtain ⟨B, hB⟩ : ∃ B, B = A + 3 := ⟨_, rfl⟩
  have eB : (A : Int) + 3 = (B : Int) := by omega
  have fB := wrap_i64_nat B (by omega)
  have d : decide ((B : Int) > (s.size : Int)) = true := decide_eq_true (by omega)
  have dn : s.size < B := by omega
  clear hB
  go_enter Try.func113, Try.ntmps113
  go_wp2_with fail
  refine bodyPost_ret (v := .tuple #[tri 0 0 0, .bool false]) ?_ rfl ⟨rfl, ((Below.refl _ _).alloc (Nat.le_refl _) _).alloc (by simp) _⟩
  simp [results, Try.results113, go_sem, tri]
set_option maxHeartbeats 2000000 in
set_option maxRecDepth 20000 in
theorem threeAt_yes (s : ByteArray) (A : Nat) (w : World) (hs : s.size ≤ 9001) (h : A + 3 ≤ s.size) :
    Calls Try.prog 113 #[.string s, .int .i64 (A : Int)] w (ThreeEnd (tri (Ty.b s A) (Ty.b s (A + 1)) (Ty.b s (A + 2))) true w) := by
  obtain ⟨B, hB⟩ : ∃ B, B = A + 3 := ⟨_, rfl⟩
  have eB : (A : Int) + 3 = (B : Int) := by omega
  have fB := wrap_i64_nat B (by omega)
  have d : decide ((B : Int) > (s.size : Int)) = false := decide_eq_false (by omega)
  have hAi : (A : Int) ≤ (s.size : Int) := by omega
  have HT := first3 s A h
  have HS : 3 ≤ (s.extract A s.size).size := by rw [ByteArray.size_extract]; omega
  generalize Ty.b s A = x at *
  generalize Ty.b s (A + 1) = y at *
  generalize Ty.b s (A + 2) = z at *
  have HTH : Hid (((s.extract A s.size).data.toList.map fun x => Value.int .u8 (x.toNat : Int)).take 3 = [.int .u8 (x : Int), .int .u8 (y : Int), .int .u8 (z : Int)]) := HT
  clear hB HT
  go_enter Try.func113, Try.ntmps113
  go_wp2_with fail
  go_region_law (refine step_copy3 rfl (.tmp 13) (.tmp 16) rfl (w.heap.size + 1) (by simp [Act.eval, Act.put]) (s.extract A s.size) (by simp [Act.eval, Act.put]) (.int .u8 (x : Int)) (.int .u8 (y : Int)) (.int .u8 (z : Int)) HS HTH.out (tri_some _ _ (by simp) _ _ _ _) (tri_free _ _ (by simp) _ _ _ _) ?_)
  all_goals (
    go_wp2_with fail
    refine bodyPost_ret (v := .tuple #[tri x y z, .bool true]) ?_ rfl ⟨rfl, ?_⟩
    · simp [results, Try.results113, go_sem, tri]
    · exact (((Below.refl _ _).alloc (Nat.le_refl _) _).alloc (by simp) _).drew)
end Go.Proofs.Ytmfnepibhhhdcaa
