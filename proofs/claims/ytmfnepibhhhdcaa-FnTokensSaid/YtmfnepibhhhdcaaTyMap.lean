/- The places of a text at which three bytes stood, in a map. -/
import Derived.Test.YtmfnepibhhhdcaaTyEntry
import Derived.Test.YtmfnepibhhhdcaaTyMath
import Derived.Test.YtmfnepibhhhdcaaTyThree2
namespace Go.Proofs.Ytmfnepibhhhdcaa
open Go.RowKit Go.Maps
open Go.ChangeShapes (lits)

theorem laidOut_y : laidOutB Try.prog = true := by kernel_rfl
theorem row_tri : (139 : TypeId) < Try.prog.types.size := of_decide_eq_true (by kernel_rfl)
set_option maxRecDepth 100000 in
theorem ktype_tri : Try.prog.keyTypeAt 2 139 = true := by kernel_rfl
theorem law_tri : WideMaps.KeyLaw Try.prog 139 := deep_law_laid laidOut_y (m := 2) (Nat.le_of_ble_eq_true rfl) row_tri ktype_tri (by rw [Try.underlying139])
theorem key_tri : Keyed Try.prog 139 := Keyed.of_law law_tri
theorem cells_tri : Try.prog.cellsOf 139 = 3 := by kernel_rfl
theorem cells_byte_y : Try.prog.cellsOf 5 = 1 := by kernel_rfl
set_option maxRecDepth 100000 in
theorem kt_tri : Try.prog.keyType 139 = true := by kernel_rfl
theorem size_pos_y {n k : Nat} (h : k < n) : ∃ d, n = d + 1 := ⟨n - 1, by omega⟩
def triKey (x y z : Nat) : Lit := .string (keyBytes [.int .u8 (x : Int), .int .u8 (y : Int), .int .u8 (z : Int)])
theorem triKey_of (x y z : Nat) (hx : x < 256) (hy : y < 256) (hz : z < 256) : keyOf Try.prog 139 (tri x y z) = some (triKey x y z) := by
  have wf : ∀ c : Nat, c < 256 → (Lit.int .u8 (c : Int)).wf = true := fun c hc => WalkArith.wf_u8 (by omega)
  have hl : Try.prog.keyLits (Try.prog.types.size + 1) 139 (tri x y z).cells.toList = some [.int .u8 (x : Int), .int .u8 (y : Int), .int .u8 (z : Int)] := by
    show Try.prog.keyLits (Try.prog.types.size + 1) 139 [.int .u8 (x : Int), .int .u8 (y : Int), .int .u8 (z : Int)] = _
    obtain ⟨d, hd⟩ := size_pos_y row_tri
    rw [hd]
    unfold Program.keyLits
    simp only [Try.underlying139]
    have k2 : ∀ c : Nat, c < 256 → Try.prog.keyLits (d + 1) 5 [.int .u8 (c : Int)] = some [.int .u8 (c : Int)] := fun c hc => by
      unfold Program.keyLits
      simp only [Try.underlying5]
      rw [if_pos ⟨trivial, wf c hc⟩]
    rw [if_pos (by rw [cells_tri]; rfl)]
    simp [cells_byte_y, k2 x hx, k2 y hy, k2 z hz, show List.range 3 = [0, 1, 2] from rfl]
  have hf : (tri x y z).formed Try.prog 139 = true := by simp [tri, Value.formed, Try.underlying139, cells_tri]
  unfold keyOf
  simp only [Try.underlying139, kt_tri, hf, hl, Bool.and_self, if_true, Option.map_some]
  rfl
theorem triKey_inj {x y z x' y' z' : Nat} (hx : x < 256) (hy : y < 256) (hz : z < 256) (hx' : x' < 256) (hy' : y' < 256) (hz' : z' < 256) (e : triKey x y z = triKey x' y' z') : x = x' ∧ y = y' ∧ z = z' := by
  have h1 := triKey_of x y z hx hy hz
  have h2 := triKey_of x' y' z' hx' hy' hz'
  rw [← e] at h2
  have h3 := key_tri.inj h1 h2
  unfold tri at h3
  injection h3 with h4
  simp at h4
  omega
theorem triKey_lit (x y z : Nat) : WideAt.IsKeyLit (triKey x y z) := trivial
theorem zero_ints (u : World) : (zeroValue 22).run Try.prog u = .ok (.slice none 0 0) u := by
  have h : (Try.prog.info? 22).map (fun i => (i.zero, i.size, i.bytes)) = some (some (.slice none 0 0), 1, 24) := by kernel_rfl
  obtain ⟨i0, hi, hz0, _, _⟩ := info_parts h
  simp [zeroValue, typeInfo, hi, hz0]

/-- the places, as numbers -/
def plsI (s : ByteArray) (x y z A : Nat) : List Int := (Ty.pls s x y z A).map (fun (p : Nat) => (p : Int))
theorem plsI_len (s : ByteArray) (x y z A : Nat) : (plsI s x y z A).length ≤ A := by unfold plsI; rw [List.length_map]; exact Ty.pls_len s x y z A
/-- the map tells the places -/
structure TriTab (D : DataW Unit) (s : ByteArray) (A : Nat) : Prop where
  isMap : IsMap D
  at_ : ∀ x y z : Nat, x < 256 → y < 256 → z < 256 → (D.atKey (triKey x y z) .nil = .nil ∧ plsI s x y z A = []) ∨ D.atKey (triKey x y z) .nil = .slice (lits .i64 (plsI s x y z A)) []
theorem tri_start (s : ByteArray) : TriTab (.map []) s 0 := ⟨isMap_empty, fun _ _ _ _ _ _ => .inl ⟨rfl, rfl⟩⟩
theorem lits_inj {a b : List Int} (h : (lits .i64 a : List (DataW Unit)) = lits .i64 b) : a = b := by
  unfold lits at h
  refine (List.map_inj_right (fun x y hxy => ?_)).1 h
  injection hxy with h1
  injection h1
theorem TriTab.is {D : DataW Unit} {s : ByteArray} {A x y z : Nat} (t : TriTab D s A) (hx : x < 256) (hy : y < 256) (hz : z < 256) {w : World} {base : Nat} {v : Value} {zs : List Int} (hat : D.atKey (triKey x y z) .nil = rowDatum .i64 v zs) (ho : w.ownsInts base 3 .i64 v zs) : zs = plsI s x y z A := by
  rcases ho.datum (H := Unit) with ⟨h1, h2⟩ | h1 <;> rcases t.at_ x y z hx hy hz with ⟨h3, h4⟩ | h3
  · rw [h2, h4]
  · rw [hat, h1] at h3; cases h3
  · rw [hat, h1] at h3; cases h3
  · rw [hat, h1] at h3
    injection h3 with h5
    exact lits_inj h5
theorem TriTab.more {D : DataW Unit} {s : ByteArray} {A : Nat} (t : TriTab D s A) (h : A + 3 ≤ s.size) :
    TriTab (D.put (triKey (Ty.b s A) (Ty.b s (A + 1)) (Ty.b s (A + 2))) (.slice (lits .i64 (plsI s (Ty.b s A) (Ty.b s (A + 1)) (Ty.b s (A + 2)) A ++ [(A : Int)])) [])) s (A + 1) := by
  refine ⟨t.isMap.put _ _, fun x y z hx hy hz => ?_⟩
  by_cases e : x = Ty.b s A ∧ y = Ty.b s (A + 1) ∧ z = Ty.b s (A + 2)
  · obtain ⟨rfl, rfl, rfl⟩ := e
    right
    rw [atKey_put_same t.isMap (triKey_lit _ _ _)]
    unfold plsI
    rw [Ty.pls_yes ⟨h, rfl, rfl, rfl⟩, List.map_append]
    rfl
  · have hne : triKey x y z ≠ triKey (Ty.b s A) (Ty.b s (A + 1)) (Ty.b s (A + 2)) := fun q => e (triKey_inj hx hy hz (Ty.b_lt _ _) (Ty.b_lt _ _) (Ty.b_lt _ _) q)
    have hp : plsI s x y z (A + 1) = plsI s x y z A := by
      unfold plsI
      rw [Ty.pls_no (fun q => e ⟨q.2.1.symm, q.2.2.1.symm, q.2.2.2.symm⟩)]
    rw [atKey_put_other hne, hp]
    exact t.at_ x y z hx hy hz
theorem TriTab.none {D : DataW Unit} {s : ByteArray} {A : Nat} (t : TriTab D s A) (h : ¬ A + 3 ≤ s.size) : TriTab D s (A + 1) := by
  refine ⟨t.isMap, fun x y z hx hy hz => ?_⟩
  have hp : plsI s x y z (A + 1) = plsI s x y z A := by
    unfold plsI
    rw [Ty.pls_no (fun q => h q.1)]
  rw [hp]
  exact t.at_ x y z hx hy hz
/-- .. in memory, from block B on -/
def Seen (s : ByteArray) (B A : Nat) (W : World) : Prop := ∃ (D : DataW Unit) (n : Nat), n ≤ A ∧ W.ownsGroups Try.prog 139 (B + 1) 3 .i64 B n D ∧ TriTab D s A
theorem seen_start (s : ByteArray) (w : World) : Seen s w.heap.size 0 (w.alloc (.map #[] 0)) := ⟨_, 0, Nat.le_refl _, World.ownsGroups_made _ _ _ _ _, tri_start s⟩
end Go.Proofs.Ytmfnepibhhhdcaa
