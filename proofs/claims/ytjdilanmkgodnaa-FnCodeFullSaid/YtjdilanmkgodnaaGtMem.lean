/- The tree of a code in memory. -/
import Derived.Test.YtjdilanmkgodnaaGtMath
import Derived.Test.YtjdilanmkgodnaaBase
import Derived.Laws.Tables
namespace Go.Proofs.Ytjdilanmkgodnaa
open Go.RowKit

def ptr : Option Nat → Value
  | none => .pointer none
  | some b => .pointer (some ⟨b, 0, none⟩)
def nodeV (s : Int) (l r : Option Nat) : Obj := .cells #[.int .i64 s, ptr l, ptr r, .int .i64 0, .int .i64 0] 79 (0, 0)

/-- a tree: the node at a depth and a number lies in a block; its symbol -/
structure Tri (w : World) (lo : Nat) (N : Nat → Nat → Option Nat) (S : Nat → Nat → Int) : Prop where
  node : ∀ d v b, N d v = some b → lo ≤ b ∧ w.heap[b]? = some (nodeV (S d v) (N (d + 1) (2 * v)) (N (d + 1) (2 * v + 1)))
  inj : ∀ d v d' v' b, N d v = some b → N d' v' = some b → d = d' ∧ v = v'
  closed : ∀ d v b, N (d + 1) v = some b → ∃ b', N d (v / 2) = some b'
  dead : ∀ d v, N d v = none → S d v = -1

theorem Tri.lt {w : World} {lo : Nat} {N : Nat → Nat → Option Nat} {S : Nat → Nat → Int} (h : Tri w lo N S) {d v b : Nat} (hb : N d v = some b) : b < w.heap.size := (Array.getElem?_eq_some_iff.1 (h.node d v b hb).2).1
theorem Tri.same {w w' : World} {lo : Nat} {N : Nat → Nat → Option Nat} {S : Nat → Nat → Int} (h : Tri w lo N S) (hk : ∀ k, k < w.heap.size → lo ≤ k → w'.heap[k]? = w.heap[k]?) : Tri w' lo N S :=
  ⟨fun d v b hb => ⟨(h.node d v b hb).1, (hk b (h.lt hb) (h.node d v b hb).1).trans (h.node d v b hb).2⟩, h.inj, h.closed, h.dead⟩
theorem Tri.cells {w : World} {lo : Nat} {N : Nat → Nat → Option Nat} {S : Nat → Nat → Int} (h : Tri w lo N S) {d v b : Nat} (hb : N d v = some b) :
    w.cell? ⟨b, 0, none⟩ = some (.int .i64 (S d v)) ∧ w.cell? ⟨b, 1, none⟩ = some (ptr (N (d + 1) (2 * v))) ∧ w.cell? ⟨b, 2, none⟩ = some (ptr (N (d + 1) (2 * v + 1))) ∧ w.frozen? ⟨b, 0, none⟩ = false ∧ w.frozen? ⟨b, 1, none⟩ = false ∧ w.frozen? ⟨b, 2, none⟩ = false := by
  have := (h.node d v b hb).2
  unfold nodeV at this
  simp [World.cell?, World.frozen?, this]
/-- the tree of a top alone -/
theorem tri_new (w : World) : Tri (w.alloc (nodeV (-1) none none)) w.heap.size (fun d v => if d = 0 ∧ v = 0 then some w.heap.size else none) (fun _ _ => -1) := by
  refine ⟨fun d v b hb => ?_, fun d v d' v' b h1 h2 => ?_, fun d v b h => ?_, fun _ _ _ => rfl⟩
  · split at hb
    · rename_i hc
      obtain ⟨rfl, rfl⟩ := hc
      cases hb
      exact ⟨Nat.le_refl _, by rw [heap_alloc_new]; simp⟩
    · cases hb
  · split at h1
    · split at h2
      · omega
      · cases h2
    · cases h1
  · split at h
    · omega
    · cases h
/-- a symbol is set down -/
theorem Tri.setSym {w : World} {lo : Nat} {N : Nat → Nat → Option Nat} {S : Nat → Nat → Int} (h : Tri w lo N S) {n u b : Nat} (hb : N n u = some b) (x : Int) : Tri (w.setCell ⟨b, 0, none⟩ (.int .i64 x)) lo N (Gt.upd S n u x) := by
  have hn := (h.node n u b hb).2
  refine ⟨fun d v b' hb' => ⟨(h.node d v b' hb').1, ?_⟩, h.inj, h.closed, fun d v hd => ?_⟩
  · by_cases e : b' = b
    · subst e
      obtain ⟨rfl, rfl⟩ := h.inj d v n u b' hb' hb
      unfold nodeV at hn ⊢
      rw [setCell_eq_setRow w b' 0 _ _ (0, 0) _ hn, setRow_heap w b' _ _ _ _ hn]
      unfold Gt.upd
      rw [if_pos ⟨rfl, rfl⟩]
      simp
    · rw [Below.heap_setCell w ⟨b, 0, none⟩ _ b' e, (h.node d v b' hb').2]
      unfold Gt.upd
      rw [if_neg]
      rintro ⟨rfl, rfl⟩
      rw [hb] at hb'
      cases hb'
      exact e rfl
  · unfold Gt.upd
    rw [if_neg, h.dead d v hd]
    rintro ⟨rfl, rfl⟩
    rw [hb] at hd
    cases hd
/-- a new node below another -/
def addN (N : Nat → Nat → Option Nat) (d v b : Nat) : Nat → Nat → Option Nat := fun d' v' => if d' = d ∧ v' = v then some b else N d' v'
theorem Tri.grow {w : World} {lo : Nat} {N : Nat → Nat → Option Nat} {S : Nat → Nat → Int} (h : Tri w lo N S) {d v b t : Nat} (hb : N d v = some b) (ht : t < 2) (hno : N (d + 1) (2 * v + t) = none) (hlo : lo ≤ w.heap.size) :
    Tri ((w.alloc (nodeV (-1) none none)).setCell ⟨b, 1 + t, none⟩ (.pointer (some ⟨w.heap.size, 0, none⟩))) lo (addN N (d + 1) (2 * v + t) w.heap.size) S := by
  have hn := (h.node d v b hb).2
  have hblt := h.lt hb
  have hkids : ∀ x, N (d + 1 + 1) x = none ∨ x / 2 ≠ 2 * v + t := fun x => by
    rcases hx : N (d + 1 + 1) x with _ | y
    · exact .inl rfl
    · right
      intro e
      obtain ⟨b', hb'⟩ := h.closed (d + 1) x y hx
      rw [e, hno] at hb'
      cases hb'
  have hadd : ∀ d' v', (d' = d + 1 ∧ v' = 2 * v + t) ∨ addN N (d + 1) (2 * v + t) w.heap.size d' v' = N d' v' := fun d' v' => by
    by_cases e : d' = d + 1 ∧ v' = 2 * v + t
    · exact .inl e
    · right; unfold addN; rw [if_neg e]
  have hself : addN N (d + 1) (2 * v + t) w.heap.size (d + 1) (2 * v + t) = some w.heap.size := by unfold addN; rw [if_pos ⟨rfl, rfl⟩]
  refine ⟨fun d' v' b' hb' => ?_, fun d1 v1 d2 v2 b' h1 h2 => ?_, fun d' v' b' hb' => ?_, fun d' v' hd => ?_⟩
  · rcases hadd d' v' with ⟨rfl, rfl⟩ | e
    · rw [hself] at hb'
      cases hb'
      refine ⟨hlo, ?_⟩
      rw [Below.heap_setCell _ ⟨b, 1 + t, none⟩ _ _ (by show w.heap.size ≠ b; omega), heap_alloc_new]
      have e1 : ∀ c, c < 2 → addN N (d + 1) (2 * v + t) w.heap.size (d + 1 + 1) (2 * (2 * v + t) + c) = none := fun c hc => by
        unfold addN
        rw [if_neg (by omega)]
        rcases hkids (2 * (2 * v + t) + c) with hk | hk
        · exact hk
        · omega
      have e2 : addN N (d + 1) (2 * v + t) w.heap.size (d + 1 + 1) (2 * (2 * v + t)) = none := e1 0 (by omega)
      rw [e2, e1 1 (by omega), h.dead _ _ hno]
    · rw [e] at hb'
      have hlt := h.lt hb'
      refine ⟨(h.node d' v' b' hb').1, ?_⟩
      by_cases eb : b' = b
      · subst eb
        obtain ⟨rfl, rfl⟩ := h.inj d' v' d v b' hb' hb
        have hn2 : (w.alloc (nodeV (-1) none none)).heap[b']? = some (nodeV (S d' v') (N (d' + 1) (2 * v')) (N (d' + 1) (2 * v' + 1))) := (Below.heap_alloc _ _ _ hlt).trans hn
        unfold nodeV at hn2 ⊢
        rw [setCell_eq_setRow _ b' (1 + t) _ _ (0, 0) _ hn2, setRow_heap _ b' _ _ _ _ hn2]
        have : t = 0 ∨ t = 1 := by omega
        rcases this with rfl | rfl
        · have e1 : addN N (d' + 1) (2 * v' + 0) w.heap.size (d' + 1) (2 * v' + 1) = N (d' + 1) (2 * v' + 1) := by unfold addN; rw [if_neg (by omega)]
          have e0 : addN N (d' + 1) (2 * v' + 0) w.heap.size (d' + 1) (2 * v') = some w.heap.size := hself
          rw [e0, e1]
          simp [ptr]
        · have e0 : addN N (d' + 1) (2 * v' + 1) w.heap.size (d' + 1) (2 * v') = N (d' + 1) (2 * v') := by unfold addN; rw [if_neg (by omega)]
          rw [hself, e0]
          simp [ptr]
      · rw [Below.heap_setCell _ ⟨b, 1 + t, none⟩ _ _ eb, Below.heap_alloc _ _ _ hlt, (h.node d' v' b' hb').2]
        have e1 : ∀ c, c < 2 → addN N (d + 1) (2 * v + t) w.heap.size (d' + 1) (2 * v' + c) = N (d' + 1) (2 * v' + c) := fun c hc => by
          unfold addN
          rw [if_neg]
          rintro ⟨q1, q2⟩
          have q3 : d' = d := by omega
          have q4 : v' = v := by omega
          subst q3; subst q4
          rw [hb] at hb'
          cases hb'
          exact eb rfl
        have e0 : addN N (d + 1) (2 * v + t) w.heap.size (d' + 1) (2 * v') = N (d' + 1) (2 * v') := e1 0 (by omega)
        rw [e0, e1 1 (by omega)]
  · rcases hadd d1 v1 with ⟨rfl, rfl⟩ | e1
    · rw [hself] at h1
      cases h1
      rcases hadd d2 v2 with ⟨rfl, rfl⟩ | e2
      · exact ⟨rfl, rfl⟩
      · rw [e2] at h2
        have := h.lt h2
        omega
    · rw [e1] at h1
      rcases hadd d2 v2 with ⟨rfl, rfl⟩ | e2
      · rw [hself] at h2
        cases h2
        have := h.lt h1
        omega
      · rw [e2] at h2
        exact h.inj d1 v1 d2 v2 b' h1 h2
  · rcases hadd (d' + 1) v' with ⟨q1, q2⟩ | e
    · have q3 : d' = d := by omega
      subst q3
      refine ⟨b, ?_⟩
      rw [q2, show (2 * v + t) / 2 = v by omega]
      unfold addN
      rw [if_neg (by omega)]
      exact hb
    · rw [e] at hb'
      obtain ⟨b2, hb2⟩ := h.closed d' v' b' hb'
      rcases hadd d' (v' / 2) with ⟨q1, q2⟩ | e2
      · exact ⟨_, by rw [q1, q2]; exact hself⟩
      · exact ⟨b2, by rw [e2]; exact hb2⟩
  · rcases hadd d' v' with ⟨rfl, rfl⟩ | e
    · rw [hself] at hd; cases hd
    · rw [e] at hd; exact h.dead d' v' hd
end Go.Proofs.Ytjdilanmkgodnaa
