/- Bytes that a call gathers in a row of its own, bit by bit. -/
import Derived.Test.YtjfihmpnbblomaaStrWalks
import Derived.Test.YtjfihmpnbblomaaBpMath
import Derived.Deep.AppendLies
import Derived.Laws.OwnMore
namespace Go.Proofs.Ytjfihmpnbblomaa
open Go.RowKit

theorem info_u8 : (Try.prog.info? 5).map (fun i => (i.zero, i.size, i.bytes)) = some (some (.int .u8 0), 1, 1) := by kernel_rfl

/-- bytes as they lie in memory -/
def bytesV (o : List Nat) : List Value := o.map fun x : Nat => Value.int .u8 (x : Int)
theorem bytesV_len (o : List Nat) : (bytesV o).length = o.length := by simp [bytesV]
theorem bytesV_get (o : List Nat) (j : Nat) (h : j < o.length) : (bytesV o)[j]? = some (.int .u8 ((o.getD j 0 : Nat) : Int)) := by
  simp [bytesV, h]
theorem bytesV_set (o : List Nat) (j x : Nat) : (bytesV o).set j (.int .u8 (x : Int)) = bytesV (o.set j x) := by simp [bytesV, List.map_set]
theorem bytesV_snoc (o : List Nat) : bytesV o ++ [.int .u8 0] = bytesV (o ++ [0]) := by simp [bytesV]

/-- the slice v owns the bytes o, L of them -/
def OwnB (w : World) (B : Nat) (v : Value) (L : Nat) (o : List Nat) : Prop := w.ownsRow B 5 1 v L (bytesV o)

theorem OwnB.len {w : World} {B L : Nat} {v : Value} {o : List Nat} (h : OwnB w B v L o) : o.length = L := by
  have := h.1
  rw [bytesV_len] at this; omega

theorem own_room {w : World} {B L g cap : Nat} {o : List Nat} {N : Nat} (h8 : N % 8 = 0) (h : w.ownsRow B 5 1 (.slice (some ⟨g, 0, none⟩) (L + 1) cap) (L + 1) (bytesV o ++ [.int .u8 0])) : OwnB w B (.slice (some ⟨g, 0, none⟩) (L + 1) cap) (L + 1) (Bp.room N o) := by
  unfold OwnB Bp.room
  rw [if_pos h8, ← bytesV_snoc]
  exact h

/-- the byte that the next bit goes into -/
theorem OwnB.cell {w : World} {B g j L cap : Nat} {o : List Nat} (h : OwnB w B (.slice (some ⟨g, 0, none⟩) L cap) L o) (hj : j < L) : w.cell? ⟨g, j, none⟩ = some (.int .u8 ((o.getD j 0 : Nat) : Int)) := by
  have := World.ownsRow.cellAt h j (by omega)
  rw [this, bytesV_get _ _ (by rw [h.len]; omega)]

theorem OwnB.free {w : World} {B g L cap : Nat} {o : List Nat} (h : OwnB w B (.slice (some ⟨g, 0, none⟩) L cap) L o) (j : Nat) : w.frozen? ⟨g, j, none⟩ = false := World.ownsRow.frozenAt h j

theorem OwnB.put {w : World} {B g L cap : Nat} {o : List Nat} (h : OwnB w B (.slice (some ⟨g, 0, none⟩) L cap) L o) (j y : Nat) : OwnB (w.setCell ⟨g, j, none⟩ (.int .u8 (y : Int))) B (.slice (some ⟨g, 0, none⟩) L cap) L (o.set j y) := by
  have := (World.ownsRow.stored h j (.int .u8 (y : Int))).1
  rw [bytesV_set] at this
  exact this

theorem OwnB.drew {w : World} {B L : Nat} {v : Value} {o : List Nat} (h : OwnB w B v L o) : OwnB w.drew B v L o := h

/-- one bit more -/
theorem OwnB.step {w : World} {B g j L cap N : Nat} {hi : Bool} {f : Nat → Nat} (h : OwnB w B (.slice (some ⟨g, 0, none⟩) L cap) L (Bp.room N (Bp.pack hi f N))) (hj : j = N / 8) {y : Nat} (hy : y = (Bp.room N (Bp.pack hi f N)).getD j 0 + f N * 2 ^ Bg.spot hi N) :
    OwnB (w.setCell ⟨g, j, none⟩ (.int .u8 (y : Int))) B (.slice (some ⟨g, 0, none⟩) L cap) L (Bp.pack hi f (N + 1)) := by
  have := h.put j y
  rw [hy, hj] at this
  rw [hy, hj]
  exact this

theorem text_nil (w : World) : Sem.run Try.prog (convert 22 9 (.slice none 0 0)) w = .ok (.string ⟨#[]⟩) w := by kernel_rfl

/-- the text of all -/
theorem OwnB.text {w : World} {B L : Nat} {v : Value} {o : List Nat} (h : OwnB w B v L o) : ∃ cap, ∃ ao, v = .slice ao L cap ∧
    Sem.run Try.prog (convert 22 9 (.slice ao L cap)) w = .ok (.string ⟨(o.map UInt8.ofNat).toArray⟩) w := by
  have hl := h.len
  rcases h.2 with ⟨rfl, h0⟩ | ⟨g, cap, cur, rfl, _, hg, _, _, _, ht⟩
  · subst h0
    refine ⟨0, none, rfl, ?_⟩
    have : o = [] := List.eq_nil_of_length_eq_zero hl
    subst this
    exact text_nil w
  · refine ⟨cap, some ⟨g, 0, none⟩, rfl, ?_⟩
    subst hl
    refine run_text w ⟨g, 0, none⟩ cap o ?_
    intro j v hj
    have := (World.ownsRow.cells h rfl) j v hj
    exact this

/-- an empty row, just laid -/
theorem own_empty (w : World) : OwnB (w.alloc (.cells #[] 5)) w.heap.size (.slice (some ⟨w.heap.size, 0, none⟩) 0 0) 0 [] :=
  World.ownsRow_lit w #[] 0 (Nat.le_refl _) (by decide) rfl
end Go.Proofs.Ytjfihmpnbblomaa
