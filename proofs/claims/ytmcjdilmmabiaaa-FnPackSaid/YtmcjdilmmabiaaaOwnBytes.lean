/- Rows of bytes of a call's own: laid anew, read, written, made a text. -/
import Derived.Test.YtmcjdilmmabiaaaStrWalks
import Derived.Laws.IdiomStrings
namespace Go.Proofs.Ytmcjdilmmabiaaa
open Go.RowKit

/-- n bytes f in the block b, that may be written -/
def OwnU (w : World) (b n : Nat) (f : Nat → Nat) : Prop :=
  b < w.heap.size ∧ ∀ j, j < n → w.cell? ⟨b, j, none⟩ = some (.int .u8 ((f j : Nat) : Int)) ∧ w.frozen? ⟨b, j, none⟩ = false

theorem OwnU.kept {w w' : World} {b n lo : Nat} {f : Nat → Nat} (h : OwnU w b n f) (hb : Below lo w w') (hl : b < lo) : OwnU w' b n f :=
  ⟨Nat.lt_of_lt_of_le h.1 hb.size, fun j hj => ⟨(hb.cell (p := ⟨b, j, none⟩) hl).trans (h.2 j hj).1, (hb.frozen (p := ⟨b, j, none⟩) hl).trans (h.2 j hj).2⟩⟩

theorem OwnU.put {w : World} {b n k x : Nat} {f g : Nat → Nat} (h : OwnU w b n f) (hk : k < n) (hg : g k = x) (hf : ∀ i, i < n → i ≠ k → g i = f i) : OwnU (w.setCell ⟨b, k, none⟩ (.int .u8 (x : Int))) b n g := by
  refine ⟨by rw [World.size_setCell]; exact h.1, fun i hi => ⟨?_, ?_⟩⟩
  · by_cases e : i = k
    · subst e; rw [World.cell?_setCell_same _ _ _ (h.2 i hi).1, hg]
    · rw [World.cell?_setCell_other _ _ _ _ (fun q => e (congrArg Addr.off q).symm), (h.2 i hi).1, hf i hi e]
  · rw [World.frozen?_setCell]; exact (h.2 i hi).2

theorem OwnU.beside {w : World} {b n c k : Nat} {f : Nat → Nat} {v : Value} (h : OwnU w b n f) (hne : b ≠ c) : OwnU (w.setCell ⟨c, k, none⟩ v) b n f := by
  refine ⟨by rw [World.size_setCell]; exact h.1, fun i hi => ⟨?_, ?_⟩⟩
  · rw [World.cell?_setCell_other _ _ _ _ (fun q => hne (congrArg Addr.block q).symm), (h.2 i hi).1]
  · rw [World.frozen?_setCell]; exact (h.2 i hi).2

/-- the bytes of a text, laid anew -/
theorem conv_own (s : ByteArray) (w : World) : ∃ (cap : Nat) (w2 : World), Sem.run Try.prog (convert 9 22 (.string s)) w = .ok (.slice (some ⟨w.heap.size, 0, none⟩) s.size cap) w2 ∧
    OwnU w2 w.heap.size s.size (byteAt s) ∧ Below w.heap.size w w2 ∧ w2.heap.size = w.heap.size + 1 := by
  refine ⟨_, _, run_bytes_of_string w 9 22 5 s Try.underlying9 Try.underlying22 Try.underlying5, ⟨?_, ?_⟩, ?_, ?_⟩
  · simp
  · intro i h
    generalize grownCap w s.size 0 5 = cap
    have hg : (w.drew.alloc (.cells (bytesRow s cap) 5 ((bytesRow s cap).size, (bytesRow s cap).size + 1))).heap[w.heap.size]? = some (.cells (bytesRow s cap) 5 ((bytesRow s cap).size, (bytesRow s cap).size + 1)) := heap_alloc_new w.drew _
    refine ⟨?_, ?_⟩
    · rw [cell_of_row _ _ _ _ _ _ hg, bytesRow_at s cap i h, ← byteAt_eq s i h]; rfl
    · unfold World.frozen?
      simp only [hg]
      have hsz : s.size ≤ (bytesRow s cap).size := by unfold bytesRow; simp
      simp
      omega
  · exact (Below.refl _ _).drew.alloc (Nat.le_refl _) _
  · simp

theorem info_u8b : (Try.prog.info? 5).map (fun i => (i.zero, i.size, i.bytes)) = some (some (.int .u8 0), 1, 1) := by kernel_rfl

/-- a new row of noughts -/
theorem make_bytes (n : Nat) (hl : n ≤ 2000000) (w : World) : ∃ w2, (Instr.makeSlice 22 (.int .i64 (n : Int)) (.int .i64 (n : Int))).run Try.prog w = .ok (.slice (some ⟨w.heap.size, 0, none⟩) n n) w2 ∧
    OwnU w2 w.heap.size n (fun _ => 0) ∧ Below w.heap.size w w2 ∧ w2.heap.size = w.heap.size + 1 := by
  obtain ⟨i0, hi, hz0, hz1, hz2⟩ := info_parts info_u8b
  have h := run_make (P := Try.prog) w 22 5 i0 (.int .u8 0) Try.underlying22 hi hz0 .i64 .i64 (n : Int) (n : Int) (by omega) (by omega) (by rw [hz2]; omega) (by omega)
  rw [Int.toNat_natCast, hz1] at h
  refine ⟨_, h, ⟨by simp, fun j hj => ⟨?_, ?_⟩⟩, (Below.refl _ _).alloc (Nat.le_refl _) _, by simp⟩
  · rw [World.cell?_alloc_at _ _ _ _ rfl]
    show (madeCells #[Value.int .u8 0] (n * 1))[j]? = _
    unfold madeCells
    simp [hj, Nat.mod_one]
  · rw [World.frozen?_alloc_at _ _ _ _ rfl]

/-- the text of a row -/
theorem OwnU.text {w : World} {b n cap : Nat} {f : Nat → Nat} (h : OwnU w b n f) :
    Sem.run Try.prog (convert 22 9 (.slice (some ⟨b, 0, none⟩) n cap)) w = .ok (.string ⟨(((List.range n).map f).map UInt8.ofNat).toArray⟩) w := by
  have := run_text w ⟨b, 0, none⟩ cap ((List.range n).map f) ?_
  · simpa using this
  · intro j v hj
    have hjn : j < n := by
      by_cases e : j < n
      · exact e
      · rw [List.getElem?_eq_none (by simp; omega)] at hj; cases hj
    rw [show (⟨b, 0, none⟩ : Addr).add j = ⟨b, j, none⟩ from (by simp [Addr.add]; try omega), (h.2 j hjn).1]
    simpa [hjn] using hj
end Go.Proofs.Ytmcjdilmmabiaaa
