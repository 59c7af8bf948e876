/- Bytes of a text that a call gathers in a row of its own: one byte more, a text more, the text of all. -/
import Derived.Test.YtcgmmpfckmhahaaStrWalks
import Derived.Test.YtcgmmpfckmhahaaAppOne
import Derived.Lib.AppendStr
namespace Go.Proofs.Ytcgmmpfckmhahaa
open Go.RowKit

theorem info_u8t : (Try.prog.info? 5).map (fun i => (i.zero, i.size, i.bytes)) = some (some (.int .u8 0), 1, 1) := by kernel_rfl

/-- the size of a text in a slot: for a loop's measure -/
def sizeOfStr : Value → Nat | .string s => s.size | _ => 0
theorem sizeOfStr_mk (l : List UInt8) : sizeOfStr (.string ⟨l.toArray⟩) = l.length := by simp [sizeOfStr, ByteArray.size]

/-- bytes as they lie in memory -/
def u8V (l : List UInt8) : List Value := l.map fun c => Value.int .u8 ((c.toNat : Nat) : Int)
theorem u8V_len (l : List UInt8) : (u8V l).length = l.length := by simp [u8V]
theorem u8V_append (l k : List UInt8) : u8V l ++ u8V k = u8V (l ++ k) := by simp [u8V]
theorem u8V_str (s : ByteArray) : Go.Lib.strCells s = u8V s.data.toList := rfl

/-- the slice v owns the bytes l, n of them -/
def OwnT (w : World) (B : Nat) (v : Value) (n : Nat) (l : List UInt8) : Prop := w.ownsRow B 5 1 v n (u8V l)
theorem OwnT.len {w : World} {B n : Nat} {v : Value} {l : List UInt8} (h : OwnT w B v n l) : l.length = n := by
  have := h.1
  rw [u8V_len] at this; omega
theorem OwnT.alloc {w : World} {B n : Nat} {v : Value} {l : List UInt8} (h : OwnT w B v n l) (o : Obj) : OwnT (w.alloc o) B v n l := World.ownsRow.alloc (show World.ownsRow _ _ _ _ _ _ _ from h) o
theorem ownT_nil (w : World) (B : Nat) : OwnT w B (.slice none 0 0) 0 [] := World.ownsRow_nil _ _ _ _
theorem OwnT.drewN {w : World} {B n : Nat} {v : Value} {l : List UInt8} (h : OwnT w B v n l) (m : Nat) : OwnT (w.drewN m) B v n l := h

theorem text_nilT (w : World) : Sem.run Try.prog (convert 81 9 (.slice none 0 0)) w = .ok (.string ⟨#[]⟩) w := by kernel_rfl

theorem map_toNat (l : List UInt8) : (l.map UInt8.toNat).map UInt8.ofNat = l := by
  rw [List.map_map]
  conv => rhs; rw [← List.map_id l]
  apply List.map_congr_left
  intro c _
  simp

/-- the text of all -/
theorem OwnT.text {w : World} {B n : Nat} {v : Value} {l : List UInt8} (h : OwnT w B v n l) : Sem.run Try.prog (convert 81 9 v) w = .ok (.string ⟨l.toArray⟩) w := by
  have hl := h.len
  rcases h.2 with ⟨rfl, h0⟩ | ⟨g, cap, cur, rfl, _, hg, _, _, _, ht⟩
  · subst h0
    have : l = [] := List.eq_nil_of_length_eq_zero hl
    subst this
    exact text_nilT w
  · subst hl
    have := run_text w ⟨g, 0, none⟩ cap (l.map UInt8.toNat) (by
      intro j v hj
      have e : (l.map UInt8.toNat).map (fun n : Nat => Value.int .u8 (n : Int)) = u8V l := by simp [u8V]
      rw [e] at hj
      exact (World.ownsRow.cells h rfl) j v hj)
    rw [map_toNat, List.length_map] at this
    exact this

/-- one byte more, just laid -/
theorem wpList_appT1 {ops : Array Oper} {rest : List Oper} {o : Oper} {a : Act} {Q : Exit → Act → World → Prop} (w0 : World) (hgd : o.guard = none) (s x : Operand)
    (ho : o.op = .call { callee := .builtin .append, args := #[s, x], argTypes := #[81, 81] })
    (base : Nat) (v : Value) (n : Nat) (l : List UInt8) (z : Int) (c : UInt8) (hz : z = ((c.toNat : Nat) : Int)) (hs : a.eval s = v) (hown : OwnT w0 base v n l) (hx : a.eval x = .slice (some ⟨w0.heap.size, 0, none⟩) 1 1) (hn : n ≤ 2000000) (hb : base ≤ w0.heap.size)
    (h : ∀ g cap w', OwnT w' base (.slice (some ⟨g, 0, none⟩) (n + 1) cap) (n + 1) (l ++ [c]) → Grew base w0 w' v g → wpList Try.prog ops Q rest (a.put o.dst (.slice (some ⟨g, 0, none⟩) (n + 1) cap)) w') :
    wpList Try.prog ops Q (o :: rest) a (w0.alloc (.cells #[.int .u8 z] 5)) := by
  subst hz
  obtain ⟨i0, hi0, hz0, hz1, hz2⟩ := info_parts info_u8t
  refine wpList_append_lies _ hgd s x _ ho base 5 i0 (.int .u8 0) 1 1 Try.underlying81 hi0 hz0 hz1 hz2 rfl (by decide) v n (u8V l) hs (World.ownsRow.alloc (show World.ownsRow _ _ _ _ _ _ _ from hown) _) ⟨w0.heap.size, 0, none⟩ 1 1 [.int .u8 ((c.toNat : Nat) : Int)] hx rfl (World.news_of_block (heap_alloc_new _ _)) (fun u hu => by simp at hu; subst hu; rfl) (by decide) (by unfold maxLen; omega) (by omega) (by rw [World.size_alloc]; omega) _ rfl ?_
  intro g cap w' hown' hg hat hlt
  exact h g cap w' (by rw [show [Value.int .u8 ((c.toNat : Nat) : Int)] = u8V [c] from rfl, u8V_append] at hown'; exact hown') (Grew.of hown hg hat hlt)

/-- a text more -/
theorem wpList_appTs {ops : Array Oper} {rest : List Oper} {o : Oper} {a : Act} {Q : Exit → Act → World → Prop} (w0 : World) (hgd : o.guard = none) (s x : Operand)
    (ho : o.op = .call { callee := .builtin .append, args := #[s, x], argTypes := #[81, 9] })
    (base : Nat) (v : Value) (n : Nat) (l p : List UInt8) (hs : a.eval s = v) (hown : OwnT w0 base v n l) (hx : a.eval x = .string ⟨p.toArray⟩) (hn : n + p.length ≤ 2000000) (hb : base ≤ w0.heap.size)
    (h : ∀ v' w', OwnT w' base v' (n + p.length) (l ++ p) → (∀ B W, Below B W w0 → B ≤ base → B ≤ w0.heap.size → Below B W w') → wpList Try.prog ops Q rest (a.put o.dst v') w') :
    wpList Try.prog ops Q (o :: rest) a w0 := by
  obtain ⟨i0, hi0, hz0, hz1, hz2⟩ := info_parts info_u8t
  have hsz : (ByteArray.mk p.toArray).size = p.length := by simp [ByteArray.size]
  refine Go.Lib.wpList_append_own_string _ hgd s x _ _ ho base 5 i0 Try.underlying81 Try.underlying9 hi0 hz0 hz1 hz2 v n (u8V l) hs hown ⟨p.toArray⟩ hx (by rw [hsz]; unfold maxLen; omega) (by rw [hsz]; omega) hb ?_
  intro v' w' hown' hg _
  rw [hsz, u8V_str, u8V_append] at hown'
  exact h v' w' hown' fun B W hB h1 h2 => hB.grown hg h2 (fun k hk => Nat.le_trans h1 (World.ownsRow.lt hown k hk).1)
end Go.Proofs.Ytcgmmpfckmhahaa
