/- Marks laid into a list of the call's own, and found again. -/
import Derived.Test.YtgfknlnpnnjkoaaDoorOwnRow
namespace Go.Proofs.YtgfknlnpnnjkoaaDoor
open Go.RowKit

/-- n cells at the head of block b, which can be written -/
def Own (w : World) (b n : Nat) (f : Nat → Int) : Prop := b < w.heap.size ∧ ∀ i, i < n → w.cell? ⟨b, i, none⟩ = some (.int .i64 (f i)) ∧ w.frozen? ⟨b, i, none⟩ = false

/-- nothing but block b has turned -/
structure Turned (b : Nat) (w w' : World) : Prop where
  os : w'.os = w.os
  tape : w'.tape = w.tape
  output : w'.output = w.output
  size : w'.heap.size = w.heap.size
  rest : ∀ k, k ≠ b → w'.heap[k]? = w.heap[k]?

theorem Turned.refl (b : Nat) (w : World) : Turned b w w := ⟨rfl, rfl, rfl, rfl, fun _ _ => rfl⟩
theorem Turned.set {b : Nat} {w w' : World} (h : Turned b w w') (i : Nat) (v : Value) : Turned b w (w'.setCell ⟨b, i, none⟩ v) :=
  ⟨h.os, h.tape, h.output, by rw [World.size_setCell]; exact h.size, fun k hk => (Below.heap_setCell w' ⟨b, i, none⟩ v k hk).trans (h.rest k hk)⟩
theorem Turned.below {b lo : Nat} {w w' : World} (h : Turned b w w') (hb : lo ≤ b) : Below lo w w' :=
  ⟨h.os, h.tape, h.output, Nat.le_of_eq h.size.symm, fun k hk => h.rest k (by omega)⟩
theorem Turned.ints {b : Nat} {w w' : World} (h : Turned b w w') {a : Option Addr} {zs : List Int} (hI : Ints w a zs) (hne : ∀ x, a = some x → x.block ≠ b) : Ints w' a zs := by
  rcases hI with e | ⟨c, off, rfl, hc, hcell⟩
  · exact .inl e
  · exact .inr ⟨c, off, rfl, by rw [h.size]; exact hc, fun i hi => (World.cell?_of_block (w := w) (a := ⟨c, off + i, none⟩) (h.rest c (hne _ rfl))).trans (hcell i hi)⟩
theorem Turned.owns {b lo : Nat} {w w' : World} (h : Turned b w w') {a : Option Addr} {l : List Int} (hI : Owns w lo a l) (hne : b < lo) : Owns w' lo a l := by
  rcases hI with e | ⟨c, rfl, hlo, hc, hcell⟩
  · exact .inl e
  · refine .inr ⟨c, rfl, hlo, by rw [h.size]; exact hc, fun i hi => ⟨?_, ?_⟩⟩
    · exact (World.cell?_of_block (w := w) (a := ⟨c, i, none⟩) (h.rest c (by omega))).trans (hcell i hi).1
    · exact (World.frozen?_of_block (w := w) (a := ⟨c, i, none⟩) (h.rest c (by omega))).trans (hcell i hi).2
theorem Owns.kept {w w' : World} {lo : Nat} {a : Option Addr} {l : List Int} (h : Owns w lo a l) (hb : Below w.heap.size w w') : Owns w' lo a l := by
  rcases h with e | ⟨c, rfl, hlo, hc, hcell⟩
  · exact .inl e
  · exact .inr ⟨c, rfl, hlo, Nat.lt_of_lt_of_le hc hb.size, fun i hi => ⟨(hb.cell (p := ⟨c, i, none⟩) hc).trans (hcell i hi).1, (hb.frozen (p := ⟨c, i, none⟩) hc).trans (hcell i hi).2⟩⟩

theorem Own.step {w : World} {b n k : Nat} {f g : Nat → Int} (h : Own w b n f) (hk : k < n) (hg : g k = (k : Int) + 1) (hf : ∀ i, i < n → i ≠ k → g i = f i) :
    Own (w.setCell ⟨b, k, none⟩ (.int .i64 ((k : Int) + 1))) b n g := by
  refine ⟨by rw [World.size_setCell]; exact h.1, fun i hi => ⟨?_, ?_⟩⟩
  · by_cases e : i = k
    · subst e; rw [World.cell?_setCell_same _ _ _ (h.2 i hi).1, hg]
    · rw [World.cell?_setCell_other _ _ _ _ (fun q => e (congrArg Addr.off q).symm), (h.2 i hi).1, hf i hi e]
  · rw [World.frozen?_setCell]; exact (h.2 i hi).2

def mix (f : Nat → Int) (k i : Nat) : Int := if i < k then (i : Int) + 1 else f i
theorem mix_lt (f : Nat → Int) {k i : Nat} (h : i < k) : mix f k i = (i : Int) + 1 := if_pos h
theorem mix_ge (f : Nat → Int) {k i : Nat} (h : ¬ i < k) : mix f k i = f i := if_neg h

set_option maxHeartbeats 400000 in
theorem mark_own (b n c : Nat) (f : Nat → Int) (w : World) (h : Own w b n f) (hn : n ≤ 2000000) :
    Calls Tryd.prog 40 #[.slice (some ⟨b, 0, none⟩) n c, .int .i64 1] w fun e w' => e = .returned (.int .i64 ((n : Int) + 1)) ∧ Own w' b n (fun i => (i : Int) + 1) ∧ Turned b w w' := by
  have HO : Hid (Own w b n f) := h
  clear h
  go_enter Tryd.func40, Tryd.ntmps40
  go_wp2_with fail
  go_loopw [1, 5] (fun x i wr => ∃ k : Nat, k ≤ n ∧ i = .int .i64 k ∧ x = .int .i64 ((k : Int) + 1) ∧ Own wr b n (mix f k) ∧ Turned b w wr) (fun _ i _ => n - (intOf i).toNat)
  case atStart => exact ⟨0, Nat.zero_le _, rfl, rfl, ⟨HO.out.1, fun i hi => by rw [mix_ge f (by omega)]; exact HO.out.2 i hi⟩, Turned.refl _ _⟩
  case round =>
    obtain ⟨k, hk, rfl, rfl, hO, hT⟩ := hrel
    by_cases hlt : k < n
    · have hS := hO.step (k := k) (g := mix f (k + 1)) hlt (mix_lt f (by omega)) (fun i _ hne => by
        by_cases e : i < k
        · rw [mix_lt f e, mix_lt f (by omega)]
        · rw [mix_ge f e, mix_ge f (by omega)])
      have hTS := hT.set k (.int .i64 ((k : Int) + 1))
      obtain ⟨hcell, hfr⟩ := hO.2 k hlt
      have hki : (k : Int) < (n : Int) := by omega
      rw [mix_ge f (Nat.lt_irrefl k)] at hcell
      have H1 : Hid (Own _ b n _) := hS
      have H2 : Hid (Turned b w _) := hTS
      clear hO hT hS hTS HO
      generalize f k = fk at hcell
      go_wp2_with fail
      go_roundw
      case rel => exact ⟨k + 1, by omega, by go_num, by go_num, H1.out, H2.out⟩
      case measure => simp [intOf]; omega
    · have hk' : k = n := by omega
      subst hk'
      have H1 : Hid (Own _ b k (fun i => (i : Int) + 1)) := ⟨hO.1, fun i hi => by have := hO.2 i hi; rw [mix_lt f hi] at this; exact this⟩
      clear hO
      go_wp2_with fail
      go_ret
      exact ⟨rfl, H1.out, hT⟩

set_option maxHeartbeats 400000 in
theorem mark_nil (a : Option Addr) (c : Nat) (w : World) :
    Calls Tryd.prog 40 #[.slice a 0 c, .int .i64 1] w fun e w' => e = .returned (.int .i64 1) ∧ w' = w := by
  go_enter Tryd.func40, Tryd.ntmps40
  go_wp2_with fail
  go_loop [1, 5] (fun x i => i = .int .i64 0 ∧ x = .int .i64 1) (fun _ _ => 0)
  case atStart => exact ⟨rfl, rfl⟩
  case round =>
    obtain ⟨rfl, rfl⟩ := hrel
    go_wp2_with fail
    go_ret
    exact ⟨rfl, rfl⟩
end Go.Proofs.YtgfknlnpnnjkoaaDoor
