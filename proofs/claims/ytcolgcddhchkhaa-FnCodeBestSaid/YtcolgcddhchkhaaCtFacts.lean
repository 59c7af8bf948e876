/- What the lengths that are fitted are like (mathematics, and both sides' CodeFit told once more). -/
import Derived.Test.YtcolgcddhchkhaaCtKraft
import Derived.Test.YtcolgcddhchkhaaCtSFit2
import Derived.Test.YtcolgcddhchkhaaExCodeFull
import Derived.Test.YtcolgcddhchkhaaCfFit
namespace Go.Proofs.Ytcolgcddhchkhaa
open Go.RowKit

def lens (n : Nat) (f : Nat → Nat) : List Int := (List.range n).map (fun i => ((f i : Nat) : Int))
theorem lens_len (n : Nat) (f : Nat → Nat) : (lens n f).length = n := by unfold lens; simp
theorem lens_get {n : Nat} {f : Nat → Nat} {i : Nat} (h : i < n) : (lens n f).getD i 0 = (f i : Int) := by
  unfold lens
  rw [List.getD_eq_getElem?_getD, List.getElem?_map, List.getElem?_range h]; rfl
theorem fitB_parts {l : List Int} {m : Int} (h : fitB l m = true) : l.length ≤ 300 ∧ 1 ≤ m ∧ m ≤ 15 ∧ (∀ i, i < l.length → 0 ≤ l.getD i 0 ∧ l.getD i 0 ≤ 9000) ∧ Ct.come l ≤ 2 ^ m.toNat ∧ oftenB l = true := by
  unfold fitB at h
  simp only [Bool.and_eq_true, decide_eq_true_eq] at h
  exact ⟨h.1, h.2.1, h.2.2.1, often_all h.2.2.2.1, h.2.2.2.2, h.2.2.2.1⟩
theorem fitB_15 {l : List Int} {m : Int} (h : fitB l m = true) : fitB l 15 = true := by
  obtain ⟨h1, h2, h3, h4, h5, h6⟩ := fitB_parts h
  unfold fitB
  rw [h6]
  have h7 : 2 ^ m.toNat ≤ 2 ^ 15 := Nat.pow_le_pow_right (by omega) (by omega)
  have h8 : Ct.come l ≤ 2 ^ (15 : Int).toNat := Nat.le_trans h5 h7
  simp [h1]
  exact h8
/-- the lengths at the end are those of a code, and leave nothing over -/
theorem fits_ok {l : List Int} {m : Int} (h : fitB l m = true) {f : Nat → Nat} (hf : Ct.Fits m.toNat l f) :
    Cd.okB (lens l.length f) = true ∧ (2 ≤ Ct.come l → fullB (lens l.length f) = true) ∧ (∀ i, i < l.length → (f i = 0 ↔ ¬ 0 < l.getD i 0) ∧ (f i : Int) ≤ m) := by
  obtain ⟨h1, h2, h3, h4, h5, h6⟩ := fitB_parts h
  obtain ⟨w, hm⟩ := hf.whole (by omega) h4
  have ht : Cd.taken (lens l.length f) ≤ 32768 := by
    unfold lens
    rw [Ct.taken_sg]
    by_cases c : 2 ≤ Ct.come l
    · rw [w.full c]; omega
    · exact w.one (by omega)
  have hv : Cd.valid (lens l.length f) = true := by
    unfold Cd.valid lens
    rw [List.all_eq_true]
    intro z hz
    obtain ⟨i, hi, rfl⟩ := List.mem_map.1 hz
    have := hm i (List.mem_range.1 hi)
    unfold Cd.okLen
    simp
    omega
  have hok : Cd.okB (lens l.length f) = true := by
    unfold Cd.okB
    rw [lens_len, hv]
    simp [h1, ht]
  refine ⟨hok, fun c => ?_, fun i hi => ⟨w.some i hi, by have := hm i hi; omega⟩⟩
  unfold fullB
  rw [hok, left_of_ok hok]
  have e : Cd.taken (lens l.length f) = 32768 := by
    unfold lens
    rw [Ct.taken_sg]
    exact w.full c
  rw [e]
  rfl
theorem room_of {l : List Int} {m : Int} (h : fitB l m = true) : roomB l = true := by
  obtain ⟨h1, _, _, h4, _⟩ := fitB_parts h
  unfold roomB
  rw [Bool.and_eq_true, List.all_eq_true]
  refine ⟨fun z hz => ?_, by simpa using h1⟩
  obtain ⟨i, hi, rfl⟩ := List.mem_iff_getElem.1 hz
  have := h4 i hi
  rw [List.getD_eq_getElem?_getD, List.getElem?_eq_getElem hi] at this
  simpa using this
/-- where no length is too great none is halved -/
theorem fits_free {l : List Int} {f : Nat → Nat} (hd : Cf.deep l ≤ 15) (hf : Ct.Fits 15 l f) : Ct.IsLens l f := by
  cases hf with
  | stop h1 _ => exact h1
  | more h1 h2 _ =>
    obtain ⟨i, _, hi⟩ := h2
    have := h1.deep i
    omega
def FitIs (l : List Int) (n : Nat) (m : Int) (w : World) (e : Ending) (w' : World) : Prop :=
  ((fitB l m = false ∧ ∃ x c, e = .returned (.slice x 0 c)) ∨ (fitB l m = true ∧ ∃ x c f, e = .returned (.slice x n c) ∧ Ints w' x (lens n f) ∧ Ct.Fits m.toNat l f)) ∧ Below w.heap.size w w'
theorem impl_fitIs (a : Option Addr) (n c : Nat) (l : List Int) (m : Int) (w : World) (h : Ints w a l) (hn : l.length = n) (hb : n ≤ 1048576) : Calls Try.prog 10 #[.slice a n c, .int .i64 m] w (FitIs l n m w) := by
  refine (impl_codeFit a n c l m w h hn hb).mono ?_
  rintro e w' ⟨⟨hf, x, c', rfl⟩ | ⟨hf, b, f, rfl, hbl, hO, hF⟩, hbel⟩
  · exact ⟨.inl ⟨hf, x, c', rfl⟩, hbel⟩
  · refine ⟨.inr ⟨hf, _, _, f, by rw [hn], ?_, hF⟩, hbel⟩
    rw [← hn]
    exact own_ints2 hO
theorem spec_fitIs (a : Option Addr) (n c : Nat) (l : List Int) (m : Int) (w : World) (h : Ints w a l) (hn : l.length = n) (hb : n ≤ 1048576) : Calls Try.prog 12 #[.slice a n c, .int .i64 m] w (FitIs l n m w) := by
  refine (spec_codeFit a n c l m w h hn hb).mono ?_
  rintro e w' ⟨⟨hf, x, c', rfl⟩ | ⟨hf, x, c', f, rfl, hI, hF⟩, hbel⟩
  · exact ⟨.inl ⟨hf, x, c', rfl⟩, hbel⟩
  · refine ⟨.inr ⟨hf, x, c', f, by rw [hn], ?_, hF⟩, hbel⟩
    rw [← hn]
    exact hI
end Go.Proofs.Ytcolgcddhchkhaa
