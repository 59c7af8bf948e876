/- Fewer tokens make what more of them begin with (mathematics). -/
import Derived.Test.YtmfnepibhhhdcaaToMath
namespace Go.Proofs.Ytmfnepibhhhdcaa
namespace To

theorem again_prefix (l : List UInt8) (d : Nat) : ∀ k, l <+: again l d k
  | 0 => List.prefix_refl l
  | k + 1 => (again_prefix l d k).trans (List.prefix_append _ _)
theorem step_prefix {p : Tk} {l r : List UInt8} (h : step p l = some r) : l <+: r := by
  unfold step at h
  split at h
  · split at h
    · split at h
      · cases h; exact List.prefix_append _ _
      · cases h
    · split at h
      · cases h; exact again_prefix _ _ _
      · cases h
  · cases h
theorem step_short {p : Tk} {q r : List UInt8} (h : step p q = some r) (hq : q.length ≤ 5000) : r.length ≤ 5000 := by
  unfold step at h
  split at h
  · split at h
    · split at h
      · cases h; simp; omega
      · cases h
    · split at h
      · cases h; rw [again_len]; omega
      · cases h
  · cases h
theorem get_prefix : ∀ (ts : List Tk) (l r : List UInt8), get ts l = some r → l <+: r
  | [], l, r, h => by cases h; exact List.prefix_refl _
  | p :: ts, l, r, h => by
    rcases hs : step p l with _ | q
    · rw [get, hs] at h; cases h
    · rw [get, hs] at h
      exact (step_prefix hs).trans (get_prefix ts q r h)
theorem get_short : ∀ (ts : List Tk) (l r : List UInt8), l.length ≤ 5000 → get ts l = some r → r.length ≤ 5000
  | [], l, r, hl, h => by cases h; exact hl
  | p :: ts, l, r, hl, h => by
    rcases hs : step p l with _ | q
    · rw [get, hs] at h; cases h
    · rw [get, hs] at h
      exact get_short ts q r (step_short hs hl) h
/-- the first so many make the beginning -/
theorem get_less : ∀ (ts : List Tk) (k : Nat) (l r : List UInt8), get ts l = some r → ∃ m, get (ts.take k) l = some m ∧ m <+: r
  | ts, 0, l, r, h => ⟨l, by rw [List.take_zero]; rfl, get_prefix ts l r h⟩
  | [], k + 1, l, r, h => by cases h; exact ⟨l, rfl, List.prefix_refl _⟩
  | p :: ts, k + 1, l, r, h => by
    rcases hs : step p l with _ | q
    · rw [get, hs] at h; cases h
    · rw [get, hs] at h
      obtain ⟨m, h1, h2⟩ := get_less ts k q r h
      exact ⟨m, by rw [List.take_succ_cons, get, hs]; exact h1, h2⟩
theorem ans_some {ts : List Tk} {r : List UInt8} (h : get ts [] = some r) : ansL ts = r ∧ ansB ts = true := ⟨by unfold ansL; rw [h]; rfl, by unfold ansB; rw [h]; rfl⟩
theorem ans_none {ts : List Tk} (h : get ts [] = none) : ansL ts = [] ∧ ansB ts = false := ⟨by unfold ansL; rw [h]; rfl, by unfold ansB; rw [h]; rfl⟩
theorem extract_prefix {m r : List UInt8} (h : m <+: r) : (⟨r.toArray⟩ : ByteArray).extract 0 m.length = ⟨m.toArray⟩ := by
  obtain ⟨x, rfl⟩ := h
  apply ByteArray.ext
  apply Array.toList_inj.1
  rw [ByteArray.data_extract, Array.toList_extract]
  simp [List.extract]
end To
end Go.Proofs.Ytmfnepibhhhdcaa
