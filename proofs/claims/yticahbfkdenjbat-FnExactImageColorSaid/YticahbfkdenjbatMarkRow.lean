/- A list that an answer owns: marks laid into it and found. -/
import Derived.Test.YticahbfkdenjbatMarkWalks
import Derived.Below
namespace Go.Proofs.Yticahbfkdenjbat
open Go.RowKit

def marks (M : Nat) : List Int := (List.range M).map fun i : Nat => (i : Int) + 1
theorem marks_len (M : Nat) : (marks M).length = M := by simp [marks]

theorem own_of {w : World} {b M : Nat} {l : List Int} (hM : l.length = M) (hb : b < w.heap.size) (hc : ∀ i (h : i < l.length), w.cell? ⟨b, i, none⟩ = some (.int .i64 l[i]) ∧ w.frozen? ⟨b, i, none⟩ = false) : Own w b M (fun i => l.getD i 0) := by
  refine ⟨hb, fun i hi => ?_⟩
  have h := hc i (by omega)
  have e : l.getD i 0 = l[i]'(by omega) := by rw [List.getD_eq_getElem?_getD, List.getElem?_eq_getElem (by omega)]; rfl
  show w.cell? ⟨b, i, none⟩ = some (.int .i64 (l.getD i 0)) ∧ _
  rw [e]
  exact h
theorem owns_marks {w : World} {lo b M : Nat} (h : Own w b M (fun i => (i : Int) + 1)) (hlo : lo ≤ b) : Owns w lo (some ⟨b, 0, none⟩) (marks M) := by
  refine .inr ⟨b, rfl, hlo, h.1, fun i hi => ?_⟩
  rw [marks_len] at hi
  have := h.2 i hi
  rw [show (marks M)[i]'(by rw [marks_len]; exact hi) = (i : Int) + 1 from by simp [marks]]
  exact this

theorem mark_g (x : Option Addr) (M c : Nat) (l : List Int) (lo : Nat) (w : World) (h : Owns w lo x l) (hM : l.length = M) (hn : M ≤ 2000000) (hlo : lo ≤ w.heap.size) :
    Calls Try.prog 38 #[.slice x M c, .int .i64 1] w fun e w' => e = .returned (.int .i64 ((M : Int) + 1)) ∧ Owns w' lo x (marks M) ∧ Below lo w w' := by
  rcases h with e | ⟨b, rfl, hb, hbs, hc⟩
  · rw [e] at hM
    have h0 : M = 0 := by rw [← hM]; rfl
    subst h0
    refine (mark_nil x c w).mono ?_
    rintro e w' ⟨rfl, rfl⟩
    exact ⟨rfl, .inl rfl, Below.refl _ _⟩
  · refine (mark_own b M c _ w (own_of hM hbs hc) hn).mono ?_
    rintro e w' ⟨rfl, hO, hT⟩
    exact ⟨rfl, owns_marks hO hb, hT.below hb⟩

theorem held_g (x : Option Addr) (M c : Nat) (lo : Nat) (w : World) (h : Owns w lo x (marks M)) (hn : M ≤ 2000000) :
    Calls Try.prog 39 #[.slice x M c, .int .i64 1] w fun e w' => e = .returned (.int .i64 ((M : Int) + 1)) ∧ w' = w := by
  rcases h with e | ⟨b, rfl, hb, hbs, hc⟩
  · have h0 : M = 0 := by rw [← marks_len M, e]; rfl
    subst h0
    exact held_nil x c w
  · refine held_own b M c w ⟨hbs, fun i hi => ?_⟩ hn
    have := hc i (by rw [marks_len]; exact hi)
    rw [show (marks M)[i]'(by rw [marks_len]; exact hi) = (i : Int) + 1 from by simp [marks]] at this
    exact this

/-- a list that lay below stays -/
theorem Ints.low {w0 w w' : World} {lo : Nat} {a : Option Addr} {l : List Int} (h0 : Ints w0 a l) (h : Ints w a l) (hb : Below lo w w') (hlo : w0.heap.size ≤ lo) : Ints w' a l := by
  rcases h0 with e | ⟨b, off, rfl, hb0, _⟩
  · exact .inl e
  · rcases h with e | ⟨c, off', e, hc, hcell⟩
    · exact .inl e
    · cases e
      exact .inr ⟨b, off, rfl, Nat.lt_of_lt_of_le hc hb.size, fun i hi => (hb.cell (p := ⟨b, off + i, none⟩) (show b < lo by omega)).trans (hcell i hi)⟩

/-- a list that lay elsewhere stays -/
theorem Ints.aside {w0 w w' : World} {L : Nat} {a : Option Addr} {l : List Int} (h0 : Ints w0 a l) (h : Ints w a l) (hT : Turned L w w') (hlo : w0.heap.size ≤ L) : Ints w' a l := by
  rcases h0 with e | ⟨b, off, rfl, hb0, _⟩
  · exact .inl e
  · exact hT.ints h (fun x e => by cases e; show ¬ b = L; omega)

set_option maxHeartbeats 400000 in
theorem toInts_exact (a : Option Addr) (n cap : Nat) (zs : List Int) (w : World) (h : Ints w a zs) (hn : zs.length = n) (hl : n ≤ 2000000) :
    Calls Try.prog 44 #[.slice a n cap] w fun e w' => e = .returned (.slice (some ⟨w.heap.size, 0, none⟩) n n) ∧ w' = w.alloc (.cells (cp zs n) 3) := by
  have hmk := fun w => make_ints zs n hn hl w
  have HI : Hid (Ints w a zs) := h
  clear h
  have hzg : n ≤ zs.length := by omega
  clear hn
  go_enter Try.func44, Try.ntmps44
  go_wp2_with fail
  go_loopw [4] (fun i wr => ∃ k : Nat, k ≤ n ∧ i = .int .i64 k ∧ wr = w.alloc (.cells (cp zs k) 3)) (fun i _ => n - (intOf i).toNat)
  case atStart => exact ⟨0, Nat.zero_le _, rfl, rfl⟩
  case round =>
    obtain ⟨k, hk, rfl, rfl⟩ := hrel
    clear hmk
    by_cases hlt : k < n
    · have hkz : k < zs.length := by omega
      have HT : Hid ((cp zs k).setIfInBounds k (.int .i64 zs[k]) = cp zs (k + 1)) := cp_set zs k hkz
      have hg : (cp zs k)[k]? = some (.int .i64 0) := by rw [cp_get _ _ _ hkz]; simp
      rcases HI.out with h | ⟨b, off, rfl, hbB, hc⟩
      · rw [h] at hkz; simp at hkz
      · have hck := (World.cell?_alloc_past (.cells (cp zs k) 3) b (off + k) hbB).trans (hc k hkz)
        have hki : (k : Int) < (n : Int) := by omega
        clear hc
        generalize cp zs k = A at *
        generalize zs[k] = x at *
        go_wp2_with fail
        go_roundw
        case rel => exact ⟨k + 1, by omega, by go_num, by rw [HT.out]⟩
        case measure => simp [intOf]; omega
    · have hk' : k = n := by omega
      subst hk'
      go_wp2_with fail
      go_ret
      exact ⟨rfl, rfl⟩

theorem own_cp (w : World) (zs : List Int) (n : Nat) (hn : zs.length = n) : Own (w.alloc (.cells (cp zs n) 3)) w.heap.size n (fun i => zs.getD i 0) := by
  refine ⟨by simp, fun i hi => ⟨?_, ?_⟩⟩
  · rw [World.cell?_alloc_at _ _ _ _ rfl, cp_get _ _ _ (by omega), if_pos hi]
  · rw [World.frozen?_alloc_at _ _ _ _ rfl]

theorem Own.kept {w w' : World} {b n : Nat} {f : Nat → Int} (h : Own w b n f) (hb : Below w.heap.size w w') : Own w' b n f :=
  ⟨Nat.lt_of_lt_of_le h.1 hb.size, fun i hi => ⟨(hb.cell (p := ⟨b, i, none⟩) h.1).trans (h.2 i hi).1, (hb.frozen (p := ⟨b, i, none⟩) h.1).trans (h.2 i hi).2⟩⟩

theorem drewN_below (w : World) (m : Nat) : Below w.heap.size w (w.drewN m) := below_drewN (Below.refl _ _) _
end Go.Proofs.Yticahbfkdenjbat
