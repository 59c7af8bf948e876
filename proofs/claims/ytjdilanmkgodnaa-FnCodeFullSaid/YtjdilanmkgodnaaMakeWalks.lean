/- The numbers of a code, as the specification and the program make them. -/
import Derived.Test.YtjdilanmkgodnaaCodeWalks
import Derived.Test.YtjdilanmkgodnaaMakeMath
import Derived.Test.YtjdilanmkgodnaaOwnRow
namespace Go.Proofs.Ytjdilanmkgodnaa
open Go.RowKit

theorem make_arr (zs : List Int) (n : Nat) (hn : zs.length = n) (hl : n ≤ 2000000) (w : World) :
    (Instr.makeSlice 23 (.int .i64 (n : Int)) (.int .i64 (n : Int))).run Try.prog w = .ok (.slice (some ⟨w.heap.size, 0, none⟩) n n) (w.alloc (.cells (arr (Mk.outer zs 0).2) 3)) := by
  rw [make_ints zs n hn hl w, cp_arr]; rfl

set_option maxHeartbeats 1000000 in
theorem l3Make_any (a : Option Addr) (cap n : Nat) (zs : List Int) (w : World) (h : Ints w a zs) (hn : zs.length = n) (hl : n ≤ 300) :
    Calls Try.prog 33 #[.slice a n cap] w fun e w' => e = .returned (.slice (some ⟨w.heap.size, 0, none⟩) n n) ∧ w' = w.alloc (.cells (arr (Mk.mk zs)) 3) := by
  have hmk := fun w => make_arr zs n hn (by omega) w
  have HI : Hid (Ints w a zs) := h
  have HN : Hid (zs.length = n) := hn
  have HB : Hid (∀ m, m ≤ 15 → (Mk.outer zs m).1 ≤ 9830400) := Mk.outer_bound zs (by omega)
  have hzg : n ≤ zs.length := by omega
  clear h hn
  go_enter Try.func33, Try.ntmps33
  go_wp2_with fail
  go_loopw [4, 5] (fun x i wr => ∃ m y : Nat, m ≤ 15 ∧ i = .int .i64 ((m : Int) + 1) ∧ y = (Mk.outer zs m).1 ∧ x = .int .i64 (y : Int) ∧ wr = w.alloc (.cells (arr (Mk.outer zs m).2) 3)) (fun _ i _ => 16 - (intOf i).toNat)
  case atStart => exact ⟨0, 0, by omega, rfl, rfl, rfl, rfl⟩
  case round =>
    obtain ⟨m, y, hm, rfl, hy, rfl, rfl⟩ := hrel
    clear hmk
    by_cases hlt : m < 15
    · have hyb : y ≤ 9830400 := by rw [hy]; exact HB.out m hm
      have HO : Hid (Mk.outer zs (m + 1) = Mk.inner zs ((m + 1 : Nat) : Int) zs.length (2 * (Mk.outer zs m).1, (Mk.outer zs m).2)) := rfl
      rw [← hy] at HO
      have hol := Mk.outer_len zs m
      clear hy
      generalize (Mk.outer zs m).2 = l0 at *
      go_wp2_with fail
      go_loopw [4, 6] (fun x i wr => ∃ (k z : Nat) (l : List Int), k ≤ n ∧ i = .int .i64 k ∧ (z, l) = Mk.inner zs ((m + 1 : Nat) : Int) k (2 * y, l0) ∧ x = .int .i64 (z : Int) ∧ wr = w.alloc (.cells (arr l) 3)) (fun _ i _ => n - (intOf i).toNat)
      case atStart => exact ⟨0, 2 * y, l0, Nat.zero_le _, rfl, rfl, by go_num, rfl⟩
      case round =>
        obtain ⟨k, z, l, hk, rfl, hzl, rfl, rfl⟩ := hrel
        have hin := Mk.inner_le zs ((m + 1 : Nat) : Int) (2 * y, l0) k
        have hil := Mk.inner_len zs ((m + 1 : Nat) : Int) (2 * y, l0) k
        rw [← hzl] at hin hil
        simp only at hin hil
        by_cases hltk : k < n
        · have hkz : k < zs.length := by omega
          have hkl : k < l.length := by omega
          rcases HI.out with h | ⟨b, off, rfl, hbB, hc⟩
          · rw [h] at hkz; simp at hkz
          · have hck := (World.cell?_alloc_past (.cells (arr l) 3) b (off + k) hbB).trans (hc k hkz)
            have hki : (k : Int) < (n : Int) := by omega
            have hgd : zs.getD k 0 = zs[k] := by rw [List.getD_eq_getElem?_getD, List.getElem?_eq_getElem hkz]; rfl
            have hhit := Mk.inner_hit zs ((m + 1 : Nat) : Int) k (2 * y, l0)
            have hmiss := Mk.inner_miss zs ((m + 1 : Nat) : Int) k (2 * y, l0)
            rw [hgd, ← hzl] at hhit hmiss
            have hset := arr_set l k (z : Int)
            have hgl := arr_get l k hkl
            clear hc hgd hol hil
            generalize zs[k] = q at *
            by_cases e : q = ((m + 1 : Nat) : Int)
            · have HT : Hid (Mk.inner zs ((m + 1 : Nat) : Int) (k + 1) (2 * y, l0) = (z + 1, l.set k (z : Int))) := hhit e
              have eb : (q == (m : Int) + 1) = true := by rw [beq_iff_eq, e]; omega
              have HS : Hid ((arr l).setIfInBounds k (.int .i64 (z : Int)) = arr (l.set k (z : Int))) := hset
              clear hhit hmiss e hzl hset
              generalize l[k] = lk at *
              generalize arr l = A at *
              go_wp2_with fail
              go_roundw
              case rel => exact ⟨k + 1, z + 1, l.set k (z : Int), by omega, by go_num, HT.out.symm, by go_num, by rw [HS.out]⟩
              case measure => simp [intOf]; omega
            · have HT : Hid (Mk.inner zs ((m + 1 : Nat) : Int) (k + 1) (2 * y, l0) = (z, l)) := hmiss e
              have eb : (q == (m : Int) + 1) = false := by rw [beq_eq_false_iff_ne]; intro g; apply e; rw [g]; omega
              clear hhit hmiss e hzl hset
              go_wp2_with fail
              go_roundw
              case rel => exact ⟨k + 1, z, l, by omega, by go_num, HT.out.symm, rfl, rfl⟩
              case measure => simp [intOf]; omega
        · have hk' : k = zs.length := by have := HN.out; omega
          rw [hk'] at hzl
          have HZ : Hid ((z, l) = Mk.outer zs (m + 1)) := by show _ = _; rw [HO.out, ← hzl]
          clear hzl hk' hol hil
          go_wp2_with fail
          go_roundw
          case rel => exact ⟨m + 1, z, by omega, by go_num, by rw [← HZ.out], rfl, by rw [← HZ.out]⟩
          case measure => simp [intOf]; omega
    · have hm' : m = 15 := by omega
      subst hm'
      clear hy
      go_wp2_with fail
      go_ret
      exact ⟨rfl, rfl⟩
set_option maxHeartbeats 1000000 in
theorem implMake_yes (a : Option Addr) (cap n : Nat) (zs : List Int) (w : World) (h : Ints w a zs) (hn : zs.length = n) (hl : n ≤ 300) (hok : Cd.okB zs = true) :
    Calls Try.prog 9 #[.slice a n cap] w fun e w' => e = .returned (.slice (some ⟨w.heap.size, 0, none⟩) n n) ∧ w' = w.alloc (.cells (arr (Mk.mk zs)) 3) := by
  have hmk := fun w => make_arr zs n hn (by omega) w
  have HI : Hid (Ints w a zs) := h
  have HN : Hid (zs.length = n) := hn
  have HB : Hid (∀ m, m ≤ 15 → (Mk.outer zs m).1 ≤ 9830400) := Mk.outer_bound zs (by omega)
  have hzg : n ≤ zs.length := by omega
  have HC : Hid (Calls Try.prog 12 #[.slice a n cap] w fun e w' => e = .returned (.bool true) ∧ w' = w) := by
    have := impl_codeOk a cap n zs w h hn (by omega); rw [hok] at this; exact this
  clear h hn hok
  go_enter Try.func9, Try.ntmps9
  go_wp2_with fail
  refine HC.out.mono ?_
  rintro e w0 ⟨rfl, hw0⟩
  subst hw0
  clear HC
  go_wp2_with fail
  go_loopw [4, 5] (fun x i wr => ∃ m y : Nat, m ≤ 15 ∧ i = .int .i64 ((m : Int) + 1) ∧ y = (Mk.outer zs m).1 ∧ x = .int .i64 (y : Int) ∧ wr = w0.alloc (.cells (arr (Mk.outer zs m).2) 3)) (fun _ i _ => 16 - (intOf i).toNat)
  case atStart => exact ⟨0, 0, by omega, rfl, rfl, rfl, rfl⟩
  case round =>
    obtain ⟨m, y, hm, rfl, hy, rfl, rfl⟩ := hrel
    clear hmk
    by_cases hlt : m < 15
    · have hyb : y ≤ 9830400 := by rw [hy]; exact HB.out m hm
      have HO : Hid (Mk.outer zs (m + 1) = Mk.inner zs ((m + 1 : Nat) : Int) zs.length (2 * (Mk.outer zs m).1, (Mk.outer zs m).2)) := rfl
      rw [← hy] at HO
      have hol := Mk.outer_len zs m
      clear hy
      generalize (Mk.outer zs m).2 = l0 at *
      go_wp2_with fail
      go_loopw [4, 21] (fun x i wr => ∃ (k z : Nat) (l : List Int), k ≤ n ∧ i = .int .i64 k ∧ (z, l) = Mk.inner zs ((m + 1 : Nat) : Int) k (2 * y, l0) ∧ x = .int .i64 (z : Int) ∧ wr = w0.alloc (.cells (arr l) 3)) (fun _ i _ => n - (intOf i).toNat)
      case atStart => exact ⟨0, 2 * y, l0, Nat.zero_le _, rfl, rfl, by go_num, rfl⟩
      case round =>
        obtain ⟨k, z, l, hk, rfl, hzl, rfl, rfl⟩ := hrel
        have hin := Mk.inner_le zs ((m + 1 : Nat) : Int) (2 * y, l0) k
        have hil := Mk.inner_len zs ((m + 1 : Nat) : Int) (2 * y, l0) k
        rw [← hzl] at hin hil
        simp only at hin hil
        by_cases hltk : k < n
        · have hkz : k < zs.length := by omega
          have hkl : k < l.length := by omega
          rcases HI.out with h | ⟨b, off, rfl, hbB, hc⟩
          · rw [h] at hkz; simp at hkz
          · have hck := (World.cell?_alloc_past (.cells (arr l) 3) b (off + k) hbB).trans (hc k hkz)
            have hki : (k : Int) < (n : Int) := by omega
            have hgd : zs.getD k 0 = zs[k] := by rw [List.getD_eq_getElem?_getD, List.getElem?_eq_getElem hkz]; rfl
            have hhit := Mk.inner_hit zs ((m + 1 : Nat) : Int) k (2 * y, l0)
            have hmiss := Mk.inner_miss zs ((m + 1 : Nat) : Int) k (2 * y, l0)
            rw [hgd, ← hzl] at hhit hmiss
            have hset := arr_set l k (z : Int)
            have hgl := arr_get l k hkl
            clear hc hgd hol hil
            generalize zs[k] = q at *
            by_cases e : q = ((m + 1 : Nat) : Int)
            · have HT : Hid (Mk.inner zs ((m + 1 : Nat) : Int) (k + 1) (2 * y, l0) = (z + 1, l.set k (z : Int))) := hhit e
              have eb : (q == (m : Int) + 1) = true := by rw [beq_iff_eq, e]; omega
              have HS : Hid ((arr l).setIfInBounds k (.int .i64 (z : Int)) = arr (l.set k (z : Int))) := hset
              clear hhit hmiss e hzl hset
              generalize l[k] = lk at *
              generalize arr l = A at *
              go_wp2_with fail
              go_roundw
              case rel => exact ⟨k + 1, z + 1, l.set k (z : Int), by omega, by go_num, HT.out.symm, by go_num, by rw [HS.out]⟩
              case measure => simp [intOf]; omega
            · have HT : Hid (Mk.inner zs ((m + 1 : Nat) : Int) (k + 1) (2 * y, l0) = (z, l)) := hmiss e
              have eb : (q == (m : Int) + 1) = false := by rw [beq_eq_false_iff_ne]; intro g; apply e; rw [g]; omega
              clear hhit hmiss e hzl hset
              go_wp2_with fail
              go_roundw
              case rel => exact ⟨k + 1, z, l, by omega, by go_num, HT.out.symm, rfl, rfl⟩
              case measure => simp [intOf]; omega
        · have hk' : k = zs.length := by have := HN.out; omega
          rw [hk'] at hzl
          have HZ : Hid ((z, l) = Mk.outer zs (m + 1)) := by show _ = _; rw [HO.out, ← hzl]
          clear hzl hk' hol hil
          go_wp2_with fail
          go_roundw
          case rel => exact ⟨m + 1, z, by omega, by go_num, by rw [← HZ.out], rfl, by rw [← HZ.out]⟩
          case measure => simp [intOf]; omega
    · have hm' : m = 15 := by omega
      subst hm'
      clear hy
      go_wp2_with fail
      go_ret
      exact ⟨rfl, rfl⟩

/-- the numbers of a code; nothing, if it is none -/
def mkB (zs : List Int) : List Int := if Cd.okB zs = true then Mk.mk zs else []
theorem mkB_yes {zs : List Int} (h : Cd.okB zs = true) : mkB zs = Mk.mk zs := by unfold mkB; rw [if_pos h]
theorem mkB_no {zs : List Int} (h : Cd.okB zs = false) : mkB zs = [] := by unfold mkB; rw [h]; rfl

theorem okB_len' {zs : List Int} (h : Cd.okB zs = true) : zs.length ≤ 300 := by
  unfold Cd.okB at h
  simp only [Bool.and_eq_true, decide_eq_true_eq] at h
  exact h.1

set_option maxHeartbeats 400000 in
theorem impl_codeMake (a : Option Addr) (cap n : Nat) (zs : List Int) (w : World) (h : Ints w a zs) (hn : zs.length = n) (hl : n ≤ 1048576) :
    Calls Try.prog 9 #[.slice a n cap] w fun e w' => (∃ x c, e = .returned (.slice x (mkB zs).length c) ∧ Owns w' w.heap.size x (mkB zs)) ∧ Below w.heap.size w w' := by
  cases hy : Cd.okB zs
  · have HC : Hid (Calls Try.prog 12 #[.slice a n cap] w fun e w' => e = .returned (.bool false) ∧ w' = w) := by
      have := impl_codeOk a cap n zs w h hn hl; rw [hy] at this; exact this
    rw [mkB_no hy]
    clear h hn hy
    go_enter Try.func9, Try.ntmps9
    go_wp2_with fail
    refine HC.out.mono ?_
    rintro e w0 ⟨rfl, hw0⟩
    subst hw0
    go_wp2_with fail
    go_ret
    exact ⟨⟨none, 0, rfl, .inl rfl⟩, Below.refl _ _⟩
  · have h3 := okB_len' hy
    rw [mkB_yes hy]
    refine (implMake_yes a cap n zs w h hn (by omega) hy).mono ?_
    rintro e w' ⟨rfl, rfl⟩
    exact ⟨⟨_, n, by rw [Mk.mk_len, hn], owns_arr w _⟩, (Below.refl _ _).alloc (Nat.le_refl _) _⟩
end Go.Proofs.Ytjdilanmkgodnaa
