/- Filters of the specification: which rows can be turned. -/
import Derived.Test.YtjikjjganloobabFlSpec
import Derived.MapKept
import Derived.Laws.StructEq
namespace Go.Proofs.Ytjikjjganloobab
open Go.RowKit

/-- rows can be turned -/
def FlOk (kind : Int) (n m : Nat) (step : Int) : Prop := (0 ≤ kind ∧ kind ≤ 4) ∧ (1 ≤ step ∧ step ≤ 4) ∧ n ≤ 1000 ∧ (m = 0 ∨ m = n)

theorem text_empty {t : ByteArray} (h : t.size = 0) : t = ⟨#[]⟩ := by
  cases t with | mk a => exact congrArg ByteArray.mk (Array.eq_empty_of_size_eq_zero h)

theorem text_ne {t : ByteArray} (h : ¬ t = ⟨#[]⟩) : t.toList.isEmpty = false := by
  rw [Bool.eq_false_iff]
  intro e
  refine h ((Go.MapKept.bytes_beq _ _).1 ?_)
  rw [beq_toListBytes, List.isEmpty_iff.1 e, ByteArray.toList_eq]
  rfl

set_option maxHeartbeats 1000000 in
theorem l9Filters_yes (kind : Int) (s t : ByteArray) (step : Int) (w : World) (h : FlOk kind s.size t.size step) :
    Calls Try.prog 34 #[.int .i64 kind, .string s, .string t, .int .i64 step] w fun e w' => e = .returned (.bool true) ∧ w' = w := by
  obtain ⟨hk, hst, hn, hm⟩ := h
  have HK : Hid (∀ w : World, Calls Try.prog 36 #[.int .i64 kind, .int .i64 0, .int .i64 4] w fun e w' => e = .returned (.bool true) ∧ w' = w) := fun w => l1In_yes _ _ _ w hk.1 hk.2
  have HS : Hid (∀ w : World, Calls Try.prog 36 #[.int .i64 step, .int .i64 1, .int .i64 4] w fun e w' => e = .returned (.bool true) ∧ w' = w) := fun w => l1In_yes _ _ _ w hst.1 hst.2
  have hnd : decide ((s.size : Int) ≤ 1000) = true := by simp; omega
  by_cases ht : t.size = 0
  · have ht' := text_empty ht
    subst ht'
    clear hk hst hm ht
    go_enter Try.func34, Try.ntmps34
    go_wp2_with fail
    refine (HK.out _).mono ?_
    rintro e w1 ⟨rfl, hw⟩; subst hw
    go_wp2_with fail
    refine (HS.out _).mono ?_
    rintro e w1 ⟨rfl, hw⟩; subst hw
    go_wp2_with fail
    go_ret
    exact ⟨rfl, rfl⟩
  · have hte := text_ne (t := t) (by intro e; subst e; exact ht rfl)
    have hne : ¬ t = (⟨#[]⟩ : ByteArray) := by intro e; subst e; exact ht rfl
    have hsz : (t.size : Int) = (s.size : Int) := by omega
    have hsb : ((t.size : Int) == (s.size : Int)) = true := by rw [hsz]; simp
    clear hk hst hm ht
    go_enter Try.func34, Try.ntmps34
    go_wp2_with fail
    refine (HK.out _).mono ?_
    rintro e w1 ⟨rfl, hw⟩; subst hw
    go_wp2_with fail
    refine (HS.out _).mono ?_
    rintro e w1 ⟨rfl, hw⟩; subst hw
    go_wp2_with fail
    go_ret
    exact ⟨rfl, rfl⟩

set_option maxHeartbeats 1000000 in
theorem l9Filters_no (kind : Int) (s t : ByteArray) (step : Int) (w : World) (_hs : s.size ≤ 1048576) (_ht : t.size ≤ 1048576) (h : ¬ FlOk kind s.size t.size step) :
    Calls Try.prog 34 #[.int .i64 kind, .string s, .string t, .int .i64 step] w fun e w' => e = .returned (.bool false) ∧ w' = w := by
  by_cases hk : 0 ≤ kind ∧ kind ≤ 4
  · have HK : Hid (∀ w : World, Calls Try.prog 36 #[.int .i64 kind, .int .i64 0, .int .i64 4] w fun e w' => e = .returned (.bool true) ∧ w' = w) := fun w => l1In_yes _ _ _ w hk.1 hk.2
    by_cases hst : 1 ≤ step ∧ step ≤ 4
    · have HS : Hid (∀ w : World, Calls Try.prog 36 #[.int .i64 step, .int .i64 1, .int .i64 4] w fun e w' => e = .returned (.bool true) ∧ w' = w) := fun w => l1In_yes _ _ _ w hst.1 hst.2
      by_cases hn : s.size ≤ 1000
      · have hnd : decide ((s.size : Int) ≤ 1000) = true := by simp; omega
        have ht : ¬ (t.size = 0 ∨ t.size = s.size) := fun g => h ⟨hk, hst, hn, g⟩
        have hte := text_ne (t := t) (by intro e; subst e; exact ht (.inl rfl))
        have hne : ¬ t = (⟨#[]⟩ : ByteArray) := by intro e; subst e; exact ht (.inl rfl)
        have hsz : ¬ (t.size : Int) = (s.size : Int) := by omega
        have hsb : ((t.size : Int) == (s.size : Int)) = false := by rw [beq_eq_false_iff_ne]; exact hsz
        clear h ht hk hst
        go_enter Try.func34, Try.ntmps34
        go_wp2_with fail
        refine (HK.out _).mono ?_
        rintro e w1 ⟨rfl, hw⟩; subst hw
        go_wp2_with fail
        refine (HS.out _).mono ?_
        rintro e w1 ⟨rfl, hw⟩; subst hw
        go_wp2_with fail
        go_ret
        exact ⟨rfl, rfl⟩
      · have hnd : decide ((s.size : Int) ≤ 1000) = false := by simp; omega
        clear h hk hst
        go_enter Try.func34, Try.ntmps34
        go_wp2_with fail
        refine (HK.out _).mono ?_
        rintro e w1 ⟨rfl, hw⟩; subst hw
        go_wp2_with fail
        refine (HS.out _).mono ?_
        rintro e w1 ⟨rfl, hw⟩; subst hw
        go_wp2_with fail
        go_ret
        exact ⟨rfl, rfl⟩
    · have HS : Hid (∀ w : World, Calls Try.prog 36 #[.int .i64 step, .int .i64 1, .int .i64 4] w fun e w' => e = .returned (.bool false) ∧ w' = w) := fun w => l1In_no _ _ _ w hst
      clear h hk hst
      go_enter Try.func34, Try.ntmps34
      go_wp2_with fail
      refine (HK.out _).mono ?_
      rintro e w1 ⟨rfl, hw⟩; subst hw
      go_wp2_with fail
      refine (HS.out _).mono ?_
      rintro e w1 ⟨rfl, hw⟩; subst hw
      go_wp2_with fail
      go_ret
      exact ⟨rfl, rfl⟩
  · have HK : Hid (∀ w : World, Calls Try.prog 36 #[.int .i64 kind, .int .i64 0, .int .i64 4] w fun e w' => e = .returned (.bool false) ∧ w' = w) := fun w => l1In_no _ _ _ w hk
    clear h hk
    go_enter Try.func34, Try.ntmps34
    go_wp2_with fail
    refine (HK.out _).mono ?_
    rintro e w1 ⟨rfl, hw⟩; subst hw
    go_wp2_with fail
    go_ret
    exact ⟨rfl, rfl⟩
end Go.Proofs.Ytjikjjganloobab
