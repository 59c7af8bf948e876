/- Filters of the program: which there is, and whether rows can be turned. -/
import Derived.Test.YtjikjjganloobabFlGuess
import Derived.Test.YtjikjjganloobabFlSpecOk
namespace Go.Proofs.Ytjikjjganloobab
open Go.RowKit

/-- the filter of a kind -/
def filV : Nat → Value
  | 0 => .iface 108 (.agg #[])
  | 1 => .iface 109 (.agg #[])
  | 2 => .iface 110 (.agg #[])
  | 3 => .iface 111 (.agg #[])
  | _ => .iface 112 (.agg #[])

def filA : Value := .agg #[filV 0, filV 1, filV 2, filV 3, filV 4]

theorem filA_at0 (w : World) : Sem.run Try.prog (Instr.index 113 (.agg #[.iface 108 (.agg #[]), .iface 109 (.agg #[]), .iface 110 (.agg #[]), .iface 111 (.agg #[]), .iface 112 (.agg #[])]) (.int .i64 0)) w = .ok (filV 0) w := by kernel_rfl
theorem filA_at1 (w : World) : Sem.run Try.prog (Instr.index 113 (.agg #[.iface 108 (.agg #[]), .iface 109 (.agg #[]), .iface 110 (.agg #[]), .iface 111 (.agg #[]), .iface 112 (.agg #[])]) (.int .i64 1)) w = .ok (filV 1) w := by kernel_rfl
theorem filA_at2 (w : World) : Sem.run Try.prog (Instr.index 113 (.agg #[.iface 108 (.agg #[]), .iface 109 (.agg #[]), .iface 110 (.agg #[]), .iface 111 (.agg #[]), .iface 112 (.agg #[])]) (.int .i64 2)) w = .ok (filV 2) w := by kernel_rfl
theorem filA_at3 (w : World) : Sem.run Try.prog (Instr.index 113 (.agg #[.iface 108 (.agg #[]), .iface 109 (.agg #[]), .iface 110 (.agg #[]), .iface 111 (.agg #[]), .iface 112 (.agg #[])]) (.int .i64 3)) w = .ok (filV 3) w := by kernel_rfl
theorem filA_at4 (w : World) : Sem.run Try.prog (Instr.index 113 (.agg #[.iface 108 (.agg #[]), .iface 109 (.agg #[]), .iface 110 (.agg #[]), .iface 111 (.agg #[]), .iface 112 (.agg #[])]) (.int .i64 4)) w = .ok (filV 4) w := by kernel_rfl

set_option maxHeartbeats 1000000 in
theorem filterOf_any (K : Nat) (w : World) (hK : K ≤ 4) :
    Calls Try.prog 65 #[.int .i64 K] w fun e w' => e = .returned (filV K) ∧ w' = w := by
  have h5 : K = 0 ∨ K = 1 ∨ K = 2 ∨ K = 3 ∨ K = 4 := by omega
  rcases h5 with rfl | rfl | rfl | rfl | rfl
  · have hx := fun w => filA_at0 w
    go_enter Try.func65, Try.ntmps65
    go_wp2_with fail
    go_ret
    exact ⟨rfl, rfl⟩
  · have hx := fun w => filA_at1 w
    go_enter Try.func65, Try.ntmps65
    go_wp2_with fail
    go_ret
    exact ⟨rfl, rfl⟩
  · have hx := fun w => filA_at2 w
    go_enter Try.func65, Try.ntmps65
    go_wp2_with fail
    go_ret
    exact ⟨rfl, rfl⟩
  · have hx := fun w => filA_at3 w
    go_enter Try.func65, Try.ntmps65
    go_wp2_with fail
    go_ret
    exact ⟨rfl, rfl⟩
  · have hx := fun w => filA_at4 w
    go_enter Try.func65, Try.ntmps65
    go_wp2_with fail
    go_ret
    exact ⟨rfl, rfl⟩

set_option maxHeartbeats 400000 in
theorem filterOk_yes (k : Int) (w : World) (h : 0 ≤ k ∧ k ≤ 4) :
    Calls Try.prog 64 #[.int .i64 k] w fun e w' => e = .returned (.bool true) ∧ w' = w := by
  have d1 : decide (0 ≤ k) = true := by simpa using h.1
  have d2 : decide (k ≤ 4) = true := by simpa using h.2
  clear h
  go_enter Try.func64, Try.ntmps64
  go_wp2_with fail
  go_ret
  exact ⟨rfl, rfl⟩

set_option maxHeartbeats 400000 in
theorem filterOk_no (k : Int) (w : World) (h : ¬ (0 ≤ k ∧ k ≤ 4)) :
    Calls Try.prog 64 #[.int .i64 k] w fun e w' => e = .returned (.bool false) ∧ w' = w := by
  by_cases h1 : 0 ≤ k
  · have d1 : decide (0 ≤ k) = true := by simpa using h1
    have d2 : decide (k ≤ 4) = false := by simp; omega
    clear h
    go_enter Try.func64, Try.ntmps64
    go_wp2_with fail
    go_ret
    exact ⟨rfl, rfl⟩
  · have d1 : decide (0 ≤ k) = false := by simpa using h1
    clear h
    go_enter Try.func64, Try.ntmps64
    go_wp2_with fail
    go_ret
    exact ⟨rfl, rfl⟩

set_option maxHeartbeats 1000000 in
theorem filterAt_yes (K st : Nat) (s t : ByteArray) (w : World) (h : FlOk (K : Int) s.size t.size (st : Int)) :
    Calls Try.prog 32 #[.int .i64 K, .string s, .string t, .int .i64 st] w fun e w' => e = .returned (.tuple #[.agg #[filV K, .string t, .int .i64 st], .bool true]) ∧ Below w.heap.size w w' := by
  obtain ⟨hk, hst, hn, hm⟩ := h
  have HK : Hid (∀ w : World, Calls Try.prog 64 #[.int .i64 (K : Int)] w fun e w' => e = .returned (.bool true) ∧ w' = w) := fun w => filterOk_yes _ w hk
  have HF : Hid (∀ w : World, Calls Try.prog 65 #[.int .i64 (K : Int)] w fun e w' => e = .returned (filV K) ∧ w' = w) := fun w => filterOf_any K w (by omega)
  have hone : (filV K).oneCell' = true := by
    have h5 : K = 0 ∨ K = 1 ∨ K = 2 ∨ K = 3 ∨ K = 4 := by omega
    rcases h5 with rfl | rfl | rfl | rfl | rfl <;> rfl
  have d1 : decide ((st : Int) < 1) = false := by simp; omega
  have d2 : decide ((4 : Int) < (st : Int)) = false := by simp; omega
  have d3 : decide ((1000 : Int) < (s.size : Int)) = false := by simp; omega
  have hV : ∃ T, filV K = .iface T (.agg #[]) := by
    have h5 : K = 0 ∨ K = 1 ∨ K = 2 ∨ K = 3 ∨ K = 4 := by omega
    rcases h5 with rfl | rfl | rfl | rfl | rfl <;> exact ⟨_, rfl⟩
  obtain ⟨T, hT⟩ := hV
  rw [hT] at HF ⊢
  by_cases ht : (t.size : Int) = 0
  · have ht2 : ((t.size : Int) == 0) = true := by rw [ht]; rfl
    clear hk hst hm hone
    go_enter Try.func32, Try.ntmps32
    go_wp2_with fail
    refine (HK.out _).mono ?_
    rintro e w1 ⟨rfl, hw⟩; subst hw
    go_wp2_with fail
    refine (HF.out _).mono ?_
    rintro e w1 ⟨rfl, hw⟩; subst hw
    go_wp2_with fail
    exact bodyPost_ret (v := .tuple #[.agg #[.iface T (.agg #[]), .string t, .int .i64 st], .bool true]) (by simp [results, Try.results32, go_sem]) rfl ⟨rfl, (Below.refl _ _).alloc (Nat.le_refl _) _⟩
  · have ht2 : ((t.size : Int) == 0) = false := by rw [beq_eq_false_iff_ne]; exact ht
    have hsz : (t.size : Int) = (s.size : Int) := by omega
    have hsb : ((t.size : Int) == (s.size : Int)) = true := by rw [hsz]; simp
    have htE : ¬ t = ByteArray.empty := fun e => ht (by rw [e]; rfl)
    have hsE : ¬ s = ByteArray.empty := fun e => ht (by rw [hsz, e]; rfl)
    clear hk hst hm hone
    go_enter Try.func32, Try.ntmps32
    go_wp2_with fail
    refine (HK.out _).mono ?_
    rintro e w1 ⟨rfl, hw⟩; subst hw
    go_wp2_with fail
    refine (HF.out _).mono ?_
    rintro e w1 ⟨rfl, hw⟩; subst hw
    go_wp2_with fail
    exact bodyPost_ret (v := .tuple #[.agg #[.iface T (.agg #[]), .string t, .int .i64 st], .bool true]) (by simp [results, Try.results32, go_sem]) rfl ⟨rfl, (Below.refl _ _).alloc (Nat.le_refl _) _⟩
set_option maxHeartbeats 2000000 in
theorem filterAt_no (kind : Int) (s t : ByteArray) (step : Int) (w : World) (hs : s.size ≤ 1048576) (_ht : t.size ≤ 1048576) (h : ¬ FlOk kind s.size t.size step) :
    Calls Try.prog 32 #[.int .i64 kind, .string s, .string t, .int .i64 step] w fun e w' => e = .returned (.tuple #[.agg #[.nilIface, .string ⟨#[]⟩, .int .i64 0], .bool false]) ∧ Below w.heap.size w w' := by
  by_cases hk : 0 ≤ kind ∧ kind ≤ 4
  · have HK : Hid (∀ w : World, Calls Try.prog 64 #[.int .i64 kind] w fun e w' => e = .returned (.bool true) ∧ w' = w) := fun w => filterOk_yes _ w hk
    by_cases h1 : step < 1
    · have d1 : decide (step < 1) = true := by simpa using h1
      clear h hk
      go_enter Try.func32, Try.ntmps32
      go_wp2_with fail
      refine (HK.out _).mono ?_
      rintro e w1 ⟨rfl, hw⟩; subst hw
      go_wp2_with fail
      exact bodyPost_ret (v := .tuple #[.agg #[.nilIface, .string ⟨#[]⟩, .int .i64 0], .bool false]) (by simp [results, Try.results32, go_sem]) rfl ⟨rfl, (Below.refl _ _).alloc (Nat.le_refl _) _⟩
    · have d1 : decide (step < 1) = false := by simpa using h1
      by_cases h2 : 4 < step
      · have d2 : decide (4 < step) = true := by simpa using h2
        clear h hk
        go_enter Try.func32, Try.ntmps32
        go_wp2_with fail
        refine (HK.out _).mono ?_
        rintro e w1 ⟨rfl, hw⟩; subst hw
        go_wp2_with fail
        exact bodyPost_ret (v := .tuple #[.agg #[.nilIface, .string ⟨#[]⟩, .int .i64 0], .bool false]) (by simp [results, Try.results32, go_sem]) rfl ⟨rfl, (Below.refl _ _).alloc (Nat.le_refl _) _⟩
      · have d2 : decide (4 < step) = false := by simpa using h2
        by_cases h3 : 1000 < s.size
        · have d3 : decide ((1000 : Int) < (s.size : Int)) = true := by simp; omega
          clear h hk
          go_enter Try.func32, Try.ntmps32
          go_wp2_with fail
          refine (HK.out _).mono ?_
          rintro e w1 ⟨rfl, hw⟩; subst hw
          go_wp2_with fail
          exact bodyPost_ret (v := .tuple #[.agg #[.nilIface, .string ⟨#[]⟩, .int .i64 0], .bool false]) (by simp [results, Try.results32, go_sem]) rfl ⟨rfl, (Below.refl _ _).alloc (Nat.le_refl _) _⟩
        · have d3 : decide ((1000 : Int) < (s.size : Int)) = false := by simp; omega
          have hm : ¬ (t.size = 0 ∨ t.size = s.size) := fun g => h ⟨hk, ⟨by omega, by omega⟩, by omega, g⟩
          have ht0 : ¬ (t.size : Int) = 0 := by omega
          have ht2 : ((t.size : Int) == 0) = false := by rw [beq_eq_false_iff_ne]; exact ht0
          have hsz : ¬ (t.size : Int) = (s.size : Int) := by omega
          have hsb : ((t.size : Int) == (s.size : Int)) = false := by rw [beq_eq_false_iff_ne]; exact hsz
          have htE : ¬ t = ByteArray.empty := fun e => ht0 (by rw [e]; rfl)
          have hb0 : ((t.size : Int) != 0) = true := by simp only [bne, ht2]; rfl
          have hb1 : ((t.size : Int) != (s.size : Int)) = true := by simp only [bne, hsb]; rfl
          clear h hk hm
          go_enter Try.func32, Try.ntmps32
          go_wp2_with fail
          refine (HK.out _).mono ?_
          rintro e w1 ⟨rfl, hw⟩; subst hw
          go_wp2_with fail
          exact bodyPost_ret (v := .tuple #[.agg #[.nilIface, .string ⟨#[]⟩, .int .i64 0], .bool false]) (by simp [results, Try.results32, go_sem]) rfl ⟨rfl, (Below.refl _ _).alloc (Nat.le_refl _) _⟩
  · have HK : Hid (∀ w : World, Calls Try.prog 64 #[.int .i64 kind] w fun e w' => e = .returned (.bool false) ∧ w' = w) := fun w => filterOk_no _ w hk
    clear h hk
    go_enter Try.func32, Try.ntmps32
    go_wp2_with fail
    refine (HK.out _).mono ?_
    rintro e w1 ⟨rfl, hw⟩; subst hw
    go_wp2_with fail
    exact bodyPost_ret (v := .tuple #[.agg #[.nilIface, .string ⟨#[]⟩, .int .i64 0], .bool false]) (by simp [results, Try.results32, go_sem]) rfl ⟨rfl, (Below.refl _ _).alloc (Nat.le_refl _) _⟩
end Go.Proofs.Ytjikjjganloobab
