/- The small methods of LZW's ways, and the width of a number, of both. -/
import Derived.Test.YtjfihmpnbblomaaLzMath
import Derived.Test.YtjfihmpnbblomaaPowWalks
import Derived.Test.YtjfihmpnbblomaaInWalks
import Derived.Test.YtjfihmpnbblomaaTxtOwn
import Derived.Deep.Cut
namespace Go.Proofs.Ytjfihmpnbblomaa
open Go.RowKit

def Lz.ok (b : Int) (wide : Bool) : Bool := if wide then b == 8 else (decide (2 ≤ b) && decide (b ≤ 8))
def wayV (b : Int) (wide : Bool) : Value := .agg #[.int .i64 b, .bool wide]

theorem shl_one (b : Nat) (hb : b ≤ 12) : IntKind.i64.wrap (2 ^ b) = ((2 ^ b : Nat) : Int) := by
  have h : (2 : Nat) ^ b ≤ 2 ^ 12 := Nat.pow_le_pow_right (by omega) hb
  have e : ((2 : Int) ^ b) = ((2 ^ b : Nat) : Int) := by simp
  rw [e]
  exact wrap_i64_nat _ (by have : (2:Nat) ^ 12 = 4096 := by decide
                           omega)

set_option maxHeartbeats 400000 in
theorem lzOk_any (b : Int) (wide : Bool) (w : World) : Calls Try.prog 36 #[.agg #[.int .i64 b, .bool wide]] w fun e w' => e = .returned (.bool (Lz.ok b wide)) ∧ Below w.heap.size w w' := by
  have hB0 : Below w.heap.size w (w.alloc (.cells #[.int .i64 b, .bool wide] 50)) := (Below.refl _ _).alloc (Nat.le_refl _) _
  cases wide with
  | true =>
    go_enter Try.func36, Try.ntmps36
    go_wp2_with fail
    go_ret
    exact ⟨rfl, hB0⟩
  | false =>
    by_cases h2 : 2 ≤ b
    · go_enter Try.func36, Try.ntmps36
      go_wp2_with fail
      go_ret
      exact ⟨by simp [Lz.ok, h2], hB0⟩
    · go_enter Try.func36, Try.ntmps36
      go_wp2_with fail
      go_ret
      exact ⟨by simp [Lz.ok]; omega, hB0⟩

set_option maxHeartbeats 400000 in
theorem lzClear_any (b : Nat) (hb : b ≤ 8) (wide : Bool) (w : World) : Calls Try.prog 57 #[.agg #[.int .i64 (b : Int), .bool wide]] w fun e w' => e = .returned (.int .i64 ((2 ^ b : Nat) : Int)) ∧ Below w.heap.size w w' := by
  have hB0 : Below w.heap.size w (w.alloc (.cells #[.int .i64 (b : Int), .bool wide] 50)) := (Below.refl _ _).alloc (Nat.le_refl _) _
  have e1 := shl_one b (by omega)
  obtain ⟨P, hP⟩ : ∃ P : Nat, P = 2 ^ b := ⟨_, rfl⟩
  rw [← hP] at e1 ⊢
  clear hP
  go_enter Try.func57, Try.ntmps57
  go_wp2_with fail
  go_ret
  exact ⟨by first | rfl | simp [e1], hB0⟩

set_option maxHeartbeats 400000 in
theorem lzEnd_any (b : Nat) (hb : b ≤ 8) (wide : Bool) (w : World) : Calls Try.prog 42 #[.agg #[.int .i64 (b : Int), .bool wide]] w fun e w' => e = .returned (.int .i64 ((2 ^ b + 1 : Nat) : Int)) ∧ Below w.heap.size w w' := by
  have hB0 : Below w.heap.size w (w.alloc (.cells #[.int .i64 (b : Int), .bool wide] 50)) := (Below.refl _ _).alloc (Nat.le_refl _) _
  have HC : Hid (∀ w', Calls Try.prog 57 #[.agg #[.int .i64 (b : Int), .bool wide]] w' fun e w'' => e = .returned (.int .i64 ((2 ^ b : Nat) : Int)) ∧ Below w'.heap.size w' w'') := fun w' => lzClear_any b hb wide w'
  have hp := Lz.pow_le hb
  generalize 2 ^ b = P at *
  go_enter Try.func42, Try.ntmps42
  go_wp2_with fail
  refine (HC.out _).mono ?_
  rintro e w1 ⟨rfl, b1⟩
  have bel1 := hB0.trans (b1.mono hB0.size)
  clear b1 hB0 HC
  go_wp2_with fail
  go_ret
  exact ⟨by go_num, bel1⟩

set_option maxHeartbeats 400000 in
theorem lzFirst_any (b : Nat) (hb : b ≤ 8) (wide : Bool) (w : World) : Calls Try.prog 58 #[.agg #[.int .i64 (b : Int), .bool wide]] w fun e w' => e = .returned (.int .i64 ((2 ^ b + 2 : Nat) : Int)) ∧ Below w.heap.size w w' := by
  have hB0 : Below w.heap.size w (w.alloc (.cells #[.int .i64 (b : Int), .bool wide] 50)) := (Below.refl _ _).alloc (Nat.le_refl _) _
  have hp := Lz.pow_le hb
  obtain ⟨P, hP⟩ : ∃ P : Nat, P = 2 ^ b + 1 := ⟨_, rfl⟩
  have HC : Hid (∀ w', Calls Try.prog 42 #[.agg #[.int .i64 (b : Int), .bool wide]] w' fun e w'' => e = .returned (.int .i64 (P : Int)) ∧ Below w'.heap.size w' w'') := fun w' => by rw [hP]; exact lzEnd_any b hb wide w'
  rw [show 2 ^ b + 2 = P + 1 by omega]
  have hPb : P ≤ 257 := by omega
  clear hP hp
  go_enter Try.func58, Try.ntmps58
  go_wp2_with fail
  refine (HC.out _).mono ?_
  rintro e w1 ⟨rfl, b1⟩
  have bel1 := hB0.trans (b1.mono hB0.size)
  clear b1 hB0 HC
  go_wp2_with fail
  go_ret
  exact ⟨by go_num, bel1⟩

set_option maxHeartbeats 1000000 in
theorem lzWidth_any (b m : Nat) (hb : b ≤ 8) (hm : m ≤ 5000) (wide : Bool) (w : World) : Calls Try.prog 59 #[.agg #[.int .i64 (b : Int), .bool wide], .int .i64 (m : Int)] w fun e w' => e = .returned (.int .i64 ((Lz.width b wide m : Nat) : Int)) ∧ Below w.heap.size w w' := by
  have hB0 : Below w.heap.size w (w.alloc (.cells #[.int .i64 (b : Int), .bool wide] 50)) := (Below.refl _ _).alloc (Nat.le_refl _) _
  obtain ⟨R, hR⟩ : ∃ R : Nat, R = Lz.width b wide m := ⟨_, rfl⟩
  rw [← hR]
  obtain ⟨k, hk⟩ : ∃ k : Nat, k = Lz.known wide m := ⟨_, rfl⟩
  have hkb : k ≤ 5001 := by rw [hk]; unfold Lz.known; split <;> omega
  have HG : Hid (Lz.grow k 12 (b + 1) = R) := by show _ = _; rw [hR, hk]; rfl
  have HK : Hid (k = Lz.known wide m) := hk
  clear hR hk
  go_enter Try.func59, Try.ntmps59
  go_upto_if 7 with fail
  go_cut [1, 7] from 8 (fun x _ wc => x = .int .i64 (k : Int) ∧ wc = w.alloc (.cells #[.int .i64 (b : Int), .bool wide] 50))
  case first =>
    cases wide with
    | true =>
      have e := HK.out
      rw [show Lz.known true m = m + 1 from rfl] at e
      subst e
      go_wp2_with fail
      go_meet
      case rel => exact ⟨by go_num, rfl⟩
    | false =>
      have e := HK.out
      rw [show Lz.known false m = m from rfl] at e
      subst e
      go_wp2_with fail
      go_meet
      case rel => exact ⟨rfl, rfl⟩
  obtain ⟨rfl, rfl⟩ := hcut
  clear HK
  go_wp2_with fail
  go_loop [5] (fun x => ∃ n f : Nat, n ≤ 12 ∧ 12 ≤ n + f ∧ x = .int .i64 (n : Int) ∧ Hid (Lz.grow k f n = R)) (fun x => 12 - (intOf x).toNat)
  case atStart => exact ⟨b + 1, 12, by omega, by omega, by go_num, HG.out⟩
  case round =>
    obtain ⟨n, f, hn, hf, rfl, HR⟩ := hrel
    clear HG
    have e1 := shl_one n hn
    by_cases h12 : n < 12
    · by_cases hp : 2 ^ n ≤ k
      · obtain ⟨f', rfl⟩ : ∃ f', f = f' + 1 := ⟨f - 1, by omega⟩
        have HR' : Hid (Lz.grow k f' (n + 1) = R) := by show _ = _; rw [← Lz.grow_go ⟨h12, hp⟩]; exact HR.out
        generalize 2 ^ n = P at *
        clear HR
        go_wp2_with fail
        go_roundw
        case rel => exact ⟨n + 1, f', by omega, by omega, by go_num, HR'⟩
        case measure => simp [intOf]; omega
      · have e : n = R := by rw [← HR.out, Lz.grow_stop (by omega)]
        subst e
        generalize 2 ^ n = P at *
        clear HR
        go_wp2_with fail
        go_ret
        exact ⟨rfl, hB0⟩
    · have e : n = R := by rw [← HR.out, Lz.grow_stop (by omega)]
      subst e
      clear HR
      go_wp2_with fail
      go_ret
      exact ⟨rfl, hB0⟩

set_option maxHeartbeats 1000000 in
theorem l6Width_any (b m : Nat) (hb : b ≤ 8) (hm : m ≤ 5000) (wide : Bool) (w : World) : Calls Try.prog 74 #[.int .i64 (m : Int), .int .i64 (b : Int), .bool wide] w fun e w' => e = .returned (.int .i64 ((Lz.width b wide m : Nat) : Int)) ∧ w' = w := by
  obtain ⟨R, hR⟩ : ∃ R : Nat, R = Lz.width b wide m := ⟨_, rfl⟩
  rw [← hR]
  obtain ⟨k, hk⟩ : ∃ k : Nat, k = Lz.known wide m := ⟨_, rfl⟩
  have hkb : k ≤ 5001 := by rw [hk]; unfold Lz.known; split <;> omega
  have HG : Hid (Lz.grow k 12 (b + 1) = R) := by show _ = _; rw [hR, hk]; rfl
  have HK : Hid (k = Lz.known wide m) := hk
  clear hR hk
  go_enter Try.func74, Try.ntmps74
  go_upto_if 10 with fail
  go_cut [0, 10] from 11 (fun x _ wc => x = .int .i64 (k : Int) ∧ wc = w)
  case first =>
    cases wide with
    | true =>
      have e := HK.out
      rw [show Lz.known true m = m + 1 from rfl] at e
      subst e
      go_wp2_with fail
      go_meet
      case rel => exact ⟨by go_num, rfl⟩
    | false =>
      have e := HK.out
      rw [show Lz.known false m = m from rfl] at e
      subst e
      go_wp2_with fail
      go_meet
      case rel => exact ⟨rfl, rfl⟩
  obtain ⟨rfl, rfl⟩ := hcut
  clear HK
  go_wp2_with fail
  go_loop [7] (fun x => ∃ n f : Nat, n ≤ 12 ∧ 12 ≤ n + f ∧ x = .int .i64 (n : Int) ∧ Hid (Lz.grow k f n = R)) (fun x => 12 - (intOf x).toNat)
  case atStart => exact ⟨b + 1, 12, by omega, by omega, by go_num, HG.out⟩
  case round =>
    obtain ⟨n, f, hn, hf, rfl, HR⟩ := hrel
    clear HG
    by_cases h12 : n < 12
    · have HPW : Hid (∀ w', Calls Try.prog 35 #[.int .i64 (n : Int)] w' fun e w'' => e = .returned (.int .i64 ((2 ^ n : Nat) : Int)) ∧ w'' = w') := fun w' => l1Pow_any n w' (by omega)
      by_cases hp : 2 ^ n ≤ k
      · obtain ⟨f', rfl⟩ : ∃ f', f = f' + 1 := ⟨f - 1, by omega⟩
        have HR' : Hid (Lz.grow k f' (n + 1) = R) := by show _ = _; rw [← Lz.grow_go ⟨h12, hp⟩]; exact HR.out
        generalize 2 ^ n = P at *
        clear HR
        go_wp2_with fail
        refine (HPW.out _).mono ?_
        rintro e w1 ⟨rfl, hw1⟩
        replace hw1 := hw1.symm
        subst hw1
        go_wp2_with fail
        go_roundw
        case rel => exact ⟨n + 1, f', by omega, by omega, by go_num, HR'⟩
        case measure => simp [intOf]; omega
      · have e : n = R := by rw [← HR.out, Lz.grow_stop (by omega)]
        subst e
        generalize 2 ^ n = P at *
        clear HR
        go_wp2_with fail
        refine (HPW.out _).mono ?_
        rintro e w1 ⟨rfl, hw1⟩
        replace hw1 := hw1.symm
        subst hw1
        go_wp2_with fail
        go_ret
        exact ⟨rfl, rfl⟩
    · have e : n = R := by rw [← HR.out, Lz.grow_stop (by omega)]
      subst e
      clear HR
      go_wp2_with fail
      go_ret
      exact ⟨rfl, rfl⟩
end Go.Proofs.Ytjfihmpnbblomaa
