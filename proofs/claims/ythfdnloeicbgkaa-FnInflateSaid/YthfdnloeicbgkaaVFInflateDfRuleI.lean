/- The least size and the least distance of a symbol, and how many further bits it has: number by number, on both sides. -/
import Derived.Test.YthfdnloeicbgkaaProg
import Derived.Test.YthfdnloeicbgkaaKFInflatex0
namespace Go.Proofs.Ythfdnloeicbgkaa
open Go.RowKit

set_option maxHeartbeats 4000000 in
theorem sizeRule_any (k : Nat) (hk : k < 29) (w : World) :
    Calls Try.prog 122 #[.int .i64 (k : Int)] w fun e w' => e = .returned (.tuple #[.int .i64 (((Df.szN k).1 : Nat) : Int), .int .i64 (((Df.szN k).2 : Nat) : Int)]) ∧ w' = w := by
  have hc : k = 0 ∨ k = 1 ∨ k = 2 ∨ k = 3 ∨ k = 4 ∨ k = 5 ∨ k = 6 ∨ k = 7 ∨ k = 8 ∨ k = 9 ∨ k = 10 ∨ k = 11 ∨ k = 12 ∨ k = 13 ∨ k = 14 ∨ k = 15 ∨ k = 16 ∨ k = 17 ∨ k = 18 ∨ k = 19 ∨ k = 20 ∨ k = 21 ∨ k = 22 ∨ k = 23 ∨ k = 24 ∨ k = 25 ∨ k = 26 ∨ k = 27 ∨ k = 28 := by omega
  rcases hc with rfl | rfl | rfl | rfl | rfl | rfl | rfl | rfl | rfl | rfl | rfl | rfl | rfl | rfl | rfl | rfl | rfl | rfl | rfl | rfl | rfl | rfl | rfl | rfl | rfl | rfl | rfl | rfl | rfl
  · show Calls Try.prog 122 #[.int .i64 0] w fun e w' => e = .returned (.tuple #[.int .i64 3, .int .i64 0]) ∧ w' = w
    clear hk
    go_enter Try.func122, Try.ntmps122
    go_wp2_with fail
    exact bodyPost_ret (v := .tuple #[.int .i64 3, .int .i64 0]) (by simp [results, Try.results122, go_sem]) rfl ⟨rfl, rfl⟩
  · show Calls Try.prog 122 #[.int .i64 1] w fun e w' => e = .returned (.tuple #[.int .i64 4, .int .i64 0]) ∧ w' = w
    clear hk
    go_enter Try.func122, Try.ntmps122
    go_wp2_with fail
    exact bodyPost_ret (v := .tuple #[.int .i64 4, .int .i64 0]) (by simp [results, Try.results122, go_sem]) rfl ⟨rfl, rfl⟩
  · show Calls Try.prog 122 #[.int .i64 2] w fun e w' => e = .returned (.tuple #[.int .i64 5, .int .i64 0]) ∧ w' = w
    clear hk
    go_enter Try.func122, Try.ntmps122
    go_wp2_with fail
    exact bodyPost_ret (v := .tuple #[.int .i64 5, .int .i64 0]) (by simp [results, Try.results122, go_sem]) rfl ⟨rfl, rfl⟩
  · show Calls Try.prog 122 #[.int .i64 3] w fun e w' => e = .returned (.tuple #[.int .i64 6, .int .i64 0]) ∧ w' = w
    clear hk
    go_enter Try.func122, Try.ntmps122
    go_wp2_with fail
    exact bodyPost_ret (v := .tuple #[.int .i64 6, .int .i64 0]) (by simp [results, Try.results122, go_sem]) rfl ⟨rfl, rfl⟩
  · show Calls Try.prog 122 #[.int .i64 4] w fun e w' => e = .returned (.tuple #[.int .i64 7, .int .i64 0]) ∧ w' = w
    clear hk
    go_enter Try.func122, Try.ntmps122
    go_wp2_with fail
    exact bodyPost_ret (v := .tuple #[.int .i64 7, .int .i64 0]) (by simp [results, Try.results122, go_sem]) rfl ⟨rfl, rfl⟩
  · show Calls Try.prog 122 #[.int .i64 5] w fun e w' => e = .returned (.tuple #[.int .i64 8, .int .i64 0]) ∧ w' = w
    clear hk
    go_enter Try.func122, Try.ntmps122
    go_wp2_with fail
    exact bodyPost_ret (v := .tuple #[.int .i64 8, .int .i64 0]) (by simp [results, Try.results122, go_sem]) rfl ⟨rfl, rfl⟩
  · show Calls Try.prog 122 #[.int .i64 6] w fun e w' => e = .returned (.tuple #[.int .i64 9, .int .i64 0]) ∧ w' = w
    clear hk
    go_enter Try.func122, Try.ntmps122
    go_wp2_with fail
    exact bodyPost_ret (v := .tuple #[.int .i64 9, .int .i64 0]) (by simp [results, Try.results122, go_sem]) rfl ⟨rfl, rfl⟩
  · show Calls Try.prog 122 #[.int .i64 7] w fun e w' => e = .returned (.tuple #[.int .i64 10, .int .i64 0]) ∧ w' = w
    clear hk
    go_enter Try.func122, Try.ntmps122
    go_wp2_with fail
    exact bodyPost_ret (v := .tuple #[.int .i64 10, .int .i64 0]) (by simp [results, Try.results122, go_sem]) rfl ⟨rfl, rfl⟩
  · show Calls Try.prog 122 #[.int .i64 8] w fun e w' => e = .returned (.tuple #[.int .i64 11, .int .i64 1]) ∧ w' = w
    clear hk
    go_enter Try.func122, Try.ntmps122
    go_wp2_with fail
    exact bodyPost_ret (v := .tuple #[.int .i64 11, .int .i64 1]) (by simp [results, Try.results122, go_sem]) rfl ⟨rfl, rfl⟩
  · show Calls Try.prog 122 #[.int .i64 9] w fun e w' => e = .returned (.tuple #[.int .i64 13, .int .i64 1]) ∧ w' = w
    clear hk
    go_enter Try.func122, Try.ntmps122
    go_wp2_with fail
    exact bodyPost_ret (v := .tuple #[.int .i64 13, .int .i64 1]) (by simp [results, Try.results122, go_sem]) rfl ⟨rfl, rfl⟩
  · show Calls Try.prog 122 #[.int .i64 10] w fun e w' => e = .returned (.tuple #[.int .i64 15, .int .i64 1]) ∧ w' = w
    clear hk
    go_enter Try.func122, Try.ntmps122
    go_wp2_with fail
    exact bodyPost_ret (v := .tuple #[.int .i64 15, .int .i64 1]) (by simp [results, Try.results122, go_sem]) rfl ⟨rfl, rfl⟩
  · show Calls Try.prog 122 #[.int .i64 11] w fun e w' => e = .returned (.tuple #[.int .i64 17, .int .i64 1]) ∧ w' = w
    clear hk
    go_enter Try.func122, Try.ntmps122
    go_wp2_with fail
    exact bodyPost_ret (v := .tuple #[.int .i64 17, .int .i64 1]) (by simp [results, Try.results122, go_sem]) rfl ⟨rfl, rfl⟩
  · show Calls Try.prog 122 #[.int .i64 12] w fun e w' => e = .returned (.tuple #[.int .i64 19, .int .i64 2]) ∧ w' = w
    clear hk
    go_enter Try.func122, Try.ntmps122
    go_wp2_with fail
    exact bodyPost_ret (v := .tuple #[.int .i64 19, .int .i64 2]) (by simp [results, Try.results122, go_sem]) rfl ⟨rfl, rfl⟩
  · show Calls Try.prog 122 #[.int .i64 13] w fun e w' => e = .returned (.tuple #[.int .i64 23, .int .i64 2]) ∧ w' = w
    clear hk
    go_enter Try.func122, Try.ntmps122
    go_wp2_with fail
    exact bodyPost_ret (v := .tuple #[.int .i64 23, .int .i64 2]) (by simp [results, Try.results122, go_sem]) rfl ⟨rfl, rfl⟩
  · show Calls Try.prog 122 #[.int .i64 14] w fun e w' => e = .returned (.tuple #[.int .i64 27, .int .i64 2]) ∧ w' = w
    clear hk
    go_enter Try.func122, Try.ntmps122
    go_wp2_with fail
    exact bodyPost_ret (v := .tuple #[.int .i64 27, .int .i64 2]) (by simp [results, Try.results122, go_sem]) rfl ⟨rfl, rfl⟩
  · show Calls Try.prog 122 #[.int .i64 15] w fun e w' => e = .returned (.tuple #[.int .i64 31, .int .i64 2]) ∧ w' = w
    clear hk
    go_enter Try.func122, Try.ntmps122
    go_wp2_with fail
    exact bodyPost_ret (v := .tuple #[.int .i64 31, .int .i64 2]) (by simp [results, Try.results122, go_sem]) rfl ⟨rfl, rfl⟩
  · show Calls Try.prog 122 #[.int .i64 16] w fun e w' => e = .returned (.tuple #[.int .i64 35, .int .i64 3]) ∧ w' = w
    clear hk
    go_enter Try.func122, Try.ntmps122
    go_wp2_with fail
    exact bodyPost_ret (v := .tuple #[.int .i64 35, .int .i64 3]) (by simp [results, Try.results122, go_sem]) rfl ⟨rfl, rfl⟩
  · show Calls Try.prog 122 #[.int .i64 17] w fun e w' => e = .returned (.tuple #[.int .i64 43, .int .i64 3]) ∧ w' = w
    clear hk
    go_enter Try.func122, Try.ntmps122
    go_wp2_with fail
    exact bodyPost_ret (v := .tuple #[.int .i64 43, .int .i64 3]) (by simp [results, Try.results122, go_sem]) rfl ⟨rfl, rfl⟩
  · show Calls Try.prog 122 #[.int .i64 18] w fun e w' => e = .returned (.tuple #[.int .i64 51, .int .i64 3]) ∧ w' = w
    clear hk
    go_enter Try.func122, Try.ntmps122
    go_wp2_with fail
    exact bodyPost_ret (v := .tuple #[.int .i64 51, .int .i64 3]) (by simp [results, Try.results122, go_sem]) rfl ⟨rfl, rfl⟩
  · show Calls Try.prog 122 #[.int .i64 19] w fun e w' => e = .returned (.tuple #[.int .i64 59, .int .i64 3]) ∧ w' = w
    clear hk
    go_enter Try.func122, Try.ntmps122
    go_wp2_with fail
    exact bodyPost_ret (v := .tuple #[.int .i64 59, .int .i64 3]) (by simp [results, Try.results122, go_sem]) rfl ⟨rfl, rfl⟩
  · show Calls Try.prog 122 #[.int .i64 20] w fun e w' => e = .returned (.tuple #[.int .i64 67, .int .i64 4]) ∧ w' = w
    clear hk
    go_enter Try.func122, Try.ntmps122
    go_wp2_with fail
    exact bodyPost_ret (v := .tuple #[.int .i64 67, .int .i64 4]) (by simp [results, Try.results122, go_sem]) rfl ⟨rfl, rfl⟩
  · show Calls Try.prog 122 #[.int .i64 21] w fun e w' => e = .returned (.tuple #[.int .i64 83, .int .i64 4]) ∧ w' = w
    clear hk
    go_enter Try.func122, Try.ntmps122
    go_wp2_with fail
    exact bodyPost_ret (v := .tuple #[.int .i64 83, .int .i64 4]) (by simp [results, Try.results122, go_sem]) rfl ⟨rfl, rfl⟩
  · show Calls Try.prog 122 #[.int .i64 22] w fun e w' => e = .returned (.tuple #[.int .i64 99, .int .i64 4]) ∧ w' = w
    clear hk
    go_enter Try.func122, Try.ntmps122
    go_wp2_with fail
    exact bodyPost_ret (v := .tuple #[.int .i64 99, .int .i64 4]) (by simp [results, Try.results122, go_sem]) rfl ⟨rfl, rfl⟩
  · show Calls Try.prog 122 #[.int .i64 23] w fun e w' => e = .returned (.tuple #[.int .i64 115, .int .i64 4]) ∧ w' = w
    clear hk
    go_enter Try.func122, Try.ntmps122
    go_wp2_with fail
    exact bodyPost_ret (v := .tuple #[.int .i64 115, .int .i64 4]) (by simp [results, Try.results122, go_sem]) rfl ⟨rfl, rfl⟩
  · show Calls Try.prog 122 #[.int .i64 24] w fun e w' => e = .returned (.tuple #[.int .i64 131, .int .i64 5]) ∧ w' = w
    clear hk
    go_enter Try.func122, Try.ntmps122
    go_wp2_with fail
    exact bodyPost_ret (v := .tuple #[.int .i64 131, .int .i64 5]) (by simp [results, Try.results122, go_sem]) rfl ⟨rfl, rfl⟩
  · show Calls Try.prog 122 #[.int .i64 25] w fun e w' => e = .returned (.tuple #[.int .i64 163, .int .i64 5]) ∧ w' = w
    clear hk
    go_enter Try.func122, Try.ntmps122
    go_wp2_with fail
    exact bodyPost_ret (v := .tuple #[.int .i64 163, .int .i64 5]) (by simp [results, Try.results122, go_sem]) rfl ⟨rfl, rfl⟩
  · show Calls Try.prog 122 #[.int .i64 26] w fun e w' => e = .returned (.tuple #[.int .i64 195, .int .i64 5]) ∧ w' = w
    clear hk
    go_enter Try.func122, Try.ntmps122
    go_wp2_with fail
    exact bodyPost_ret (v := .tuple #[.int .i64 195, .int .i64 5]) (by simp [results, Try.results122, go_sem]) rfl ⟨rfl, rfl⟩
  · show Calls Try.prog 122 #[.int .i64 27] w fun e w' => e = .returned (.tuple #[.int .i64 227, .int .i64 5]) ∧ w' = w
    clear hk
    go_enter Try.func122, Try.ntmps122
    go_wp2_with fail
    exact bodyPost_ret (v := .tuple #[.int .i64 227, .int .i64 5]) (by simp [results, Try.results122, go_sem]) rfl ⟨rfl, rfl⟩
  · show Calls Try.prog 122 #[.int .i64 28] w fun e w' => e = .returned (.tuple #[.int .i64 258, .int .i64 0]) ∧ w' = w
    clear hk
    go_enter Try.func122, Try.ntmps122
    go_wp2_with fail
    exact bodyPost_ret (v := .tuple #[.int .i64 258, .int .i64 0]) (by simp [results, Try.results122, go_sem]) rfl ⟨rfl, rfl⟩

set_option maxHeartbeats 4000000 in
theorem distRule_any (k : Nat) (hk : k < 30) (w : World) :
    Calls Try.prog 123 #[.int .i64 (k : Int)] w fun e w' => e = .returned (.tuple #[.int .i64 (((Df.dsN k).1 : Nat) : Int), .int .i64 (((Df.dsN k).2 : Nat) : Int)]) ∧ w' = w := by
  have hc : k = 0 ∨ k = 1 ∨ k = 2 ∨ k = 3 ∨ k = 4 ∨ k = 5 ∨ k = 6 ∨ k = 7 ∨ k = 8 ∨ k = 9 ∨ k = 10 ∨ k = 11 ∨ k = 12 ∨ k = 13 ∨ k = 14 ∨ k = 15 ∨ k = 16 ∨ k = 17 ∨ k = 18 ∨ k = 19 ∨ k = 20 ∨ k = 21 ∨ k = 22 ∨ k = 23 ∨ k = 24 ∨ k = 25 ∨ k = 26 ∨ k = 27 ∨ k = 28 ∨ k = 29 := by omega
  rcases hc with rfl | rfl | rfl | rfl | rfl | rfl | rfl | rfl | rfl | rfl | rfl | rfl | rfl | rfl | rfl | rfl | rfl | rfl | rfl | rfl | rfl | rfl | rfl | rfl | rfl | rfl | rfl | rfl | rfl | rfl
  · show Calls Try.prog 123 #[.int .i64 0] w fun e w' => e = .returned (.tuple #[.int .i64 1, .int .i64 0]) ∧ w' = w
    clear hk
    go_enter Try.func123, Try.ntmps123
    go_wp2_with fail
    exact bodyPost_ret (v := .tuple #[.int .i64 1, .int .i64 0]) (by simp [results, Try.results123, go_sem]) rfl ⟨rfl, rfl⟩
  · show Calls Try.prog 123 #[.int .i64 1] w fun e w' => e = .returned (.tuple #[.int .i64 2, .int .i64 0]) ∧ w' = w
    clear hk
    go_enter Try.func123, Try.ntmps123
    go_wp2_with fail
    exact bodyPost_ret (v := .tuple #[.int .i64 2, .int .i64 0]) (by simp [results, Try.results123, go_sem]) rfl ⟨rfl, rfl⟩
  · show Calls Try.prog 123 #[.int .i64 2] w fun e w' => e = .returned (.tuple #[.int .i64 3, .int .i64 0]) ∧ w' = w
    clear hk
    go_enter Try.func123, Try.ntmps123
    go_wp2_with fail
    exact bodyPost_ret (v := .tuple #[.int .i64 3, .int .i64 0]) (by simp [results, Try.results123, go_sem]) rfl ⟨rfl, rfl⟩
  · show Calls Try.prog 123 #[.int .i64 3] w fun e w' => e = .returned (.tuple #[.int .i64 4, .int .i64 0]) ∧ w' = w
    clear hk
    go_enter Try.func123, Try.ntmps123
    go_wp2_with fail
    exact bodyPost_ret (v := .tuple #[.int .i64 4, .int .i64 0]) (by simp [results, Try.results123, go_sem]) rfl ⟨rfl, rfl⟩
  · show Calls Try.prog 123 #[.int .i64 4] w fun e w' => e = .returned (.tuple #[.int .i64 5, .int .i64 1]) ∧ w' = w
    clear hk
    go_enter Try.func123, Try.ntmps123
    go_wp2_with fail
    exact bodyPost_ret (v := .tuple #[.int .i64 5, .int .i64 1]) (by simp [results, Try.results123, go_sem]) rfl ⟨rfl, rfl⟩
  · show Calls Try.prog 123 #[.int .i64 5] w fun e w' => e = .returned (.tuple #[.int .i64 7, .int .i64 1]) ∧ w' = w
    clear hk
    go_enter Try.func123, Try.ntmps123
    go_wp2_with fail
    exact bodyPost_ret (v := .tuple #[.int .i64 7, .int .i64 1]) (by simp [results, Try.results123, go_sem]) rfl ⟨rfl, rfl⟩
  · show Calls Try.prog 123 #[.int .i64 6] w fun e w' => e = .returned (.tuple #[.int .i64 9, .int .i64 2]) ∧ w' = w
    clear hk
    go_enter Try.func123, Try.ntmps123
    go_wp2_with fail
    exact bodyPost_ret (v := .tuple #[.int .i64 9, .int .i64 2]) (by simp [results, Try.results123, go_sem]) rfl ⟨rfl, rfl⟩
  · show Calls Try.prog 123 #[.int .i64 7] w fun e w' => e = .returned (.tuple #[.int .i64 13, .int .i64 2]) ∧ w' = w
    clear hk
    go_enter Try.func123, Try.ntmps123
    go_wp2_with fail
    exact bodyPost_ret (v := .tuple #[.int .i64 13, .int .i64 2]) (by simp [results, Try.results123, go_sem]) rfl ⟨rfl, rfl⟩
  · show Calls Try.prog 123 #[.int .i64 8] w fun e w' => e = .returned (.tuple #[.int .i64 17, .int .i64 3]) ∧ w' = w
    clear hk
    go_enter Try.func123, Try.ntmps123
    go_wp2_with fail
    exact bodyPost_ret (v := .tuple #[.int .i64 17, .int .i64 3]) (by simp [results, Try.results123, go_sem]) rfl ⟨rfl, rfl⟩
  · show Calls Try.prog 123 #[.int .i64 9] w fun e w' => e = .returned (.tuple #[.int .i64 25, .int .i64 3]) ∧ w' = w
    clear hk
    go_enter Try.func123, Try.ntmps123
    go_wp2_with fail
    exact bodyPost_ret (v := .tuple #[.int .i64 25, .int .i64 3]) (by simp [results, Try.results123, go_sem]) rfl ⟨rfl, rfl⟩
  · show Calls Try.prog 123 #[.int .i64 10] w fun e w' => e = .returned (.tuple #[.int .i64 33, .int .i64 4]) ∧ w' = w
    clear hk
    go_enter Try.func123, Try.ntmps123
    go_wp2_with fail
    exact bodyPost_ret (v := .tuple #[.int .i64 33, .int .i64 4]) (by simp [results, Try.results123, go_sem]) rfl ⟨rfl, rfl⟩
  · show Calls Try.prog 123 #[.int .i64 11] w fun e w' => e = .returned (.tuple #[.int .i64 49, .int .i64 4]) ∧ w' = w
    clear hk
    go_enter Try.func123, Try.ntmps123
    go_wp2_with fail
    exact bodyPost_ret (v := .tuple #[.int .i64 49, .int .i64 4]) (by simp [results, Try.results123, go_sem]) rfl ⟨rfl, rfl⟩
  · show Calls Try.prog 123 #[.int .i64 12] w fun e w' => e = .returned (.tuple #[.int .i64 65, .int .i64 5]) ∧ w' = w
    clear hk
    go_enter Try.func123, Try.ntmps123
    go_wp2_with fail
    exact bodyPost_ret (v := .tuple #[.int .i64 65, .int .i64 5]) (by simp [results, Try.results123, go_sem]) rfl ⟨rfl, rfl⟩
  · show Calls Try.prog 123 #[.int .i64 13] w fun e w' => e = .returned (.tuple #[.int .i64 97, .int .i64 5]) ∧ w' = w
    clear hk
    go_enter Try.func123, Try.ntmps123
    go_wp2_with fail
    exact bodyPost_ret (v := .tuple #[.int .i64 97, .int .i64 5]) (by simp [results, Try.results123, go_sem]) rfl ⟨rfl, rfl⟩
  · show Calls Try.prog 123 #[.int .i64 14] w fun e w' => e = .returned (.tuple #[.int .i64 129, .int .i64 6]) ∧ w' = w
    clear hk
    go_enter Try.func123, Try.ntmps123
    go_wp2_with fail
    exact bodyPost_ret (v := .tuple #[.int .i64 129, .int .i64 6]) (by simp [results, Try.results123, go_sem]) rfl ⟨rfl, rfl⟩
  · show Calls Try.prog 123 #[.int .i64 15] w fun e w' => e = .returned (.tuple #[.int .i64 193, .int .i64 6]) ∧ w' = w
    clear hk
    go_enter Try.func123, Try.ntmps123
    go_wp2_with fail
    exact bodyPost_ret (v := .tuple #[.int .i64 193, .int .i64 6]) (by simp [results, Try.results123, go_sem]) rfl ⟨rfl, rfl⟩
  · show Calls Try.prog 123 #[.int .i64 16] w fun e w' => e = .returned (.tuple #[.int .i64 257, .int .i64 7]) ∧ w' = w
    clear hk
    go_enter Try.func123, Try.ntmps123
    go_wp2_with fail
    exact bodyPost_ret (v := .tuple #[.int .i64 257, .int .i64 7]) (by simp [results, Try.results123, go_sem]) rfl ⟨rfl, rfl⟩
  · show Calls Try.prog 123 #[.int .i64 17] w fun e w' => e = .returned (.tuple #[.int .i64 385, .int .i64 7]) ∧ w' = w
    clear hk
    go_enter Try.func123, Try.ntmps123
    go_wp2_with fail
    exact bodyPost_ret (v := .tuple #[.int .i64 385, .int .i64 7]) (by simp [results, Try.results123, go_sem]) rfl ⟨rfl, rfl⟩
  · show Calls Try.prog 123 #[.int .i64 18] w fun e w' => e = .returned (.tuple #[.int .i64 513, .int .i64 8]) ∧ w' = w
    clear hk
    go_enter Try.func123, Try.ntmps123
    go_wp2_with fail
    exact bodyPost_ret (v := .tuple #[.int .i64 513, .int .i64 8]) (by simp [results, Try.results123, go_sem]) rfl ⟨rfl, rfl⟩
  · show Calls Try.prog 123 #[.int .i64 19] w fun e w' => e = .returned (.tuple #[.int .i64 769, .int .i64 8]) ∧ w' = w
    clear hk
    go_enter Try.func123, Try.ntmps123
    go_wp2_with fail
    exact bodyPost_ret (v := .tuple #[.int .i64 769, .int .i64 8]) (by simp [results, Try.results123, go_sem]) rfl ⟨rfl, rfl⟩
  · show Calls Try.prog 123 #[.int .i64 20] w fun e w' => e = .returned (.tuple #[.int .i64 1025, .int .i64 9]) ∧ w' = w
    clear hk
    go_enter Try.func123, Try.ntmps123
    go_wp2_with fail
    exact bodyPost_ret (v := .tuple #[.int .i64 1025, .int .i64 9]) (by simp [results, Try.results123, go_sem]) rfl ⟨rfl, rfl⟩
  · show Calls Try.prog 123 #[.int .i64 21] w fun e w' => e = .returned (.tuple #[.int .i64 1537, .int .i64 9]) ∧ w' = w
    clear hk
    go_enter Try.func123, Try.ntmps123
    go_wp2_with fail
    exact bodyPost_ret (v := .tuple #[.int .i64 1537, .int .i64 9]) (by simp [results, Try.results123, go_sem]) rfl ⟨rfl, rfl⟩
  · show Calls Try.prog 123 #[.int .i64 22] w fun e w' => e = .returned (.tuple #[.int .i64 2049, .int .i64 10]) ∧ w' = w
    clear hk
    go_enter Try.func123, Try.ntmps123
    go_wp2_with fail
    exact bodyPost_ret (v := .tuple #[.int .i64 2049, .int .i64 10]) (by simp [results, Try.results123, go_sem]) rfl ⟨rfl, rfl⟩
  · show Calls Try.prog 123 #[.int .i64 23] w fun e w' => e = .returned (.tuple #[.int .i64 3073, .int .i64 10]) ∧ w' = w
    clear hk
    go_enter Try.func123, Try.ntmps123
    go_wp2_with fail
    exact bodyPost_ret (v := .tuple #[.int .i64 3073, .int .i64 10]) (by simp [results, Try.results123, go_sem]) rfl ⟨rfl, rfl⟩
  · show Calls Try.prog 123 #[.int .i64 24] w fun e w' => e = .returned (.tuple #[.int .i64 4097, .int .i64 11]) ∧ w' = w
    clear hk
    go_enter Try.func123, Try.ntmps123
    go_wp2_with fail
    exact bodyPost_ret (v := .tuple #[.int .i64 4097, .int .i64 11]) (by simp [results, Try.results123, go_sem]) rfl ⟨rfl, rfl⟩
  · show Calls Try.prog 123 #[.int .i64 25] w fun e w' => e = .returned (.tuple #[.int .i64 6145, .int .i64 11]) ∧ w' = w
    clear hk
    go_enter Try.func123, Try.ntmps123
    go_wp2_with fail
    exact bodyPost_ret (v := .tuple #[.int .i64 6145, .int .i64 11]) (by simp [results, Try.results123, go_sem]) rfl ⟨rfl, rfl⟩
  · show Calls Try.prog 123 #[.int .i64 26] w fun e w' => e = .returned (.tuple #[.int .i64 8193, .int .i64 12]) ∧ w' = w
    clear hk
    go_enter Try.func123, Try.ntmps123
    go_wp2_with fail
    exact bodyPost_ret (v := .tuple #[.int .i64 8193, .int .i64 12]) (by simp [results, Try.results123, go_sem]) rfl ⟨rfl, rfl⟩
  · show Calls Try.prog 123 #[.int .i64 27] w fun e w' => e = .returned (.tuple #[.int .i64 12289, .int .i64 12]) ∧ w' = w
    clear hk
    go_enter Try.func123, Try.ntmps123
    go_wp2_with fail
    exact bodyPost_ret (v := .tuple #[.int .i64 12289, .int .i64 12]) (by simp [results, Try.results123, go_sem]) rfl ⟨rfl, rfl⟩
  · show Calls Try.prog 123 #[.int .i64 28] w fun e w' => e = .returned (.tuple #[.int .i64 16385, .int .i64 13]) ∧ w' = w
    clear hk
    go_enter Try.func123, Try.ntmps123
    go_wp2_with fail
    exact bodyPost_ret (v := .tuple #[.int .i64 16385, .int .i64 13]) (by simp [results, Try.results123, go_sem]) rfl ⟨rfl, rfl⟩
  · show Calls Try.prog 123 #[.int .i64 29] w fun e w' => e = .returned (.tuple #[.int .i64 24577, .int .i64 13]) ∧ w' = w
    clear hk
    go_enter Try.func123, Try.ntmps123
    go_wp2_with fail
    exact bodyPost_ret (v := .tuple #[.int .i64 24577, .int .i64 13]) (by simp [results, Try.results123, go_sem]) rfl ⟨rfl, rfl⟩
end Go.Proofs.Ythfdnloeicbgkaa
