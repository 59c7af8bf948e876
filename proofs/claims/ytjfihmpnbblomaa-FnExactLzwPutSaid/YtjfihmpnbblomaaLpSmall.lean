/- The small functions of packing by LZW, of the specification. -/
import Derived.Test.YtjfihmpnbblomaaLpMath
import Derived.Test.YtjfihmpnbblomaaLzStart
import Derived.Test.YtjfihmpnbblomaaBitOwn
import Derived.BigQuiet
import Derived.Deep.QuietTactic
namespace Go.Proofs.Ytjfihmpnbblomaa
open Go.RowKit

set_option maxHeartbeats 1000000 in
theorem l6Find_any (base n g cap : Nat) (l : List ByteArray) (s : ByteArray) (w : World) (ho : OwnL w base (.slice (some ⟨g, 0, none⟩) n cap) n l) (hn : n ≤ 5000) :
    Calls Try.prog 78 #[.slice (some ⟨g, 0, none⟩) n cap, .string s] w fun e w' => e = .returned (.int .i64 (Lp.find l s)) ∧ w' = w := by
  have hln := ho.len
  have HC : Hid (∀ i (h : i < l.length), w.cell? ⟨g, i, none⟩ = some (.string l[i])) := fun i h => ho.cell i h
  obtain ⟨R, hR⟩ : ∃ R, R = Lp.find l s := ⟨_, rfl⟩
  rw [← hR]
  have HR0 : Hid (Lp.from s (l.drop 0) 0 = R) := by rw [hR]; rfl
  clear hR ho
  go_enter Try.func78, Try.ntmps78
  go_wp2_with fail
  go_loop [5] (fun i => ∃ k : Nat, k ≤ n ∧ i = .int .i64 (k : Int) ∧ Hid (Lp.from s (l.drop k) k = R)) (fun i => n - (intOf i).toNat)
  case atStart => exact ⟨0, Nat.zero_le _, rfl, HR0⟩
  case round =>
    obtain ⟨k, hk, rfl, HR⟩ := hrel
    clear HR0
    by_cases hlt : k < n
    · have hkl : k < l.length := by omega
      have hck := HC.out k hkl
      have hd : l.drop k = l[k] :: l.drop (k + 1) := List.drop_eq_getElem_cons hkl
      have hi : (k : Int) < (n : Int) := by omega
      have HE : Hid ((if l[k] = s then (k : Int) else Lp.from s (l.drop (k + 1)) (k + 1)) = R) := by
        have := HR.out
        rw [hd] at this
        exact this
      generalize l[k] = x at *
      clear hd HR hln hkl
      by_cases hx : x = s
      · subst hx
        have hRk : R = (k : Int) := by have := HE.out; rw [if_pos rfl] at this; exact this.symm
        subst hRk
        have hbx : (x.toList == x.toList) = true := by simp
        clear HE
        go_wp2_with fail
        go_ret
        exact ⟨rfl, rfl⟩
      · have HE2 : Hid (Lp.from s (l.drop (k + 1)) (k + 1) = R) := by have := HE.out; rw [if_neg hx] at this; exact this
        have hbx : (x.toList == s.toList) = false := by
          rw [beq_eq_false_iff_ne]
          intro e
          rw [ByteArray.toList_eq, ByteArray.toList_eq] at e
          exact hx (ByteArray.ext (Array.toList_inj.1 e))
        clear HE
        go_wp2_with fail
        go_round
        case rel => exact ⟨k + 1, by omega, by go_num, HE2⟩
        case measure => simp [intOf]; omega
    · have hRk : R = -1 := by
        have := HR.out
        rw [List.drop_eq_nil_of_le (by omega)] at this
        exact this.symm
      subst hRk
      clear HR
      go_wp2_with fail
      go_ret
      exact ⟨rfl, rfl⟩

theorem first_byte (s : ByteArray) (h : 0 < s.size) : (s[0]).toNat = Lp.byte s := by
  unfold Lp.byte
  obtain ⟨⟨l⟩⟩ := s
  cases l with
  | nil => exact absurd h (by decide)
  | cons a t => rfl

set_option maxHeartbeats 1000000 in
theorem l6Num_any (base n g cap : Nat) (l : List ByteArray) (s : ByteArray) (w : World) (ho : OwnL w base (.slice (some ⟨g, 0, none⟩) n cap) n l) (hn : n ≤ 5000) (_hs : s.size ≤ 6000) :
    Calls Try.prog 64 #[.slice (some ⟨g, 0, none⟩) n cap, .string s] w fun e w' => e = .returned (.int .i64 (Lp.num l s)) ∧ w' = w := by
  have HF : Hid (∀ w', w' = w → Calls Try.prog 78 #[.slice (some ⟨g, 0, none⟩) n cap, .string s] w' fun e w'' => e = .returned (.int .i64 (Lp.find l s)) ∧ w'' = w') := fun w' e => by subst e; exact l6Find_any base n g cap l s w' ho hn
  clear ho
  unfold Lp.num
  by_cases h1 : s.size = 1
  · rw [if_pos h1]
    have hb := first_byte s (by omega)
    have hbl := Lp.byte_lt s
    have hi1 : (s.size : Int) = 1 := by omega
    have h0 : 0 < s.size := by omega
    generalize Lp.byte s = B at *
    clear HF
    go_enter Try.func64, Try.ntmps64
    go_wp2_with fail
    go_ret
    exact ⟨rfl, rfl⟩
  · rw [if_neg h1]
    have hi1 : ¬ (s.size : Int) = 1 := by omega
    generalize Lp.find l s = R at *
    go_enter Try.func64, Try.ntmps64
    go_wp2_with fail
    refine (HF.out _ rfl).mono ?_
    rintro e w1 ⟨rfl, hw1⟩
    subst hw1
    go_wp2_with fail
    go_ret
    exact ⟨rfl, rfl⟩

set_option maxHeartbeats 1000000 in
theorem l6Known_any (b n cap : Nat) (ao : Option Addr) (w : World) (hb : b ≤ 8) (hn : n ≤ 5000) (hn1 : 1 ≤ n) :
    Calls Try.prog 79 #[.slice ao n cap, .int .i64 (b : Int)] w fun e w' => e = .returned (.int .i64 (Lp.known b n : Int)) ∧ w' = w := by
  have HPW : Hid (∀ w', Calls Try.prog 35 #[.int .i64 (b : Int)] w' fun e w'' => e = .returned (.int .i64 ((2 ^ b : Nat) : Int)) ∧ w'' = w') := fun w' => l1Pow_any b w' (by omega)
  have hp := Lz.pow_le hb
  unfold Lp.known
  generalize 2 ^ b = P at *
  by_cases h1 : n = P + 2
  · rw [if_pos h1]
    have hi : (n : Int) = (P : Int) + 2 := by omega
    have HI : Hid (n = P + 2) := h1
    have hbe : ((n : Int) == (P : Int) + 2) = true := by simp [hi]
    clear h1 hi
    go_enter Try.func79, Try.ntmps79
    go_wp2_with fail
    refine (HPW.out _).mono ?_
    rintro e w1 ⟨rfl, hw1⟩
    subst hw1
    go_wp2_with fail
    all_goals first | (go_ret; exact ⟨rfl, rfl⟩) | (exfalso; have := HI.out; omega)
  · rw [if_neg h1]
    have hi : ¬ (n : Int) = (P : Int) + 2 := by omega
    have hbe : ((n : Int) == (P : Int) + 2) = false := by simpa using hi
    go_enter Try.func79, Try.ntmps79
    go_wp2_with fail
    refine (HPW.out _).mono ?_
    rintro e w1 ⟨rfl, hw1⟩
    subst hw1
    go_wp2_with fail
    go_ret
    exact ⟨by first | go_num | (congr 2; omega), rfl⟩

set_option maxHeartbeats 1000000 in
theorem l6Code_any (b n cap : Nat) (ao : Option Addr) (v : Int) (wide : Bool) (w : World) (hb : b ≤ 8) (hn : n ≤ 5000) (hn1 : 1 ≤ n) :
    Calls Try.prog 65 #[.int .i64 v, .slice ao n cap, .int .i64 (b : Int), .bool wide] w fun e w' => e = .returned (.agg #[.int .i64 (Lp.code b wide v n).1, .int .i64 (Lp.code b wide v n).2]) ∧ Below w.heap.size w w' := by
  have HK : Hid (∀ w', Calls Try.prog 79 #[.slice ao n cap, .int .i64 (b : Int)] w' fun e w'' => e = .returned (.int .i64 (Lp.known b n : Int)) ∧ w'' = w') := fun w' => l6Known_any b n cap ao w' hb hn hn1
  have hkb : Lp.known b n ≤ 5000 := by unfold Lp.known; split <;> omega
  have HW : Hid (∀ w', Calls Try.prog 74 #[.int .i64 (Lp.known b n : Int), .int .i64 (b : Int), .bool wide] w' fun e w'' => e = .returned (.int .i64 (Lz.width b wide (Lp.known b n) : Int)) ∧ w'' = w') := fun w' => l6Width_any b (Lp.known b n) hb hkb wide w'
  unfold Lp.code
  generalize Lz.width b wide (Lp.known b n) = W at *
  generalize Lp.known b n = K at *
  go_enter Try.func65, Try.ntmps65
  go_wp2_with fail
  refine (HK.out _).mono ?_
  rintro e w1 ⟨rfl, hw1⟩
  replace hw1 := hw1.symm
  subst hw1
  go_wp2_with fail
  refine (HW.out _).mono ?_
  rintro e w1 ⟨rfl, hw1⟩
  replace hw1 := hw1.symm
  subst hw1
  go_wp2_with fail
  exact bodyPost_ret (v := .agg #[.int .i64 v, .int .i64 (W : Int)]) (by simp [results, Try.results65, go_sem]) rfl ⟨rfl, (Below.refl _ _).alloc (Nat.le_refl _) _⟩

set_option maxHeartbeats 400000 in
theorem l6Full_any (wide : Bool) (w : World) : Calls Try.prog 66 #[.bool wide] w fun e w' => e = .returned (.int .i64 (Lp.full wide : Int)) ∧ w' = w := by
  cases wide
  all_goals
    go_enter Try.func66, Try.ntmps66
    go_wp2_with fail
    go_ret
    exact ⟨rfl, rfl⟩

def Lp.smallB (b : Nat) (s : ByteArray) : Bool := (List.range s.size).all fun k => decide (Lp.byte (s.extract k (k + 1)) < 2 ^ b)
theorem Lp.small_of {b : Nat} {s : ByteArray} (h : Lp.smallB b s = true) : Lp.small b s := fun k hk => by
  have := List.all_eq_true.1 h k (List.mem_range.2 hk)
  simpa using this
theorem extract_byte (s : ByteArray) (k : Nat) (h : k < s.size) : Lp.byte (s.extract k (k + 1)) = (s[k]).toNat := by
  have hz : 0 < (s.extract k (k + 1)).size := by rw [ByteArray.size_extract]; omega
  rw [← first_byte _ hz, ByteArray.getElem_extract]
  rfl

set_option maxHeartbeats 1000000 in
theorem l6Fits_any (b : Nat) (s : ByteArray) (w : World) (hb : b ≤ 8) (hs : s.size ≤ 9000) :
    Calls Try.prog 44 #[.string s, .int .i64 (b : Int)] w fun e w' => e = .returned (.bool (Lp.smallB b s)) ∧ ∃ m, w' = w.drewN m := by
  have HPW : Hid (∀ w', Calls Try.prog 35 #[.int .i64 (b : Int)] w' fun e w'' => e = .returned (.int .i64 ((2 ^ b : Nat) : Int)) ∧ w'' = w') := fun w' => l1Pow_any b w' (by omega)
  have hp := Lz.pow_le hb
  have HNO : Hid (∀ k (h : k < s.size), 2 ^ b ≤ (s[k]).toNat → Lp.smallB b s = false) := fun k h hk => by
    rw [← Bool.not_eq_true]
    intro hc
    have := Lp.small_of hc k h
    rw [extract_byte s k h] at this
    omega
  have HYES : Hid ((∀ k (h : k < s.size), (s[k]).toNat < 2 ^ b) → Lp.smallB b s = true) := fun h => by
    unfold Lp.smallB
    rw [List.all_eq_true]
    intro k hk
    have hk' := List.mem_range.1 hk
    rw [extract_byte s k hk']
    simpa using h k hk'
  generalize hB : Lp.smallB b s = B at *
  clear hB
  generalize 2 ^ b = P at *
  go_enter Try.func44, Try.ntmps44
  go_wp2_with fail
  go_loopw [5] (fun i wr => ∃ k : Nat, k ≤ s.size ∧ i = .int .i64 (k : Int) ∧ Hid (∀ j (h : j < s.size), j < k → (s[j]).toNat < P) ∧ Hid (∃ m, wr = w.drewN m)) (fun i _ => s.size - (intOf i).toNat)
  case atStart => exact ⟨0, Nat.zero_le _, rfl, fun j _ h => absurd h (Nat.not_lt_zero _), 0, rfl⟩
  case round =>
    obtain ⟨k, hk, rfl, HA, HM⟩ := hrel
    by_cases hlt : k < s.size
    · obtain ⟨y, hy⟩ : ∃ y, y = (s[k]).toNat := ⟨_, rfl⟩
      have hyb : y < 256 := by rw [hy]; exact UInt8.toNat_lt _
      have hsy : (s[k]).toNat = y := hy.symm
      have hi : (k : Int) < (s.size : Int) := by omega
      by_cases hsm : y < P
      · have HA2 : Hid (∀ j (h : j < s.size), j < k + 1 → (s[j]).toNat < P) := fun j h hj => by
          rcases Nat.lt_or_ge j k with h1 | h1
          · exact HA.out j h h1
          · have e : j = k := by omega
            subst e
            omega
        have hd : decide ((y : Int) ≥ (P : Int)) = false := decide_eq_false (by omega)
        clear hy HA
        go_wp2_with fail
        go_quiet ((go_at_call 35; exact Calls.quiet_of_same (HPW.out _)))
        go_wp2_with fail
        go_roundw
        case rel => exact ⟨k + 1, by omega, by go_num, HA2, by obtain ⟨m, rfl⟩ := HM.out; exact ⟨_, World.drewN_drewN _ _ _⟩⟩
        case measure => simp [intOf]; omega
      · have hBf : B = false := HNO.out k hlt (by omega)
        subst hBf
        have hd : decide ((y : Int) ≥ (P : Int)) = true := decide_eq_true (by omega)
        clear hy HA
        go_wp2_with fail
        go_quiet ((go_at_call 35; exact Calls.quiet_of_same (HPW.out _)))
        go_wp2_with fail
        go_ret
        obtain ⟨m, rfl⟩ := HM.out
        exact ⟨rfl, _, World.drewN_drewN _ _ _⟩
    · have hBt : B = true := HYES.out (fun j h => HA.out j h (by omega))
      subst hBt
      go_wp2_with fail
      go_ret
      exact ⟨rfl, HM.out⟩
end Go.Proofs.Ytjfihmpnbblomaa
