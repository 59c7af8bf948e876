/- Sniff: the specification's side, and the law. -/
import Derived.Test.YtjmeaeimpkijmaaGreatDoorProg
import Derived.Test.YtjmeaeimpkijmaaGreatDoorFmSniffI
import Derived.Test.YtjmeaeimpkijmaaGreatDoorStrWalks
namespace Go.Proofs.YtjmeaeimpkijmaaGreatDoor
open Go.RowKit

def pAny (s : ByteArray) : Bool := if h : 1 < s.size then decide ((s[0]'(by omega)).toNat = 80) && (decide (49 ≤ (s[1]'h).toNat) && decide ((s[1]'h).toNat ≤ 54)) else false
theorem begins_two (s : ByteArray) (c : UInt8) (h : 1 < s.size) : begins s ⟨#[80, c]⟩ = (decide ((s[0]'(by omega)).toNat = 80) && decide ((s[1]'h) = c)) := by
  obtain ⟨⟨l⟩⟩ := s
  match l, h with
  | a :: b :: r, h =>
    unfold begins
    have hs : (⟨#[80, c]⟩ : ByteArray).size = 2 := rfl
    rw [hs, ByteArray.toList_eq, ByteArray.toList_eq]
    have h2 : 2 ≤ (ByteArray.mk ⟨a :: b :: r⟩).size := h
    rw [decide_eq_true h2, Bool.true_and]
    have e : ((ByteArray.mk ⟨a :: b :: r⟩).extract 0 2).data.toList = [a, b] := by simp [ByteArray.extract, ByteArray.copySlice]
    rw [e]
    have e0 : (ByteArray.mk ⟨a :: b :: r⟩)[0]'(by omega) = a := rfl
    have e1 : (ByteArray.mk ⟨a :: b :: r⟩)[1]'h = b := rfl
    rw [e0, e1]
    have e80 : decide (a.toNat = 80) = (a == 80) := by
      rw [Bool.eq_iff_iff, decide_eq_true_iff, beq_iff_eq]
      exact ⟨fun h => UInt8.toNat_inj.1 h, fun h => by rw [h]; rfl⟩
    rw [e80]
    show ((a == 80) && ((b == c) && true)) = _
    rw [Bool.and_true]
    congr 1
theorem begins_short (s p : ByteArray) (h : ¬ p.size ≤ s.size) : begins s p = false := by unfold begins; rw [decide_eq_false h]; rfl
theorem pnm_any (s : ByteArray) : sAny s 4 = pAny s := by
  have hl : fmtSigns 4 = [⟨#[80, 49]⟩, ⟨#[80, 50]⟩, ⟨#[80, 51]⟩, ⟨#[80, 52]⟩, ⟨#[80, 53]⟩, ⟨#[80, 54]⟩] := rfl
  unfold sAny pAny
  rw [hl]
  by_cases h : 1 < s.size
  · rw [dif_pos h]
    simp only [List.any_cons, List.any_nil, begins_two s _ h]
    generalize decide ((s[0]'(by omega)).toNat = 80) = x
    generalize s[1]'h = b
    cases x
    · simp
    · simp only [Bool.true_and, Bool.or_false]
      have e : ∀ c : UInt8, decide (b = c) = decide (b.toNat = c.toNat) := fun c => by
        rw [Bool.eq_iff_iff, decide_eq_true_iff, decide_eq_true_iff]
        exact ⟨fun h => by rw [h], fun h => UInt8.toNat_inj.1 h⟩
      simp only [e]
      generalize b.toNat = n
      rw [Bool.eq_iff_iff]
      simp only [Bool.or_eq_true, Bool.and_eq_true, decide_eq_true_iff]
      show (n = 49 ∨ n = 50 ∨ n = 51 ∨ n = 52 ∨ n = 53 ∨ n = 54) ↔ _
      omega
  · rw [dif_neg h]
    simp only [List.any_cons, List.any_nil]
    have hz : ∀ c : UInt8, begins s ⟨#[80, c]⟩ = false := fun c => begins_short s _ (by show ¬ 2 ≤ _; omega)
    simp only [hz, Bool.or_self]
set_option maxHeartbeats 1000000 in
theorem l9Sign_fm (w : World) : Calls Tryz.prog 16 #[] w fun e w' => e = .returned (.string tPng) ∧ Below w.heap.size w w' := by
  have htx : Sem.run Tryz.prog (convert 51 9 (.slice (some ⟨w.heap.size, 0, none⟩) 8 8)) (w.alloc (.cells #[.int .u8 137, .int .u8 80, .int .u8 78, .int .u8 71, .int .u8 13, .int .u8 10, .int .u8 26, .int .u8 10] 5)) = .ok (.string tPng) (w.alloc (.cells #[.int .u8 137, .int .u8 80, .int .u8 78, .int .u8 71, .int .u8 13, .int .u8 10, .int .u8 26, .int .u8 10] 5)) := by
    have := run_text (w.alloc (.cells #[.int .u8 137, .int .u8 80, .int .u8 78, .int .u8 71, .int .u8 13, .int .u8 10, .int .u8 26, .int .u8 10] 5)) ⟨w.heap.size, 0, none⟩ 8 [137, 80, 78, 71, 13, 10, 26, 10] (by
      intro j v hj
      simp only [Addr.add]
      rw [show (⟨w.heap.size, 0 + j, none⟩ : Addr) = ⟨w.heap.size, j, none⟩ by simp, show (if j = 0 then (⟨w.heap.size, 0, none⟩ : Addr) else ⟨w.heap.size, j, none⟩) = ⟨w.heap.size, j, none⟩ by split <;> simp_all, World.cell?_alloc_at _ _ _ _ rfl]
      rw [← hj]
      have : j < 8 := by
        rcases Nat.lt_or_ge j 8 with h | h
        · exact h
        · rw [List.getElem?_eq_none (by simpa using h)] at hj; cases hj
      have h : j = 0 ∨ j = 1 ∨ j = 2 ∨ j = 3 ∨ j = 4 ∨ j = 5 ∨ j = 6 ∨ j = 7 := by omega
      rcases h with rfl | rfl | rfl | rfl | rfl | rfl | rfl | rfl <;> rfl)
    exact this
  go_enter Tryz.func16, Tryz.ntmps16
  go_wp2_with fail
  go_ret
  exact ⟨rfl, (Below.refl _ _).alloc (Nat.le_refl _) _⟩
theorem s0_eq (s : ByteArray) : sAny s 0 = begins s tPng := by show ((begins s tPng) || false) = _; rw [Bool.or_false]
theorem s1_eq (s : ByteArray) : sAny s 1 = (begins s ⟨#[71, 73, 70, 56, 55, 97]⟩ || begins s ⟨#[71, 73, 70, 56, 57, 97]⟩) := by show (_ || (_ || false)) = _; rw [Bool.or_false]
theorem s2_eq (s : ByteArray) : sAny s 2 = begins s ⟨#[66, 77]⟩ := by show (_ || false) = _; rw [Bool.or_false]
theorem s3_eq (s : ByteArray) : sAny s 3 = false := rfl
theorem SnAns.at {s : ByteArray} (k : Nat) (hk : k < 5) (hy : sAny s k = true) (hn : ∀ j, j < k → sAny s j = false) {r : Int} (hr : r = (k : Int) + 1) : SnAns s r := .inr ⟨k, hk, hr, hy, hn⟩
theorem upto1 {p : Nat → Prop} (h0 : p 0) : ∀ j, j < 1 → p j := fun j hj => by rcases (by omega : j = 0) with rfl; exact h0
theorem upto2 {p : Nat → Prop} (h0 : p 0) (h1 : p 1) : ∀ j, j < 2 → p j := fun j hj => by rcases (by omega : j = 0 ∨ j = 1) with rfl | rfl <;> assumption
theorem upto5 {p : Nat → Prop} (h0 : p 0) (h1 : p 1) (h2 : p 2) (h3 : p 3) (h4 : p 4) : ∀ j, j < 5 → p j := fun j hj => by rcases (by omega : j = 0 ∨ j = 1 ∨ j = 2 ∨ j = 3 ∨ j = 4) with rfl | rfl | rfl | rfl | rfl <;> assumption
theorem upto4 {p : Nat → Prop} (h0 : p 0) (h1 : p 1) (h2 : p 2) (h3 : p 3) : ∀ j, j < 4 → p j := fun j hj => by rcases (by omega : j = 0 ∨ j = 1 ∨ j = 2 ∨ j = 3) with rfl | rfl | rfl | rfl <;> assumption
def SnEnd (s : ByteArray) (w : World) (e : Ending) (w' : World) : Prop := (∃ r, e = .returned (.int .i64 r) ∧ SnAns s r) ∧ Below w.heap.size w w'
set_option maxHeartbeats 4000000 in
set_option maxRecDepth 20000 in
theorem spec_sniff (s : ByteArray) (w : World) : Calls Tryz.prog 6 #[.string s] w (SnEnd s w) := by
  have HL : Hid (∀ w, Calls Tryz.prog 16 #[] w fun e w' => e = .returned (.string tPng) ∧ Below w.heap.size w w') := l9Sign_fm
  have HS : Hid (∀ p w, Calls Tryz.prog 15 #[.string s, .string p] w fun e w' => e = .returned (.bool (begins s p)) ∧ w' = w) := starts_any s
  obtain ⟨x0, h0⟩ : ∃ x, x = begins s tPng := ⟨_, rfl⟩
  have H0 : Hid (sAny s 0 = x0) := by show _ = _; rw [s0_eq, h0]
  have HS0 : Hid (∀ w, Calls Tryz.prog 15 #[.string s, .string tPng] w fun e w' => e = .returned (.bool x0) ∧ w' = w) := by rw [h0]; exact HS.out _
  clear h0
  obtain ⟨x1, h1⟩ : ∃ x, x = begins s ⟨#[71, 73, 70, 56, 55, 97]⟩ := ⟨_, rfl⟩
  have HS1 : Hid (∀ w, Calls Tryz.prog 15 #[.string s, .string ⟨#[71, 73, 70, 56, 55, 97]⟩] w fun e w' => e = .returned (.bool x1) ∧ w' = w) := by rw [h1]; exact HS.out _
  obtain ⟨x2, h2⟩ : ∃ x, x = begins s ⟨#[71, 73, 70, 56, 57, 97]⟩ := ⟨_, rfl⟩
  have HS2 : Hid (∀ w, Calls Tryz.prog 15 #[.string s, .string ⟨#[71, 73, 70, 56, 57, 97]⟩] w fun e w' => e = .returned (.bool x2) ∧ w' = w) := by rw [h2]; exact HS.out _
  obtain ⟨x3, h3⟩ : ∃ x, x = begins s ⟨#[66, 77]⟩ := ⟨_, rfl⟩
  have HS3 : Hid (∀ w, Calls Tryz.prog 15 #[.string s, .string ⟨#[66, 77]⟩] w fun e w' => e = .returned (.bool x3) ∧ w' = w) := by rw [h3]; exact HS.out _
  have H1 : Hid (sAny s 1 = (x1 || x2)) := by show _ = _; rw [s1_eq, h1, h2]
  have H2 : Hid (sAny s 2 = x3) := by show _ = _; rw [s2_eq, h3]
  clear h1 h2 h3 HS
  have HP : Hid (sAny s 4 = pAny s) := pnm_any s
  generalize tPng = tp at *
  go_enter Tryz.func6, Tryz.ntmps6
  go_wp2_with fail
  refine (HL.out _).mono ?_
  rintro e w1 ⟨rfl, b1⟩
  have HB : Hid (Below w.heap.size w w1) := b1
  clear b1 HL
  go_wp2_with fail
  refine (HS0.out _).mono ?_
  rintro e w2 ⟨rfl, hw2⟩
  subst hw2
  clear HS0
  cases x0 with
  | true =>
    go_wp2_with fail
    go_ret
    exact ⟨⟨_, rfl, .at 0 (by omega) H0.out (fun _ h => absurd h (Nat.not_lt_zero _)) rfl⟩, HB.out⟩
  | false =>
    go_wp2_with fail
    refine (HS1.out _).mono ?_
    rintro e w3 ⟨rfl, hw3⟩
    subst hw3
    clear HS1
    cases x1 with
    | true =>
      go_wp2_with fail
      go_ret
      exact ⟨⟨_, rfl, .at 1 (by omega) (by rw [H1.out]; rfl) (upto1 H0.out) rfl⟩, HB.out⟩
    | false =>
      go_wp2_with fail
      refine (HS2.out _).mono ?_
      rintro e w4 ⟨rfl, hw4⟩
      subst hw4
      clear HS2
      cases x2 with
      | true =>
        go_wp2_with fail
        go_ret
        exact ⟨⟨_, rfl, .at 1 (by omega) (by rw [H1.out]; rfl) (upto1 H0.out) rfl⟩, HB.out⟩
      | false =>
        go_wp2_with fail
        refine (HS3.out _).mono ?_
        rintro e w5 ⟨rfl, hw5⟩
        subst hw5
        clear HS3
        cases x3 with
        | true =>
          go_wp2_with fail
          go_ret
          exact ⟨⟨_, rfl, .at 2 (by omega) H2.out (upto2 H0.out (by rw [H1.out]; rfl)) rfl⟩, HB.out⟩
        | false =>
          have HN : Hid (pAny s = false → SnAns s 0) := fun h => .inl ⟨rfl, upto5 H0.out (by rw [H1.out]; rfl) H2.out (s3_eq s) (by rw [HP.out]; exact h)⟩
          have HY : Hid (pAny s = true → SnAns s 5) := fun h => .at 4 (by omega) (by rw [HP.out]; exact h) (upto4 H0.out (by rw [H1.out]; rfl) H2.out (s3_eq s)) rfl
          clear H0 H1 H2 HP
          unfold pAny at HN HY
          by_cases hz : 1 < s.size
          · rw [dif_pos hz] at HN HY
            have hzi : (1 : Int) < (s.size : Int) := by omega
            have hz0 : (0 : Int) < (s.size : Int) := by omega
            by_cases c0 : (s[0]'(by omega)).toNat = 80
            · have c0i : ((s[0]'(by omega)).toNat : Int) = 80 := by omega
              by_cases c1 : 49 ≤ (s[1]'hz).toNat
              · have c1i : (49 : Int) ≤ ((s[1]'hz).toNat : Int) := by omega
                by_cases c2 : (s[1]'hz).toNat ≤ 54
                · have c2i : ((s[1]'hz).toNat : Int) ≤ 54 := by omega
                  have HA : Hid (SnAns s 5) := HY.out (by simp [c0, c1, c2])
                  go_wp2_with fail
                  go_ret
                  exact ⟨⟨_, rfl, HA.out⟩, HB.out⟩
                · have c2i : ¬ ((s[1]'hz).toNat : Int) ≤ 54 := by omega
                  have HA : Hid (SnAns s 0) := HN.out (by simp [c2])
                  go_wp2_with fail
                  go_ret
                  exact ⟨⟨_, rfl, HA.out⟩, HB.out⟩
              · have c1i : ¬ (49 : Int) ≤ ((s[1]'hz).toNat : Int) := by omega
                have HA : Hid (SnAns s 0) := HN.out (by simp [c1])
                go_wp2_with fail
                go_ret
                exact ⟨⟨_, rfl, HA.out⟩, HB.out⟩
            · have c0i : ¬ ((s[0]'(by omega)).toNat : Int) = 80 := by omega
              have HA : Hid (SnAns s 0) := HN.out (by simp [c0])
              go_wp2_with fail
              go_ret
              exact ⟨⟨_, rfl, HA.out⟩, HB.out⟩
          · rw [dif_neg hz] at HN
            have hzi : ¬ (1 : Int) < (s.size : Int) := by omega
            have HA : Hid (SnAns s 0) := HN.out rfl
            go_wp2_with fail
            go_ret
            exact ⟨⟨_, rfl, HA.out⟩, HB.out⟩
set_option maxHeartbeats 1000000 in
theorem exSniff (s : ByteArray) (w : World) : Calls Tryz.prog 3 #[.string s] w fun e w' => e = .returned (.bool true) ∧ Below w.heap.size w w' := by
  have HS : Hid (∀ w, Calls Tryz.prog 6 #[.string s] w (SnEnd s w)) := spec_sniff s
  have HI : Hid (∀ w, Calls Tryz.prog 7 #[.string s] w (SnEnd s w)) := impl_sniff s
  by_cases hz : 1048576 < s.size
  · have hzi : (1048576 : Int) < (s.size : Int) := by omega
    go_enter Tryz.func3, Tryz.ntmps3
    go_wp2_with fail
    go_ret
    exact ⟨rfl, Below.refl _ _⟩
  · have hzi : ¬ (1048576 : Int) < (s.size : Int) := by omega
    go_enter Tryz.func3, Tryz.ntmps3
    go_wp2_with fail
    refine (HS.out _).mono ?_
    rintro e w1 ⟨⟨r, rfl, hr⟩, b1⟩
    have H1 : Hid (SnAns s r ∧ Below w.heap.size w w1) := ⟨hr, b1⟩
    clear hr b1 HS
    go_wp2_with fail
    refine (HI.out _).mono ?_
    rintro e w2 ⟨⟨t, rfl, ht⟩, b2⟩
    obtain rfl : r = t := H1.out.1.same ht
    have HB : Hid (Below w.heap.size w w2) := H1.out.2.trans (b2.mono H1.out.2.size)
    clear ht b2 H1 HI
    go_wp2_with fail
    go_ret
    exact ⟨rfl, HB.out⟩
end Go.Proofs.YtjmeaeimpkijmaaGreatDoor
