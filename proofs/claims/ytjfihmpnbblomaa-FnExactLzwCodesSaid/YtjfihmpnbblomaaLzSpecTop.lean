/- LzwCodes and LzwGet of the specification. -/
import Derived.Test.YtjfihmpnbblomaaLzAll
import Derived.Test.YtjfihmpnbblomaaAppInts
namespace Go.Proofs.Ytjfihmpnbblomaa
open Go.RowKit

def inB (n lo hi : Int) : Bool := decide (lo ≤ n ∧ n ≤ hi)
theorem l6In_any (n lo hi : Int) (w : World) : Calls Try.prog 32 #[.int .i64 n, .int .i64 lo, .int .i64 hi] w fun e w' => e = .returned (.bool (inB n lo hi)) ∧ w' = w := by
  by_cases h : lo ≤ n ∧ n ≤ hi
  · rw [show inB n lo hi = true from decide_eq_true h]
    exact l1In_yes n lo hi w h.1 h.2
  · rw [show inB n lo hi = false from decide_eq_false h]
    exact l1In_no n lo hi w h

set_option maxHeartbeats 400000 in
theorem l6Ok_any (b : Int) (wide : Bool) (w : World) : Calls Try.prog 31 #[.int .i64 b, .bool wide] w fun e w' => e = .returned (.bool (Lz.ok b wide)) ∧ w' = w := by
  have HIN : Hid (∀ w, Calls Try.prog 32 #[.int .i64 b, .int .i64 2, .int .i64 8] w fun e w' => e = .returned (.bool (inB b 2 8)) ∧ w' = w) := fun w => l6In_any b 2 8 w
  cases wide with
  | true =>
    by_cases h8 : b = 8
    · subst h8
      rw [show inB 8 2 8 = true from rfl] at HIN
      go_enter Try.func31, Try.ntmps31
      go_wp2_with fail
      refine (HIN.out _).mono ?_
      rintro e w1 ⟨rfl, hw1⟩
      subst hw1
      go_wp2_with fail
      go_ret
      exact ⟨rfl, rfl⟩
    · have hr : Lz.ok b true = false := by simp [Lz.ok, h8]
      rw [hr]
      have hb8 : (b == 8) = false := by simpa using h8
      generalize inB b 2 8 = k at HIN
      cases k
      all_goals
        go_enter Try.func31, Try.ntmps31
        go_wp2_with fail
        refine (HIN.out _).mono ?_
        rintro e w1 ⟨rfl, hw1⟩
        subst hw1
        go_wp2_with fail
        go_ret
        first | exact ⟨rfl, rfl⟩ | exact ⟨by simp [h8], rfl⟩
  | false =>
    have hr : Lz.ok b false = inB b 2 8 := by simp [Lz.ok, inB, Bool.decide_and]
    rw [hr]
    generalize inB b 2 8 = k at HIN ⊢
    cases k
    all_goals
      go_enter Try.func31, Try.ntmps31
      go_wp2_with fail
      refine (HIN.out _).mono ?_
      rintro e w1 ⟨rfl, hw1⟩
      subst hw1
      go_wp2_with fail
      go_ret
      exact ⟨rfl, rfl⟩

theorem ints_nil (w : World) (a : Option Addr) : Ints w a [] := .inl rfl

theorem SzFin.open {w : World} {B b : Nat} {wide : Bool} {s : ByteArray} {limit : Nat} {Rs : Except Int (List (Nat × ByteArray))} {wr : World} (h : SzFin w B b wide s limit Rs wr) :
    Below w.heap.size w wr ∧ ((∃ dn ov cv, Rs = .ok dn ∧ wr.cell? ⟨B, 9, none⟩ = some (.int .i64 0) ∧ wr.cell? ⟨B, 7, none⟩ = some ov ∧ wr.cell? ⟨B, 8, none⟩ = some cv ∧ OwnT wr w.heap.size ov (textsOf dn).length (textsOf dn) ∧ OwnI wr w.heap.size cv (codesOf dn).length (codesOf dn)) ∨ (∃ c, c ≠ 0 ∧ Rs = .error c ∧ wr.cell? ⟨B, 9, none⟩ = some (.int .i64 c))) := by
  obtain ⟨p, l, last, o, cs, c, ⟨g, n, cap, ov, cv, hP⟩, h⟩ := h
  refine ⟨hP.bel, ?_⟩
  rcases h with ⟨dn, h1, rfl, rfl, rfl⟩ | ⟨h1, h2⟩
  · exact .inl ⟨dn, ov, cv, h1, hP.r.cell 9, hP.r.cell 7, hP.r.cell 8, hP.ot, hP.oi⟩
  · exact .inr ⟨c, h1, h2, hP.r.cell 9⟩

set_option maxHeartbeats 1000000 in
theorem spec_lzwCodes (s : ByteArray) (b : Int) (wide : Bool) (w : World) (hs : s.size ≤ 3000000) :
    Calls Try.prog 18 #[.string s, .int .i64 b, .bool wide] w fun e w' => (∃ ao cap, e = .returned (.slice ao (Lz.codes (Lz.res s b wide 5000)).length cap) ∧ Ints w' ao (Lz.codes (Lz.res s b wide 5000))) ∧ Below w.heap.size w w' := by
  have HOK : Hid (∀ w, Calls Try.prog 31 #[.int .i64 b, .bool wide] w fun e w' => e = .returned (.bool (Lz.ok b wide)) ∧ w' = w) := fun w => l6Ok_any b wide w
  by_cases hf : LzFine s b wide 5000
  · obtain ⟨B, rfl⟩ := Int.eq_ofNat_of_zero_le (show 0 ≤ b by have := Lz.ok_bd hf.1; omega)
    have HR := fun w => l6All_any B 5000 wide s (Lz.res s B wide 5000) w (by have := Lz.ok_bd hf.1; omega) hf.2.1 (by omega) (Lz.res_yes (limit := 5000) hf)
    have hlen := Lz.codes_len s B 5000 wide
    generalize hRs : Lz.res s B wide 5000 = R at *
    clear hRs
    have HRD : Hid (∀ w, Calls Try.prog 33 #[.string s, .int .i64 (B : Int), .bool wide, .int .i64 5000] w (SzAll w B wide s 5000 R)) := HR
    rw [hf.1] at HOK
    have d1 : decide ((s.size : Int) > 9000) = false := decide_eq_false (by have := hf.2.1; omega)
    clear HR hf
    go_enter Try.func18, Try.ntmps18
    go_wp2_with fail
    refine (HOK.out _).mono ?_
    rintro e w1 ⟨rfl, hw1⟩
    replace hw1 := hw1.symm
    subst hw1
    go_wp2_with fail
    refine (HRD.out _).mono ?_
    rintro e w2 ⟨A, rfl, hF⟩
    obtain ⟨bel, (⟨dn, ov, cv, rfl, c9, c7, c8, hot, hoi⟩ | ⟨c, hc0, rfl, c9⟩)⟩ := hF.open
    · obtain ⟨ao, cap, rfl, how⟩ := OwnI.owns hoi
      have HI : Hid (Ints w2 ao (codesOf dn)) := how.ints
      have HI0 : Hid (Ints (w2.alloc (.cells #[] 3)) ao (codesOf dn)) := how.ints.kept ((Below.refl _ _).alloc (Nat.le_refl _) _)
      have HN : Hid (OwnI (w2.alloc (.cells #[] 3)) w2.heap.size (.slice (some ⟨w2.heap.size, 0, none⟩) 0 0) 0 []) := ownI_none w2
      have hlen' : (codesOf dn).length ≤ 72001 := hlen
      have HB : Hid (Below w.heap.size w w2) := bel
      have hAl : A < w2.heap.size := World.block_lt_of_cell? w2 ⟨A, 9, none⟩ c9
      clear hot hoi how bel hF hlen HRD HOK
      generalize hL : (codesOf dn).length = L at *
      have HL : Hid ((codesOf dn).length = L) := hL
      clear hL
      go_wp2_with (at_builtin; refine wpList_append_ints (by rfl) _ _ (by rfl) w2.heap.size _ 0 [] (by rfl) HN.out ao L cap (codesOf dn) (by rfl) HI0.out HL.out (by omega) (by rw [World.size_alloc]; omega) ?_)
      intro a' cap' w3 ho3 hg3
      have HF : Hid (Ints w3 a' (codesOf dn) ∧ Below w.heap.size w w3) := by
        obtain ⟨ao2, cap2, he, how2⟩ := OwnI.owns ho3
        cases he
        refine ⟨how2.ints, ?_⟩
        exact (HB.out.alloc HB.out.size _).grown hg3 (by rw [World.size_alloc]; have := HB.out.size; omega) (fun k hk => by cases hk; exact HB.out.size)
      clear ho3 hg3
      go_wp2_with fail
      go_ret
      exact ⟨⟨a', cap', by show _ = Ending.returned (.slice a' (codesOf dn).length cap'); rw [HL.out]; first | rfl | (conv => rhs; rw [← Nat.zero_add L]) | (conv => lhs; rw [Nat.zero_add L]), HF.out.1⟩, HF.out.2⟩
    · have hcb : (c != 0) = true := by rw [bne_iff_ne]; exact hc0
      clear hF HRD HOK hlen hc0
      go_wp2_with fail
      go_ret
      exact ⟨⟨_, _, rfl, ints_nil _ _⟩, bel.alloc bel.size _⟩
  · rw [Lz.res_no hf]
    have hno : Lz.ok b wide = false ∨ (Lz.ok b wide = true ∧ 9000 < s.size) := by
      cases h : Lz.ok b wide with
      | false => exact .inl rfl
      | true =>
        refine .inr ⟨rfl, ?_⟩
        rcases Nat.lt_or_ge 9000 s.size with h9 | h9
        · exact h9
        · exact absurd ⟨h, h9, by omega, by omega⟩ hf
    clear hf
    rcases hno with h0 | ⟨h0, h9⟩
    · rw [h0] at HOK
      go_enter Try.func18, Try.ntmps18
      go_wp2_with fail
      refine (HOK.out _).mono ?_
      rintro e w1 ⟨rfl, hw1⟩
      replace hw1 := hw1.symm
      subst hw1
      go_wp2_with fail
      go_ret
      exact ⟨⟨_, _, rfl, ints_nil _ _⟩, (Below.refl _ _).alloc (Nat.le_refl _) _⟩
    · rw [h0] at HOK
      have d1 : decide ((s.size : Int) > 9000) = true := decide_eq_true (by omega)
      go_enter Try.func18, Try.ntmps18
      go_wp2_with fail
      refine (HOK.out _).mono ?_
      rintro e w1 ⟨rfl, hw1⟩
      replace hw1 := hw1.symm
      subst hw1
      go_wp2_with fail
      go_ret
      exact ⟨⟨_, _, rfl, ints_nil _ _⟩, (Below.refl _ _).alloc (Nat.le_refl _) _⟩

set_option maxHeartbeats 1000000 in
theorem spec_lzwGet (s : ByteArray) (b : Int) (wide : Bool) (limit : Int) (w : World) (hs : s.size ≤ 3000000) :
    Calls Try.prog 10 #[.string s, .int .i64 b, .bool wide, .int .i64 limit] w fun e w' => e = .returned (.tuple #[.string ⟨(Lz.out (Lz.res s b wide limit)).toArray⟩, .int .i64 (Lz.code (Lz.res s b wide limit))]) ∧ Below w.heap.size w w' := by
  have HOK : Hid (∀ w, Calls Try.prog 31 #[.int .i64 b, .bool wide] w fun e w' => e = .returned (.bool (Lz.ok b wide)) ∧ w' = w) := fun w => l6Ok_any b wide w
  have HIN : Hid (∀ w, Calls Try.prog 32 #[.int .i64 limit, .int .i64 0, .int .i64 5000] w fun e w' => e = .returned (.bool (inB limit 0 5000)) ∧ w' = w) := fun w => l6In_any limit 0 5000 w
  by_cases hf : LzFine s b wide limit
  · obtain ⟨B, rfl⟩ := Int.eq_ofNat_of_zero_le (show 0 ≤ b by have := Lz.ok_bd hf.1; omega)
    obtain ⟨M, rfl⟩ := Int.eq_ofNat_of_zero_le (show 0 ≤ limit from hf.2.2.1)
    have HR := fun w => l6All_any B M wide s (Lz.res s B wide M) w (by have := Lz.ok_bd hf.1; omega) hf.2.1 (by have := hf.2.2.2; omega) (Lz.res_yes hf)
    generalize hRs : Lz.res s B wide M = R at *
    clear hRs
    have HRD : Hid (∀ w, Calls Try.prog 33 #[.string s, .int .i64 (B : Int), .bool wide, .int .i64 (M : Int)] w (SzAll w B wide s M R)) := HR
    rw [hf.1] at HOK
    rw [show inB M 0 5000 = true from decide_eq_true hf.2.2] at HIN
    have d1 : decide ((s.size : Int) > 9000) = false := decide_eq_false (by have := hf.2.1; omega)
    clear HR hf
    go_enter Try.func10, Try.ntmps10
    go_wp2_with fail
    refine (HOK.out _).mono ?_
    rintro e w1 ⟨rfl, hw1⟩
    replace hw1 := hw1.symm
    subst hw1
    go_wp2_with fail
    refine (HIN.out _).mono ?_
    rintro e w1 ⟨rfl, hw1⟩
    replace hw1 := hw1.symm
    subst hw1
    go_wp2_with fail
    refine (HRD.out _).mono ?_
    rintro e w2 ⟨A, rfl, hF⟩
    obtain ⟨bel, (⟨dn, ov, cv, rfl, c9, c7, c8, hot, hoi⟩ | ⟨c, hc0, rfl, c9⟩)⟩ := hF.open
    · have htx := OwnT.text hot
      obtain ⟨ao, n, cap, rfl⟩ : ∃ ao n cap, ov = .slice ao n cap := by
        rcases hot.2 with ⟨rfl, _⟩ | ⟨g, cap, cur, rfl, _⟩
        · exact ⟨_, _, _, rfl⟩
        · exact ⟨_, _, _, rfl⟩
      clear hot hoi hF HRD HOK HIN c8
      go_wp2_with fail
      go_ret2
      exact ⟨rfl, bel⟩
    · have hcb : (c != 0) = true := by rw [bne_iff_ne]; exact hc0
      clear hF HRD HOK hc0 HIN
      go_wp2_with fail
      go_quiet (fail)
      go_wp2_with fail
      go_ret2
      exact ⟨rfl, below_drewN bel _⟩
  · rw [Lz.res_no hf]
    have hno : Lz.ok b wide = false ∨ (Lz.ok b wide = true ∧ (9000 < s.size ∨ (s.size ≤ 9000 ∧ inB limit 0 5000 = false))) := by
      cases h : Lz.ok b wide with
      | false => exact .inl rfl
      | true =>
        refine .inr ⟨rfl, ?_⟩
        rcases Nat.lt_or_ge 9000 s.size with h9 | h9
        · exact .inl h9
        · exact .inr ⟨h9, decide_eq_false (fun hl => hf ⟨h, h9, hl.1, hl.2⟩)⟩
    clear hf
    rcases hno with h0 | ⟨h0, h9 | ⟨h9, h5⟩⟩
    · rw [h0] at HOK
      go_enter Try.func10, Try.ntmps10
      go_wp2_with fail
      refine (HOK.out _).mono ?_
      rintro e w1 ⟨rfl, hw1⟩
      replace hw1 := hw1.symm
      subst hw1
      go_wp2_with fail
      go_ret2
      exact ⟨rfl, Below.refl _ _⟩
    · rw [h0] at HOK
      have d1 : decide ((s.size : Int) > 9000) = true := decide_eq_true (by omega)
      go_enter Try.func10, Try.ntmps10
      go_wp2_with fail
      refine (HOK.out _).mono ?_
      rintro e w1 ⟨rfl, hw1⟩
      replace hw1 := hw1.symm
      subst hw1
      go_wp2_with fail
      go_ret2
      exact ⟨rfl, Below.refl _ _⟩
    · rw [h0] at HOK
      rw [h5] at HIN
      have d1 : decide ((s.size : Int) > 9000) = false := decide_eq_false (by omega)
      go_enter Try.func10, Try.ntmps10
      go_wp2_with fail
      refine (HOK.out _).mono ?_
      rintro e w1 ⟨rfl, hw1⟩
      replace hw1 := hw1.symm
      subst hw1
      go_wp2_with fail
      refine (HIN.out _).mono ?_
      rintro e w1 ⟨rfl, hw1⟩
      replace hw1 := hw1.symm
      subst hw1
      go_wp2_with fail
      go_ret2
      exact ⟨rfl, Below.refl _ _⟩
end Go.Proofs.Ytjfihmpnbblomaa
