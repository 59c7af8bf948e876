/- The law of woven rows, walked. -/
import Derived.Test.YtoeekanmhnbgfaaWvFacts
import Derived.Test.YtoeekanmhnbgfaaWvSpec
import Derived.Test.YtoeekanmhnbgfaaWvImpl
import Derived.Test.YtoeekanmhnbgfaaWiInts
import Derived.Test.YtoeekanmhnbgfaaDrawWalks
import Derived.Test.YtoeekanmhnbgfaaRowCode
import Derived.Test.YtoeekanmhnbgfaaMarkBase
namespace Go.Proofs.Ytoeekanmhnbgfaa
open Go.RowKit

set_option maxHeartbeats 400000 in
theorem wiIn_yes (n lo hi : Int) (w : World) (h1 : lo ≤ n) (h2 : n ≤ hi) :
    Calls Try.prog 14 #[.int .i64 n, .int .i64 lo, .int .i64 hi] w fun e w' => e = .returned (.bool true) ∧ w' = w := by
  have hd : decide (n ≤ hi) = true := by simp; omega
  have hd2 : decide (lo ≤ n) = true := by simp; omega
  go_enter Try.func14, Try.ntmps14
  go_wp2
  go_ret
  exact ⟨rfl, rfl⟩

set_option maxHeartbeats 400000 in
theorem drawWoven_any (a : Option Addr) (len cap : Nat) (w : World) (h : Code8 w a len cap) :
    Calls Try.prog 12 #[.slice a len cap] w fun e w' => (∃ x : Nat, e = .returned (.int .i64 (x : Int)) ∧ x ≤ 21) ∧ Below w.heap.size w w' := by
  go_enter Try.func12, Try.ntmps12
  go_wp2_with fail
  refine (open_any a len cap w h).mono ?_
  rintro e w1 ⟨rfl, hR, bel⟩
  clear h
  go_wp2_with fail
  refine (pick_named w.heap.size 0 22 _ hR (by omega) (by omega) (by omega)).mono ?_
  rintro e w2 ⟨x, rfl, hx, hR2, hO2, hs2⟩
  have bel2 := bel.trans hO2.below
  clear hR bel hO2 hs2 hR2
  go_wp2_with fail
  go_ret
  exact ⟨⟨x, rfl, by omega⟩, bel2⟩

/-- which rows were seen: those of the first k places -/
def SeenI (w : World) (b H k : Nat) : Prop := b < w.heap.size ∧ ∀ j, j < H → ∃ x : Bool, w.cell? ⟨b, j, none⟩ = some (.bool x) ∧ w.frozen? ⟨b, j, none⟩ = false ∧ (x = true → ∃ i, i < k ∧ Wv.at_ H i = j)

theorem SeenI.put {w : World} {b H k : Nat} (h : SeenI w b H k) : SeenI (w.setCell ⟨b, Wv.at_ H k, none⟩ (.bool true)) b H (k + 1) := by
  refine ⟨by rw [World.size_setCell]; exact h.1, fun j hj => ?_⟩
  obtain ⟨x, hx, hf, hi⟩ := h.2 j hj
  by_cases e : j = Wv.at_ H k
  · subst e
    exact ⟨true, World.cell?_setCell_same _ _ _ hx, by rw [World.frozen?_setCell]; exact hf, fun _ => ⟨k, by omega, rfl⟩⟩
  · refine ⟨x, ?_, by rw [World.frozen?_setCell]; exact hf, fun hx => ?_⟩
    · rw [World.cell?_setCell_other _ _ _ _ (fun q => e (congrArg Addr.off q).symm)]; exact hx
    · obtain ⟨i, h1, h2⟩ := hi hx; exact ⟨i, by omega, h2⟩

theorem info_bool : (Try.prog.info? 4).map (fun i => (i.zero, i.size, i.bytes)) = some (some (.bool false), 1, 1) := by kernel_rfl

theorem make_bools (n : Nat) (hl : n ≤ 2000000) (w : World) : ∃ w2, (Instr.makeSlice 29 (.int .i64 (n : Int)) (.int .i64 (n : Int))).run Try.prog w = .ok (.slice (some ⟨w.heap.size, 0, none⟩) n n) w2 ∧
    SeenI w2 w.heap.size n 0 ∧ Below w.heap.size w w2 ∧ w2.heap.size = w.heap.size + 1 := by
  obtain ⟨i0, hi, hz0, hz1, hz2⟩ := info_parts info_bool
  have h := run_make (P := Try.prog) w 29 4 i0 (.bool false) Try.underlying29 hi hz0 .i64 .i64 (n : Int) (n : Int) (by omega) (by omega) (by rw [hz2]; omega) (by omega)
  rw [Int.toNat_natCast, hz1] at h
  refine ⟨_, h, ⟨by simp, fun j hj => ⟨false, ?_, ?_, fun e => by cases e⟩⟩, (Below.refl _ _).alloc (Nat.le_refl _) _, by simp⟩
  · rw [World.cell?_alloc_at _ _ _ _ rfl]
    show (madeCells #[Value.bool false] (n * 1))[j]? = _
    unfold madeCells
    simp [hj, Nat.mod_one]
  · rw [World.frozen?_alloc_at _ _ _ _ rfl]

theorem owns_block {w : World} {a : Option Addr} {l : List Int} (h : Ints w a l) (hl : 0 < l.length) : ∃ b off, a = some ⟨b, off, none⟩ ∧ b < w.heap.size ∧ ∀ k, k < l.length → w.cell? ⟨b, off + k, none⟩ = some (.int .i64 (l.getD k 0)) := by
  rcases h with e | ⟨b, off, rfl, hb, hc⟩
  · rw [e] at hl; simp at hl
  · exact ⟨b, off, rfl, hb, fun k hk => by rw [hc k hk, List.getD_eq_getElem?_getD, List.getElem?_eq_getElem hk]; rfl⟩

set_option maxHeartbeats 4000000 in
set_option maxRecDepth 20000 in
theorem lawWovenRows (a : Option Addr) (len cap : Nat) (w : World) (h : Code8 w a len cap) :
    Calls Try.prog 4 #[.slice a len cap] w fun e w' => e = .returned (.bool true) ∧ Below w.heap.size w w' := by
  by_cases hbig : 1048576 < len
  · have hc := h.2.1
    have hc1 := h.1
    unfold maxLen at hc
    clear h
    go_enter Try.func4, Try.ntmps4
    go_wp2_with fail
    go_ret
    exact ⟨rfl, Below.refl _ _⟩
  · go_enter Try.func4, Try.ntmps4
    go_wp2_with fail
    refine (drawWoven_any a len cap w h).mono ?_
    rintro e w1 ⟨⟨H, rfl, hH⟩, b1⟩
    clear h
    obtain ⟨L, hL⟩ : ∃ L, L = Wv.all (H : Int) := ⟨_, rfl⟩
    obtain ⟨n, hn⟩ : ∃ n, n = L.length := ⟨_, rfl⟩
    have hlen : L.length = n := hn.symm
    have hn1 : n ≤ 112 := by rw [hn, hL]; exact Wv.all_len _
    have HSP : Hid (∀ w : World, Calls Try.prog 7 #[.int .i64 (H : Int)] w fun e w' => (∃ ao cap, e = .returned (.slice ao n cap) ∧ Ints w' ao L) ∧ Below w.heap.size w w') := fun w => by rw [hn, hL]; exact spec_woven _ w
    have HIM : Hid (∀ w : World, Calls Try.prog 8 #[.int .i64 (H : Int)] w fun e w' => (∃ ao cap, e = .returned (.slice ao n cap) ∧ Owns w' w.heap.size ao L) ∧ Below w.heap.size w w') := fun w => by rw [hn, hL]; exact impl_woven _ w
    have HEQ : Hid (∀ (a : Option Addr) (ca : Nat) (b : Option Addr) (cb : Nat) (w : World), Ints w a L → Ints w b L → Calls Try.prog 13 #[.slice a n ca, .slice b n cb] w fun e w' => e = .returned (.bool true) ∧ Below w.heap.size w w') := fun a ca b cb w h1 h2 => by
      refine (wiInts_same a ca b cb n L w h1 h2 hlen (by omega)).mono ?_
      rintro e w' ⟨rfl, m, rfl⟩
      exact ⟨rfl, drewN_below _ _⟩
    have HNL : Hid (n = L.length ∧ L = Wv.all (H : Int)) := ⟨hn, hL⟩
    clear hn hL hlen
    go_wp2_with fail
    refine (HIM.out _).mono ?_
    rintro e w2 ⟨⟨a1, c1, rfl, hO1⟩, b2⟩
    have I2 : Hid (Ints w2 a1 L) := hO1.ints
    have bel2 : Below w.heap.size w w2 := b1.trans (b2.mono b1.size)
    clear b1 b2 hO1 HIM
    go_wp2_with fail
    refine (HSP.out _).mono ?_
    rintro e w3 ⟨⟨a3, c3, rfl, hI3⟩, b3⟩
    have I3 : Hid (Ints w3 a1 L ∧ Ints w3 a3 L) := ⟨I2.out.kept b3, hI3⟩
    have bel3 : Below w.heap.size w w3 := bel2.trans (b3.mono bel2.size)
    clear b3 hI3 bel2 I2
    go_wp2_with fail
    refine (HEQ.out a1 c1 a3 c3 w3 I3.out.1 I3.out.2).mono ?_
    rintro e w4 ⟨rfl, b4⟩
    have I4 : Hid (Ints w4 a1 L) := I3.out.1.kept b4
    have bel4 : Below w.heap.size w w4 := bel3.trans (b4.mono bel3.size)
    clear b4 bel3 I3
    by_cases hz : 1 ≤ H ∧ H ≤ 20
    · have HF := Wv.facts H hz
      have hnH : n = H := by rw [HNL.out.1, HNL.out.2, Wv.all_yes H hz]; exact HF.1
      have hLr : L = Wv.rows H 4 := by rw [HNL.out.2, Wv.all_yes H hz]
      have hlenH : L.length = H := by rw [hLr]; exact HF.1
      subst hnH
      obtain ⟨lb, off, rfl, hlb, hcell⟩ := owns_block I4.out (by omega)
      have HC : Hid (∀ k, k < n → w4.cell? ⟨lb, off + k, none⟩ = some (.int .i64 ((Wv.at_ n k : Nat) : Int))) := fun k hk => by
        rw [hcell k (by omega), hLr, (HF.2 k hk).1]
      have HF2 : Hid (∀ k, k < n → Wv.at_ n k < n ∧ (∀ j, j < k → Wv.at_ n j ≠ Wv.at_ n k) ∧ (k < (n + 7) / 8 → Wv.at_ n k = 8 * k)) := fun k hk => (HF.2 k hk).2
      obtain ⟨w5, hmk, hS, b5, s5⟩ := make_bools n (by omega) w4
      have hnz : ((n : Int) == 0) = false := by rw [beq_eq_false_iff_ne]; omega
      have HS : Hid (SeenI w5 w4.heap.size n 0) := hS
      have HB5 : Hid (Below w4.heap.size w4 w5) := b5
      clear hcell I4 HF HNL hLr hlenH HEQ HSP hS b5
      go_wp2_with fail
      clear hmk
      go_loopw [6] (fun i wr => ∃ k : Nat, k ≤ n ∧ i = .int .i64 k ∧ SeenI wr w4.heap.size n k ∧ Below w4.heap.size w4 wr) (fun i _ => n - (intOf i).toNat)
      case atStart => exact ⟨0, Nat.zero_le _, rfl, HS.out, HB5.out⟩
      case round =>
        obtain ⟨k, hk, rfl, hSk, hbk⟩ := hrel
        by_cases hlt : k < n
        · obtain ⟨f1, f2, f3⟩ := HF2.out k hlt
          have hck := (hbk.cell (p := ⟨lb, off + k, none⟩) hlb).trans (HC.out k hlt)
          obtain ⟨x, hx, hfr, hxi⟩ := hSk.2 _ f1
          have hxf : x = false := by
            cases x
            · rfl
            · obtain ⟨i, hi, he⟩ := hxi rfl
              exact absurd he (f2 i hi)
          rw [hxf] at hx
          have HP : Hid (SeenI (wr.setCell ⟨w4.heap.size, Wv.at_ n k, none⟩ (.bool true)) w4.heap.size n (k + 1) ∧ Below w4.heap.size w4 (wr.setCell ⟨w4.heap.size, Wv.at_ n k, none⟩ (.bool true))) := ⟨hSk.put, hbk.setCell (Nat.le_refl _) _⟩
          clear hSk hbk hxi hxf HF2 HC f2
          generalize Wv.at_ n k = y at *
          have hki : (k : Int) < (n : Int) := by omega
          have HW : Hid (∀ w : World, Calls Try.prog 14 #[.int .i64 (y : Int), .int .i64 0, .int .i64 ((n : Int) - 1)] w fun e w' => e = .returned (.bool true) ∧ w' = w) := fun w => wiIn_yes _ _ _ w (by omega) (by omega)
          have hyn : (y : Int) < (n : Int) := by omega
          by_cases h8 : k < (n + 7) / 8
          · have hy8 : y = 8 * k := f3 h8
            have d8 : decide ((k : Int) < ((n : Int) + 7) / 8) = true := by simp; omega
            have e8 : ((y : Int) != 8 * (k : Int)) = false := by simp; omega
            clear f3 hy8
            go_wp2_with fail
            refine (HW.out _).mono ?_
            rintro e w6 ⟨rfl, hw⟩
            replace hw := hw.symm
            subst hw
            go_wp2_with fail
            go_roundw
            case rel => exact ⟨k + 1, by omega, by go_num, HP.out⟩
            case measure => simp [intOf]; omega
          · have d8 : decide ((k : Int) < ((n : Int) + 7) / 8) = false := by simp; omega
            clear f3
            go_wp2_with fail
            refine (HW.out _).mono ?_
            rintro e w6 ⟨rfl, hw⟩
            replace hw := hw.symm
            subst hw
            go_wp2_with fail
            go_roundw
            case rel => exact ⟨k + 1, by omega, by go_num, HP.out⟩
            case measure => simp [intOf]; omega
        · have bel := bel4.trans (hbk.mono bel4.size)
          clear hSk hbk
          go_wp2_with fail
          go_ret
          exact ⟨rfl, bel⟩
    · have hn0 : n = 0 := by rw [HNL.out.1, HNL.out.2, Wv.all_no (by omega)]; rfl
      subst hn0
      go_wp2_with fail
      refine (HSP.out _).mono ?_
      rintro e w5 ⟨⟨a5, c5, rfl, hI5⟩, b5⟩
      have I5 : Hid (Ints w5 a1 L ∧ Ints w5 a5 L) := ⟨I4.out.kept b5, hI5⟩
      have bel5 : Below w.heap.size w w5 := bel4.trans (b5.mono bel4.size)
      clear b5 hI5 bel4 I4
      go_wp2_with fail
      refine (HEQ.out a1 c1 a5 c5 w5 I5.out.1 I5.out.2).mono ?_
      rintro e w6 ⟨rfl, b6⟩
      have bel := bel5.trans (b6.mono bel5.size)
      clear b6 bel5 I5
      go_wp2_with fail
      go_ret
      exact ⟨rfl, bel⟩
end Go.Proofs.Ytoeekanmhnbgfaa
