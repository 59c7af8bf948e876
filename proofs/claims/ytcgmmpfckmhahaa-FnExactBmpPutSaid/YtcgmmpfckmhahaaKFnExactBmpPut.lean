/- Texts laid together: TgLow, ReMath, IterMem, BmRows, ImplFlip, BmMath, TgSmall, TgDense, ColWalks, ColSpec, ColRule, ColTop, ColSeen, PixView, BkMath, BkSpec, RtSpec, RnImplI, RnWent, RnIterI, RoundReg, RtImpl, ExRunPut, TgData, TgImpl, CoreTga, TgTop, TgSpecTop. -/
import Derived.Test.YtcgmmpfckmhahaaRtText
import Derived.Test.YtcgmmpfckmhahaaBitRow
import Derived.Test.YtcgmmpfckmhahaaAppOne
import Derived.Test.YtcgmmpfckmhahaaBlankSpec
import Derived.Test.YtcgmmpfckmhahaaPicLaw
import Derived.Test.YtcgmmpfckmhahaaRnMath
import Derived.Test.YtcgmmpfckmhahaaRtMath
import Derived.Test.YtcgmmpfckmhahaaPtsWalks
import Derived.RangeFuncWrites
import Derived.Test.YtcgmmpfckmhahaaIntsWalks
import Derived.Laws.Tables
import Derived.Test.YtcgmmpfckmhahaaDrawnWalks
import Derived.Test.YtcgmmpfckmhahaaPlainView
import Derived.Test.YtcgmmpfckmhahaaImgOk3
import Derived.Test.YtcgmmpfckmhahaaImgSpec3
import Derived.Test.YtcgmmpfckmhahaaInWalks
import Derived.Laws.BitsAllLaws
import Derived.Deep.DeepCutAuto
import Derived.Test.YtcgmmpfckmhahaaWithinWalks
import Derived.Test.YtcgmmpfckmhahaaBoxWalks
import Derived.Deep.RegionHeld3
import Derived.Test.YtcgmmpfckmhahaaPowWalks
import Derived.Test.YtcgmmpfckmhahaaDepWalks
import Derived.Laws.EntriesVeiled
import Derived.Test.YtcgmmpfckmhahaaAtWalks
import Derived.Test.YtcgmmpfckmhahaaBase
import Derived.Test.YtcgmmpfckmhahaaStrWalks
import Derived.Deep.RegionHeld
import Derived.RangeFuncBox
import Derived.RangeFuncNested
import Derived.RangeFuncBound
import Derived.RangeFuncCalls
import Derived.RangeFuncLeaves
import Derived.Shelf.Abstract
import Derived.Shelf.RegionOpen
import Derived.WalkKit
import Derived.OwnWalkIn
import Derived.TacticsInMore
import Derived.LoopNIn
import Derived.LoopIn
import Derived.Test.YtcgmmpfckmhahaaProg
import Derived.Maps.AppendAt
import Derived.Test.YtcgmmpfckmhahaaRow64
/- Numbers of a head, one behind the other, and lists of numbers as text: low parts of TGA and BMP, of both. -/
namespace Go.Proofs.Ytcgmmpfckmhahaa
open Go.RowKit

/-- numbers, each in so many bytes, the lowest first -/
def Tg.txt (l : List (Int × Int)) : List UInt8 := l.flatMap fun z => Pt.low z.1.toNat z.2.toNat
theorem Tg.txt_snoc (l : List (Int × Int)) (z : Int × Int) : Tg.txt (l ++ [z]) = Tg.txt l ++ Pt.low z.1.toNat z.2.toNat := by simp [Tg.txt]
/-- each fits into its bytes -/
def Tg.Fit (l : List (Int × Int)) : Prop := ∀ z ∈ l, 0 ≤ z.1 ∧ 1 ≤ z.2 ∧ z.2 ≤ 4 ∧ z.1 < ((256 ^ z.2.toNat : Nat) : Int)

set_option maxHeartbeats 1000000 in
theorem numberText_nil (a : Option Addr) (cap S : Nat) (w : World) :
    Calls Try.prog 20 #[.slice a 0 cap, .int .i64 (S : Int), .bool false] w fun e w' => e = .returned (.string ⟨#[]⟩) ∧ Below w.heap.size w w' := by
  go_enter Try.func20, Try.ntmps20
  go_wp2_with fail
  have htx := (ownT_nil w w.heap.size).text
  go_loop [7, 12] (fun v i => v = .slice none 0 0 ∧ i = .int .i64 0) (fun _ _ => 0)
  case atStart => exact ⟨rfl, rfl⟩
  case round =>
    obtain ⟨rfl, rfl⟩ := hrel
    go_wp2_with fail
    go_ret
    exact ⟨rfl, Below.refl _ _⟩
theorem numberText_ints (a : Option Addr) (n cap S : Nat) (l : List Int) (w : World) (hl : Ints w a l) (hn : l.length = n) (hnb : n ≤ 1000) (hS1 : 1 ≤ S) (hS : S ≤ 4) (hf : Rt.fit S l = true) :
    Calls Try.prog 20 #[.slice a n cap, .int .i64 (S : Int), .bool false] w fun e w' => e = .returned (.string ⟨(Rt.txt S l).toArray⟩) ∧ Below w.heap.size w w' := by
  rcases hl with rfl | ⟨b, off, rfl, hb, hc⟩
  · subst hn
    exact numberText_nil a cap S w
  · exact numberText_any b off cap n S l w ⟨hb, hc⟩ hn hnb hS1 hS hf

set_option maxHeartbeats 1000000 in
theorem l11Colors_any (a : Option Addr) (n cap S : Nat) (l : List Int) (w : World) (hl : Ints w a l) (hn : l.length = n) (hnb : n ≤ 1000) (hS : S ≤ 4) (hf : Rt.fit S l = true) :
    Calls Try.prog 40 #[.slice a n cap, .int .i64 (S : Int)] w fun e w' => e = .returned (.string ⟨(Rt.txt S l).toArray⟩) ∧ Below w.heap.size w w' := by
  have HI : Hid (Ints w a l) := hl
  have HN : Hid (l.length = n) := hn
  have HF : Hid (Rt.fit S l = true) := hf
  clear hl hn hf
  go_enter Try.func40, Try.ntmps40
  go_wp2_with fail
  go_loopw [5, 6] (fun o i wr => ∃ (k : Nat) (q : List UInt8), k ≤ n ∧ i = .int .i64 (k : Int) ∧ Hid (q = Rt.txt S (l.take k)) ∧ q.length ≤ 4 * k ∧ o = .string ⟨q.toArray⟩ ∧ Below w.heap.size w wr) (fun _ i _ => n - (intOf i).toNat)
  case atStart => exact ⟨0, [], Nat.zero_le _, rfl, rfl, by simp, rfl, Below.refl _ _⟩
  case round =>
    obtain ⟨k, q, hk, rfl, HQ, hql, rfl, hbel⟩ := hrel
    have hbs := hbel.size
    by_cases hlt : k < n
    · have hkl : k < l.length := by rw [HN.out]; exact hlt
      rcases HI.out with e | ⟨b, off, rfl, hb, hc⟩
      · rw [e] at hkl; simp at hkl
      · have hcx := (hbel.cell (p := ⟨b, off + k, none⟩) hb).trans (hc k hkl)
        obtain ⟨hz0, hz1⟩ := Rt.fit_at HF.out k hkl
        have HT : Hid (Rt.txt S (l.take (k + 1)) = Rt.txt S (l.take k) ++ Pt.low (l[k]).toNat S) := by
          show _ = _
          rw [List.take_succ_eq_append_getElem hkl, Rt.txt_snoc]
        generalize l[k] = z at *
        obtain ⟨N, rfl⟩ := Int.eq_ofNat_of_zero_le hz0
        rw [Int.toNat_natCast] at HT
        have hN : N ≤ 4294967295 := by have := pow_le4 hS; omega
        have HC : Hid (∀ w : World, Calls Try.prog 38 #[.int .i64 (N : Int), .int .i64 (S : Int), .bool false] w fun e w' => e = .returned (.string ⟨(Pt.low N S).toArray⟩) ∧ Below w.heap.size w w') := fun w => l1Num_low N S w hN hS
        have HP : Hid ((Pt.low N S).length = S) := Pt.low_len S N
        have hi1 : (k : Int) < (n : Int) := by omega
        generalize Pt.low N S = p at *
        have hpl : p.length ≤ 4 := by have := HP.out; omega
        have HS2 : Hid (ByteArray.mk q.toArray ++ ByteArray.mk p.toArray = ByteArray.mk (q ++ p).toArray) := ByteArray.mk_append_mk q p
        have hsz : (ByteArray.mk q.toArray).size = q.length := by simp [ByteArray.size]
        have hsp : (ByteArray.mk p.toArray).size = p.length := by simp [ByteArray.size]
        clear hz0 hz1 hc
        go_wp2_with fail
        refine (HC.out _).mono ?_
        rintro e w1 ⟨rfl, b1⟩
        have HB : Hid (Below w.heap.size w w1) := hbel.trans (b1.mono hbs)
        clear HC b1 hbel hbs hcx
        go_wp2_with fail
        go_roundw
        case rel => exact ⟨k + 1, q ++ p, by omega, by go_num, by show _ = _; rw [HT.out, HQ.out], by rw [List.length_append]; omega, by rw [HS2.out], HB.out⟩
        case measure => simp [intOf]; omega
    · have HE : Hid (q = Rt.txt S l) := by
        show _ = _
        rw [HQ.out, List.take_of_length_le (by rw [HN.out]; omega)]
      have hi1 : ¬ (k : Int) < (n : Int) := by omega
      clear HQ
      go_wp2_with fail
      go_ret
      exact ⟨by rw [← HE.out]; rfl, hbel⟩

set_option maxHeartbeats 1000000 in
theorem fieldText_any (b off cap n : Nat) (l : List (Int × Int)) (w : World) (hl : Bits2 w (some ⟨b, off, none⟩) l) (hn : l.length = n) (hnb : n ≤ 100) (hf : Tg.Fit l) :
    Calls Try.prog 19 #[.slice (some ⟨b, off, none⟩) n cap] w fun e w' => e = .returned (.string ⟨(Tg.txt l).toArray⟩) ∧ Below w.heap.size w w' := by
  have HL : Hid (Bits2 w (some ⟨b, off, none⟩) l) := hl
  have HN : Hid (l.length = n) := hn
  have HF : Hid (Tg.Fit l) := hf
  clear hl hn hf
  go_enter Try.func19, Try.ntmps19
  go_wp2_with fail
  go_loopw [3, 8] (fun v i wr => ∃ (k m : Nat) (q : List UInt8), k ≤ n ∧ i = .int .i64 (k : Int) ∧ Hid (q = Tg.txt (l.take k)) ∧ m ≤ 4 * k ∧ OwnT wr w.heap.size v m q ∧ Below w.heap.size w wr) (fun _ i _ => n - (intOf i).toNat)
  case atStart => exact ⟨0, 0, [], Nat.zero_le _, rfl, rfl, Nat.zero_le _, ownT_nil _ _, Below.refl _ _⟩
  case round =>
    obtain ⟨k, m, q, hk, rfl, HQ, hm, hown, hbel⟩ := hrel
    have hbs := hbel.size
    by_cases hlt : k < n
    · have hkl : k < l.length := by rw [HN.out]; exact hlt
      obtain ⟨b', off', e, hb, c1, c2⟩ := HL.out.at hkl
      cases e
      have hc1 := (hbel.cell (p := ⟨b, off + k * 2, none⟩) hb).trans c1
      have hc2 := (hbel.cell (p := ⟨b, off + k * 2 + 1, none⟩) hb).trans c2
      obtain ⟨hz0, hz1, hz2, hz3⟩ := HF.out l[k] (List.getElem_mem hkl)
      have HT : Hid (Tg.txt (l.take (k + 1)) = Tg.txt (l.take k) ++ Pt.low (l[k]).1.toNat (l[k]).2.toNat) := by
        show _ = _
        rw [List.take_succ_eq_append_getElem hkl, Tg.txt_snoc]
      generalize l[k] = z at *
      obtain ⟨z1, z2⟩ := z
      simp only at hz0 hz1 hz2 hz3 hc1 hc2 HT
      obtain ⟨N, rfl⟩ := Int.eq_ofNat_of_zero_le hz0
      obtain ⟨S, rfl⟩ := Int.eq_ofNat_of_zero_le (show 0 ≤ z2 by omega)
      rw [Int.toNat_natCast, Int.toNat_natCast] at HT
      rw [Int.toNat_natCast] at hz3
      have HC : Hid (∀ w : World, Calls Try.prog 46 #[.int .i64 (N : Int), .int .i64 (S : Int), .bool false] w fun e w' => e = .returned (.string ⟨(Pt.low N S).toArray⟩) ∧ Below w.heap.size w w') := fun w => impl_numPut_low N S w (by omega) (by omega) (by omega)
      have HP : Hid ((Pt.low N S).length = S) := Pt.low_len S N
      have hS4 : S ≤ 4 := by omega
      generalize Pt.low N S = p at *
      clear hz0 hz1 hz2 hz3 c1 c2
      have hmb : m ≤ 400 := by omega
      have bA : Below wr.heap.size wr (wr.alloc (.cells #[.int .i64 (N : Int), .int .i64 (S : Int)] 39)) := (Below.refl _ _).alloc (Nat.le_refl _) _
      go_wp2_with fail
      refine (HC.out _).mono ?_
      rintro e w1 ⟨rfl, b1⟩
      clear HC
      have b01 : Below wr.heap.size wr w1 := bA.trans (b1.mono bA.size)
      have hown1 := hown.kept b01
      have hbel1 : Below w.heap.size w w1 := hbel.trans (b01.mono hbs)
      have hbs1 := hbel1.size
      clear hown hbel b1 bA b01
      go_wp2_with (at_builtin; refine wpList_appTs w1 (by rfl) _ _ (by rfl) w.heap.size _ m q p (by rfl) hown1 (by rfl) (by have := HP.out; omega) hbs1 ?_)
      intro v5 w5 hown5 hstep
      have HO : Hid (OwnT w5 w.heap.size v5 (m + p.length) (q ++ p) ∧ Below w.heap.size w w5) := ⟨hown5, hstep _ _ hbel1 (Nat.le_refl _) hbs1⟩
      clear hown1 hown5 hstep hbel1 hbs1 hc1 hc2
      go_wp2_with fail
      go_roundw
      case rel => exact ⟨k + 1, m + p.length, q ++ p, by omega, by go_num, by show _ = _; rw [HT.out, HQ.out], by have := HP.out; omega, HO.out.1, HO.out.2⟩
      case measure => simp [intOf]; omega
    · have hkn : k = n := by omega
      have HE : Hid (q = Tg.txt l) := by
        show _ = _
        rw [HQ.out, List.take_of_length_le (by rw [HN.out]; omega)]
      have htx := hown.text
      clear HQ HL
      go_wp2_with fail
      go_ret
      exact ⟨by rw [← HE.out]; rfl, hbel⟩
end Go.Proofs.Ytcgmmpfckmhahaa

/- Rows packed as BMP does: the mathematics. -/
namespace Go.Proofs.Ytcgmmpfckmhahaa
namespace Re

def piece (l : List Int) (x : Nat × Nat × Bool) : List UInt8 := [UInt8.ofNat x.2.1, UInt8.ofNat (l.getD x.1 0).toNat]
def flat (l : List Int) (xs : List (Nat × Nat × Bool)) : List UInt8 := xs.flatMap (piece l)
theorem flat_snoc (l : List Int) (xs : List (Nat × Nat × Bool)) (x : Nat × Nat × Bool) : flat l (xs ++ [x]) = flat l xs ++ piece l x := by simp [flat]
theorem flat_len (l : List Int) (xs : List (Nat × Nat × Bool)) : (flat l xs).length = 2 * xs.length := by
  induction xs with
  | nil => rfl
  | cons x xs ih => unfold flat at ih ⊢; rw [List.flatMap_cons, List.length_append, ih]; simp [piece]; omega
/-- a row -/
def row (l : List Int) : List UInt8 := flat l (Rn.from_ 1 255 l 0)
theorem row_len (l : List Int) : (row l).length ≤ 2 * l.length := by
  unfold row
  rw [flat_len]
  have := Rn.all_len (least := 1) (m := 255) (l := l) (l.length - 0) 0
  unfold Rn.from_
  omega
theorem size_same {l : List Int} (h : 0 < l.length) : Rn.size 1 255 l = Rn.same l 255 := by
  have := Rn.same_pos (m := 255) h (by omega)
  unfold Rn.size
  rw [if_pos (by omega)]
theorem again_yes {l : List Int} (h : 0 < l.length) : Rn.again 1 255 l = true := by
  have := Rn.same_pos (m := 255) h (by omega)
  unfold Rn.again
  exact decide_eq_true (by omega)

/-- rows are right -/
def okRow (l : List Int) : Bool := decide (l.length ≤ 100) && Rt.fit 1 l
def ok (ls : List (List Int)) : Bool := decide (ls.length ≤ 100) && ls.all okRow
/-- the first so many rows, a nought and a nought between -/
def part : List (List Int) → List UInt8
  | [] => []
  | [l] => row l
  | l :: m :: ls => row l ++ [0, 0] ++ part (m :: ls)
theorem part_snoc (ls : List (List Int)) (l : List Int) (h : ls ≠ []) : part (ls ++ [l]) = part ls ++ [0, 0] ++ row l := by
  induction ls with
  | nil => exact absurd rfl h
  | cons a ls ih =>
    cases ls with
    | nil => simp [part]
    | cons b ls =>
      have := ih (by simp)
      rw [List.cons_append, List.cons_append, part, ← List.cons_append, this, part]
      simp [List.append_assoc]
theorem part_len : ∀ (ls : List (List Int)), (∀ l ∈ ls, l.length ≤ 100) → (part ls).length ≤ 202 * ls.length
  | [], _ => Nat.le_refl _
  | [l], h => by
    have := row_len l
    have := h l (by simp)
    rw [part]; simp; omega
  | l :: m :: ls, h => by
    have h1 := row_len l
    have h2 := h l (by simp)
    have h3 := part_len (m :: ls) (fun x hx => h x (by simp at hx ⊢; exact .inr hx))
    rw [part, List.length_append, List.length_append]
    simp at h3 ⊢
    omega
/-- the answer -/
def all (ls : List (List Int)) : List UInt8 := if ok ls = true then part ls ++ [0, 1] else []
theorem all_bad {ls : List (List Int)} (k : Nat) (hk : k < ls.length) (h : okRow ls[k] = false) : all ls = [] := by
  unfold all
  rw [if_neg]
  unfold ok
  intro e
  simp only [Bool.and_eq_true, List.all_eq_true] at e
  have := e.2 _ (List.getElem_mem hk)
  rw [h] at this
  exact absurd this (by decide)
theorem all_many {ls : List (List Int)} (h : 100 < ls.length) : all ls = [] := by
  unfold all
  rw [if_neg]
  unfold ok
  intro e
  simp only [Bool.and_eq_true, decide_eq_true_eq] at e
  omega
theorem all_good {ls : List (List Int)} (hn : ls.length ≤ 100) (h : ∀ l ∈ ls, okRow l = true) : all ls = part ls ++ [0, 1] := by
  unfold all
  rw [if_pos]
  unfold ok
  simp only [Bool.and_eq_true, decide_eq_true_eq, List.all_eq_true]
  exact ⟨hn, h⟩
/-- what stands behind so many rows, if more come -/
def sep (k n : Nat) : List UInt8 := if 0 < k ∧ k < n then [0, 0] else []
theorem part_step {ls : List (List Int)} {k : Nat} (hk : k < ls.length) : part (ls.take k) ++ sep k ls.length ++ row ls[k] = part (ls.take (k + 1)) := by
  rw [List.take_succ_eq_append_getElem hk]
  unfold sep
  by_cases h0 : k = 0
  · subst h0
    rw [if_neg (by omega)]
    simp [part]
  · rw [if_pos ⟨by omega, hk⟩, part_snoc _ _ (by intro e; have := congrArg List.length e; rw [List.length_take, List.length_nil] at this; omega)]
theorem okRow_len {l : List Int} (h : okRow l = true) : l.length ≤ 100 := by
  unfold okRow at h
  simp only [Bool.and_eq_true, decide_eq_true_eq] at h
  exact h.1
theorem okRow_fit {l : List Int} (h : okRow l = true) : Rt.fit 1 l = true := by
  unfold okRow at h
  simp only [Bool.and_eq_true, decide_eq_true_eq] at h
  exact h.2
theorem okRow_yes {l : List Int} (h : l.length ≤ 100) (hf : ∀ i (hi : i < l.length), 0 ≤ l[i] ∧ l[i] ≤ 255) : okRow l = true := by
  unfold okRow
  simp only [Bool.and_eq_true, decide_eq_true_eq]
  refine ⟨h, Rt.fit_yes fun i hi => ?_⟩
  have e : ((256 ^ 1 : Nat) : Int) = 256 := by decide
  rw [e]
  have := hf i hi
  omega
theorem okRow_long {l : List Int} (h : 100 < l.length) : okRow l = false := by
  unfold okRow
  rw [decide_eq_false (by omega), Bool.false_and]
theorem okRow_no {l : List Int} (i : Nat) (hi : i < l.length) (h : ¬ (0 ≤ l[i] ∧ l[i] ≤ 255)) : okRow l = false := by
  unfold okRow
  rw [Rt.fit_no i hi (by have e : ((256 ^ 1 : Nat) : Int) = 256 := by decide
                         rw [e]; omega), Bool.and_false]
end Re
end Go.Proofs.Ytcgmmpfckmhahaa

/- A range over a func whose iterator hands out what lies in memory: a law of its own (the iterator makes new memory between the rounds, and nothing else). -/
namespace Go.Proofs.Ytcgmmpfckmhahaa
open Go.RowKit Go.Shelf

/-- the iterator's word: what comes lies in memory when it comes; between the rounds only new memory is made -/
def Brings {α : Type} (n : Nat) (gf : Nat) (lb : Array Value) (encs : α → Array Value) (Mem : α → World → Prop) (n₀ : Nat) (S : List α → Prop) (N : Nat) (w : World) : Prop :=
  ∀ (l : Nat) (J : List α → World → Prop) (W : World), Below n₀ w W → n₀ ≤ W.heap.size →
    (∀ pre X Y, J pre X → Below X.heap.size X Y → J pre Y) →
    (∀ pre x W1, J pre W1 → Mem x W1 → W.heap.size ≤ W1.heap.size → pre.length < N → YieldAt Fence.wide (n - 1) Try.prog l (encs x) W1 fun e W' => e = .returned (.bool true) ∧ J (pre ++ [x]) W' ∧ Below n₀ W1 W') →
    J [] W →
    CallsIn Fence.wide n Try.prog gf (#[.func (.yield l) #[] #[]] ++ lb) W fun e W' => (∃ v, e = .returned v) ∧ ∃ xs, S xs ∧ J xs W'

/-- how a round must be left -/
def memPost {α : Type} (B n₀ : Nat) (I : List α → World → Prop) (xs : List α) (W : World) : Exit → Act → World → Prop
  | .normal, _, W' => KeepsFrom B W W' ∧ Below n₀ W W' ∧ I xs W'
  | _, _, _ => False

theorem below_putObj {n₀ l : Nat} (W : World) (o' : Obj) (h : n₀ ≤ l) : Below n₀ W (W.putObj l o') :=
  ⟨rfl, rfl, rfl, by simp, fun k hk => World.putObj_heap_other (by omega)⟩

set_option maxHeartbeats 1000000 in
theorem rangeMem {α : Type} {g : Operand} {ps : Array Tmp} {assign body : Code} {Q : Exit → Act → World → Prop} {a : Act} {w : World} {n : Nat}
    (h1 : 1 ≤ n) {gf : Nat} {lb : Array Value} (hg : a.eval g = .func (.func gf) #[] lb) (eg : ∀ args w, (callFunc gf args).run Try.prog w = .ok (.enter gf args) w)
    {encs : α → Array Value} {Mem : α → World → Prop} {n₀ : Nat} {S : List α → Prop} {N : Nat} {w0 : World} (hseq : Brings (n - 1) gf lb encs Mem n₀ S N w0)
    (hb0 : Below n₀ w0 w) (hn₀ : n₀ ≤ w.heap.size) (hps : ∀ x, (encs x).size = ps.size)
    (hMem : ∀ (x : α) (W : World) (l : Nat) (o o' : Obj), Mem x W → W.heap[l]? = some o → o.isCells = false → Mem x (W.putObj l o'))
    (I : List α → World → Prop) (hI : OwnFrom w.heap.size I) (h0 : I [] w) (a₁ : α → Act)
    (hassign : ∀ (l : Nat) (x : α) (W : World) (K : Act → World → Prop), K (a₁ x) W →
      assign.wpIn (Fence.wide.inRound l) (n - 1 - 1) Try.prog (Exit.then K (fun _ _ _ => False)) { tmps := (ps.zip (encs x)).foldl (fun t (p, v) => t.setIfInBounds p v) a.tmps, defers := [] } W)
    (hbody : ∀ (l : Nat) (pre : List α) (x : α) (W : World), I pre W → Mem x W → w.heap.size + 2 ≤ W.heap.size → pre.length < N → body.wpIn (Fence.wide.inRound l) (n - 1 - 1) Try.prog (memPost w.heap.size n₀ I (pre ++ [x]) W) (a₁ x) W)
    (hdone : ∀ (D : Nat) (xs : List α) (W : World), w.heap.size ≤ D → S xs → I xs W → W.heap[D]? = some (.deferred (some [])) → Q .normal { a with defers := { target := .collected D, args := #[] } :: a.defers } W) :
    (Code.rangeFunc g ps assign body).wpIn Fence.wide n Try.prog Q a w := by
  have hro : Fence.wide.round = none := rfl
  refine wpIn_rangeFunc ?_
  intro fn hfn
  rw [hro]
  obtain ⟨rec, hrec⟩ : ∃ rec : LoopState → Option Code → Loop, rec = fun st pe => { state := st, pending := pe, fn, tmps := a.tmps, params := ps, assign, body, defers := w.heap.size } := ⟨_, rfl⟩
  obtain ⟨W1, hW1⟩ : ∃ W1, (w.alloc (.deferred (some []))).alloc (.loop (rec .ready none)) = W1 := ⟨_, rfl⟩
  have hL1 : W1.heap[w.heap.size + 1]? = some (.loop (rec .ready none)) := by
    rw [← hW1]; have := heap_alloc_new (w.alloc (.deferred (some []))) (.loop (rec .ready none)); rwa [World.size_alloc] at this
  have hK1 : W1.heap[w.heap.size]? = some (.deferred (some [])) := by
    rw [← hW1]; exact (Below.heap_alloc _ _ _ (by simp)).trans (heap_alloc_new w _)
  have hs1 : W1.heap.size = w.heap.size + 2 := by rw [← hW1, World.size_alloc, World.size_alloc]
  have hI1 : I [] W1 := by rw [← hW1]; exact hI.alloc _ (hI.alloc _ h0)
  have hb1 : Below n₀ w0 W1 := by
    rw [← hW1]; exact hb0.trans ((((Below.refl _ w).alloc (Nat.le_refl _) _).alloc (by simp) _).mono hn₀)
  refine ⟨w.heap.size + 1, [{ target := .collected w.heap.size, args := #[] }], W1, { target := .fn (.func gf) lb, args := #[.func (.yield (w.heap.size + 1)) #[] #[]] }, W1, gf,
    #[.func (.yield (w.heap.size + 1)) #[] #[]] ++ lb, W1, ?_, ?_, ?_, ?_, fun _ => h1, ?_⟩
  · rw [← hW1, hrec]; exact run_enterLoop_outer _ _ _ _ _
  · simp only [resolve, hg]
    simp [go_sem]
  · intro f' hf'; simp [Target.leads] at hf'; subst hf'; trivial
  · simp [invoke, go_sem, eg]
  · refine (hseq (w.heap.size + 1)
      (fun pre W => I pre W ∧ W.heap[w.heap.size + 1]? = some (.loop (rec .ready none)) ∧ W.heap[w.heap.size]? = some (.deferred (some [])))
      W1 hb1 (by omega) ?_ ?_ ⟨hI1, hL1, hK1⟩).mono ?_
    · rintro pre X Y ⟨k1, k3, k4⟩ hb
      exact ⟨hI _ _ _ none k1 (grown_of_below hb) (fun r e => by cases e), (hb.block _ (Array.getElem?_eq_some_iff.1 k3).1).trans k3, (hb.block _ (Array.getElem?_eq_some_iff.1 k4).1).trans k4⟩
    · rintro pre x W ⟨hi, hl, hk⟩ hm hsW hlen
      have hlt : w.heap.size + 1 < W.heap.size := (Array.getElem?_eq_some_iff.1 hl).1
      have hy := run_yield (P := Try.prog) (args := encs x) hl (by rw [hrec]; exact hps x)
      rw [hrec] at hy
      refine ⟨fn, _, assign, body, hy, roundIn_of_wpIn hfn (hassign _ x W _ ⟨_, run_beginRound hl (by rw [hrec]), ?_⟩)⟩
      have hl2 : (W.putObj (w.heap.size + 1) (.loop { rec .ready none with state := .busy })).heap[w.heap.size + 1]? = some (.loop { rec .ready none with state := .busy }) := World.putObj_heap_same hlt
      have hk2 : (W.putObj (w.heap.size + 1) (.loop { rec .ready none with state := .busy })).heap[w.heap.size]? = some (.deferred (some [])) := (World.putObj_heap_other (by omega)).trans hk
      have hw2 : Below n₀ W (W.putObj (w.heap.size + 1) (.loop { rec .ready none with state := .busy })) := below_putObj _ _ (by omega)
      refine wpIn_mono (hbody _ pre x _ (hI.putObj _ hi (by omega) hl rfl) (hMem x W _ _ _ hm hl rfl) (by simp; omega) hlen) ?_
      rintro e a3 W3 hp
      cases e with
      | normal =>
        obtain ⟨hk3, hb3, hi3⟩ := hp
        have hl3 := hk3.same _ _ (by omega) hl2 rfl
        have hr := run_endRound (P := Try.prog) none hl3
        have hr' : (Instr.endRound (w.heap.size + 1) none).run Try.prog W3 = .ok (.bool true) (W3.putObj (w.heap.size + 1) (.loop (rec .ready none))) := by rw [hrec] at hr ⊢; exact hr
        refine ⟨_, _, hr', rfl, ⟨hI.putObj _ hi3 (by omega) hl3 rfl, World.putObj_heap_same (Array.getElem?_eq_some_iff.1 hl3).1, (World.putObj_heap_other (by omega)).trans (hk3.same _ _ (Nat.le_refl _) hk2 rfl)⟩, ?_⟩
        exact (hw2.trans hb3).trans (below_putObj _ _ (by omega))
      | ret => exact hp.elim
      | exit id => exact hp.elim
      | goto t => exact hp.elim
      | panic ch => exact hp.elim
      | outgrown => exact hp.elim
    · rintro e W2 ⟨⟨v, rfl⟩, xs, hS, hi, hl, hk⟩
      exact ⟨none, _, by have := run_endLoop (P := Try.prog) hl (by rw [hrec]; simp); rw [hrec] at this; exact this, hdone _ xs _ (Nat.le_refl _) hS (hI.putObj _ hi (by omega) hl rfl) ((World.putObj_heap_other (by omega)).trans hk)⟩
end Go.Proofs.Ytcgmmpfckmhahaa

/- The rows of a view, one behind the other: each is made anew. -/
namespace Go.Proofs.Ytcgmmpfckmhahaa
open Go.RowKit Go.Shelf

/-- a row of numbers fills a block -/
def RowAt (W : World) (b : Nat) (l : List Int) : Prop := W.heap[b]? = some (.cells (l.map (Value.int .i64)).toArray 3 (0, 0))
theorem RowAt.kept {W W' : World} {b : Nat} {l : List Int} (h : RowAt W b l) (hb : W'.heap[b]? = W.heap[b]?) : RowAt W' b l := hb.trans h
theorem RowAt.lt {W : World} {b : Nat} {l : List Int} (h : RowAt W b l) : b < W.heap.size := (Array.getElem?_eq_some_iff.1 h).1
theorem RowAt.cell {W : World} {b : Nat} {l : List Int} (h : RowAt W b l) (i : Nat) (hi : i < l.length) : W.cell? ⟨b, i, none⟩ = some (.int .i64 l[i]) := by
  unfold World.cell?
  rw [show W.heap[b]? = _ from h]
  simp [hi]
/-- a row of which the first so many cells are written -/
def rowTo (wd : Nat) (f : Nat → Int) (k : Nat) : List Int := (List.range wd).map fun i => if i < k then f i else 0
theorem rowTo_zero (wd : Nat) (f : Nat → Int) : rowTo wd f 0 = List.replicate wd 0 := by
  unfold rowTo
  refine List.ext_getElem (by simp) (fun i h1 h2 => by simp)
theorem rowTo_all (wd : Nat) (f : Nat → Int) : rowTo wd f wd = (List.range wd).map f := by
  unfold rowTo
  refine List.map_congr_left (fun i hi => by rw [if_pos (List.mem_range.1 hi)])
theorem rowTo_len (wd : Nat) (f : Nat → Int) (k : Nat) : (rowTo wd f k).length = wd := by simp [rowTo]
theorem rowTo_set (wd : Nat) (f : Nat → Int) (k : Nat) (_h : k < wd) : (rowTo wd f k).set k (f k) = rowTo wd f (k + 1) := by
  refine List.ext_getElem (by simp [rowTo]) (fun i h1 h2 => ?_)
  simp only [rowTo, List.getElem_set, List.getElem_map, List.getElem_range]
  by_cases e : k = i
  · subst e; simp
  · rw [if_neg e]
    by_cases h3 : i < k
    · rw [if_pos h3, if_pos (by omega)]
    · rw [if_neg h3, if_neg (by omega)]
theorem RowAt.set {W : World} {b : Nat} {l : List Int} (h : RowAt W b l) (k : Nat) (v : Int) : RowAt (W.setCell ⟨b, k, none⟩ (.int .i64 v)) b (l.set k v) := by
  unfold RowAt at *
  rw [setCell_eq_setRow W b k _ _ _ _ h, setRow_heap W b _ _ _ _ h]
  simp [List.map_set]
/-- the rows of a view -/
def rowsF (wd hi : Nat) (f : Nat → Nat → Int) : List (List Int) := (List.range hi).map fun y => (List.range wd).map fun x => f x y
theorem rowsF_len (wd hi : Nat) (f : Nat → Nat → Int) : (rowsF wd hi f).length = hi := by simp [rowsF]
theorem rowsF_succ (wd k : Nat) (f : Nat → Nat → Int) : rowsF wd (k + 1) f = rowsF wd k f ++ [(List.range wd).map fun x => f x k] := by
  unfold rowsF; rw [List.range_succ, List.map_append]; rfl
/-- what comes: a block, and what fills it -/
def rowV (wd : Nat) (x : Nat × List Int) : Array Value := #[.slice (some ⟨x.1, 0, none⟩) wd wd]
def RowM (wd n₀ : Nat) (R : List Int → Prop) (x : Nat × List Int) (W : World) : Prop := (RowAt W x.1 x.2 ∧ x.2.length = wd ∧ n₀ ≤ x.1) ∧ R x.2

theorem cp_zero (n : Nat) : cp (List.replicate n (0 : Int)) 0 = ((List.replicate n (0 : Int)).map (Value.int .i64)).toArray := by
  unfold cp
  congr 1
  refine List.ext_getElem (by simp) (fun i h1 h2 => by simp)
theorem make_rowB (n : Nat) (hn : n ≤ 20) (w : World) : (Instr.makeSlice 22 (.int .i64 (n : Int)) (.int .i64 (n : Int))).run Try.prog w = .ok (.slice (some ⟨w.heap.size, 0, none⟩) n n) (w.alloc (.cells ((List.replicate n (0 : Int)).map (Value.int .i64)).toArray 3)) := by
  have h := make_ints (List.replicate n 0) n (by simp) (by omega) w
  rw [cp_zero] at h
  exact h
theorem RowAt.free {W : World} {b : Nat} {l : List Int} (h : RowAt W b l) (i : Nat) : W.frozen? ⟨b, i, none⟩ = false := by
  unfold World.frozen?
  rw [show W.heap[b]? = _ from h]
  simp

set_option maxRecDepth 100000 in
set_option maxHeartbeats 4000000 in
theorem rows1_brings (n : Nat) (hn : 1 ≤ n) (T : TypeId) (V : Value) (fs : Nat) (rs : Value) (fa : Nat) (ra : Value) (wd hi : Nat) (f : Nat → Nat → Int) (hwd : wd ≤ 20) (hhi : hi ≤ 20) (w : World) (S : Seen T V fs rs fa ra wd hi f w.heap.size w) :
    Brings n 74 #[.pointer (some ⟨w.heap.size, 0, none⟩)] (rowV wd) (RowM wd (w.heap.size + 1) (fun l => l ∈ rowsF wd hi f)) (w.heap.size + 1) (fun xs => xs.map (·.2) = rowsF wd hi f) hi (w.alloc (.cells #[.iface T V] 77)) := by
  intro l J W hW hn₀ hJ hY h0
  have hb : Below w.heap.size w (w.alloc (.cells #[.iface T V] 77)) := (Below.refl _ _).alloc (Nat.le_refl _) _
  have hc : W.cell? ⟨w.heap.size, 0, none⟩ = some (.iface T V) := (hW.cell (p := ⟨w.heap.size, 0, none⟩) (by show w.heap.size < _; omega)).trans (Boxed.new w 77 (.iface T V)).cell
  obtain ⟨n₀, hn0⟩ : ∃ n₀, n₀ = w.heap.size + 1 := ⟨_, rfl⟩
  have hS : ∀ w', Below n₀ W w' → Below w.heap.size w w' := fun w' b => (hb.trans (hW.mono (by omega))).trans (b.mono (by omega))
  rw [← hn0] at hn₀ hY
  have HN0 : Hid (n₀ = w.heap.size + 1) := hn0
  have hBv : w.heap.size < n₀ := by omega
  generalize w.heap.size = Bv at *
  clear hn0 hb hW
  have hro : Fence.wide.round = none := rfl
  have ms := S.ms
  have ns := S.ns
  have ma := S.ma
  have na := S.na
  have es := S.es
  have ea := S.ea
  have hmk := fun w => make_rowB wd hwd w
  show CallsIn Fence.wide n Try.prog 74 #[.func (.yield l) #[] #[], .pointer (some ⟨Bv, 0, none⟩)] W _
  refine callsIn_of_wp Try.func74 rfl trivial ?_ hro
  simp only [Try.ntmps74, List.size_toArray, List.length_cons, List.length_nil, Nat.reduceAdd, Nat.reduceSub, Array.replicate_succ, Array.replicate_zero, List.push_toArray, List.append_toArray, List.nil_append, List.cons_append]
  gi_wp2
  refine ⟨trivial, ?_⟩
  gi_wp2
  refine (callsIn_wide.2 (S.size W (hS W (Below.refl _ _)))).mono ?_
  rintro e W1 ⟨rfl, b1⟩
  have h01 : J [] W1 := hJ [] W W1 h0 b1
  have hW1 : Below n₀ W W1 := b1.mono hn₀
  have hs1 : W.heap.size ≤ W1.heap.size := b1.size
  clear b1 h0
  gi_wp2
  gi_loopw [14] (fun i wr => ∃ (k : Nat) (xs : List (Nat × List Int)), k ≤ hi ∧ i = .int .i64 (k : Int) ∧ Hid (xs.map (·.2) = rowsF wd k f) ∧ J xs wr ∧ Below n₀ W wr ∧ W.heap.size ≤ wr.heap.size)
    (fun i _ => hi - (intOf i).toNat)
  case atStart => exact ⟨0, [], Nat.zero_le _, rfl, rfl, h01, hW1, hs1⟩
  case round =>
    obtain ⟨k, xs, hk, rfl, HX, hJk, hWk, hsk⟩ := hrel
    generalize wr = ow at *
    by_cases hlt : k < hi
    · obtain ⟨B, hB⟩ : ∃ B, ow.heap.size = B := ⟨_, rfl⟩
      have hnB : n₀ ≤ B := by omega
      have HR0 : Hid (RowAt (ow.alloc (.cells ((List.replicate wd (0 : Int)).map (Value.int .i64)).toArray 3)) B (rowTo wd (fun x => f x k) 0) ∧ Below B ow (ow.alloc (.cells ((List.replicate wd (0 : Int)).map (Value.int .i64)).toArray 3)) ∧ B < (ow.alloc (.cells ((List.replicate wd (0 : Int)).map (Value.int .i64)).toArray 3)).heap.size) := by
        refine ⟨?_, (Below.refl _ _).alloc (by omega) _, by simp; omega⟩
        rw [rowTo_zero, ← hB]
        exact heap_alloc_new _ _
      have hmk2 := hmk ow
      rw [hB] at hmk2
      generalize hWm : ow.alloc (.cells ((List.replicate wd (0 : Int)).map (Value.int .i64)).toArray 3) = Wm at *
      have HJ0 : Hid (J xs ow ∧ Below n₀ W ow ∧ ow.heap.size = B) := ⟨hJk, hWk, hB⟩
      clear hJk hWk hB hWm hmk
      gi_wp2
      gi_loopw [21] (fun i wr => ∃ x : Nat, x ≤ wd ∧ i = .int .i64 (x : Int) ∧ Hid (RowAt wr B (rowTo wd (fun x => f x k) x) ∧ Below B ow wr ∧ B < wr.heap.size))
        (fun i _ => wd - (intOf i).toNat)
      case atStart => exact ⟨0, Nat.zero_le _, rfl, HR0⟩
      case round =>
        obtain ⟨x, hx, rfl, HR⟩ := hrel
        have hWy : Below n₀ W wr := HJ0.out.2.1.trans (HR.out.2.1.mono hnB)
        have hcy : wr.cell? ⟨Bv, 0, none⟩ = some (.iface T V) := (hWy.cell (p := ⟨Bv, 0, none⟩) hBv).trans hc
        by_cases hxl : x < wd
        · gi_wp2
          refine ⟨trivial, ?_⟩
          gi_wp2
          refine (callsIn_wide.2 (S.at' wr x k hxl hlt (hS wr hWy))).mono ?_
          rintro e W2 ⟨rfl, b2⟩
          have hR2 := HR.out.1.kept (b2.block _ HR.out.2.2)
          have hB2 := HR.out.2.1.trans (b2.mono (by have := HR.out.2.2; omega))
          have hl2 : B < W2.heap.size := Nat.lt_of_lt_of_le HR.out.2.2 b2.size
          have hcs := hR2.cell x (by rw [rowTo_len]; exact hxl)
          have hfs := hR2.free x
          have hset := hR2.set x (f x k)
          rw [rowTo_set wd (fun x => f x k) x hxl] at hset
          have HR3 : Hid (RowAt (W2.setCell ⟨B, x, none⟩ (.int .i64 (f x k))) B (rowTo wd (fun x => f x k) (x + 1)) ∧ Below B ow (W2.setCell ⟨B, x, none⟩ (.int .i64 (f x k))) ∧ B < (W2.setCell ⟨B, x, none⟩ (.int .i64 (f x k))).heap.size) := ⟨hset, hB2.setCell (p := ⟨B, x, none⟩) (Nat.le_refl _) _, by rw [World.size_setCell]; exact hl2⟩
          generalize (rowTo wd (fun x => f x k) x)[x]'(by rw [rowTo_len]; exact hxl) = u at hcs
          clear hR2 hB2 hset b2 HR hcy hWy
          gi_wp2
          go_roundw
          case rel => exact ⟨x + 1, by omega, by simp, HR3⟩
          case measure => simp [intOf]; omega
        · obtain rfl : x = wd := by omega
          have hbel := HR.out.2.1
          have hJy : J xs wr := hJ xs ow wr HJ0.out.1 (by rw [HJ0.out.2.2]; exact hbel)
          have hrow := HR.out.1
          rw [rowTo_all] at hrow
          have hxs : xs.length < hi := by
            have := congrArg List.length HX.out
            rw [List.length_map, rowsF_len] at this
            omega
          obtain ⟨fn, tmps, assign, body, hy, hRo⟩ := hY xs (B, (List.range x).map (fun i => f i k)) wr hJy ⟨⟨hrow, by simp, by show n₀ ≤ B; exact hnB⟩, List.mem_map.2 ⟨k, List.mem_range.2 hlt, rfl⟩⟩ (by have := hbel.size; have := HR.out.2.2; have := HJ0.out.2.2; omega) hxs
          have hy' : (Instr.yield l #[.slice (some ⟨B, 0, none⟩) x x]).run Try.prog wr = .ok (.round l fn tmps assign body) wr := hy
          have HX2 : Hid ((xs ++ [(B, (List.range x).map (fun i => f i k))]).map (·.2) = rowsF x (k + 1) f) := by
            show _ = _
            rw [List.map_append, HX.out, rowsF_succ]
            rfl
          have hsy : W.heap.size ≤ wr.heap.size := by have := hbel.size; have := HJ0.out.2.2; omega
          clear hJy hrow hbel hy HR HX HJ0 hcy
          gi_wp2
          refine hRo.mono ?_
          rintro e W3 ⟨rfl, hJ3, hk3⟩
          gi_wp2
          exact ⟨⟨k + 1, _, by omega, by simp, HX2, hJ3, hWy.trans hk3, Nat.le_trans hsy hk3.size⟩, by simp [intOf]; omega⟩
    · obtain rfl : k = hi := by omega
      gi_wp2
      go_end0
      exact ⟨⟨_, rfl⟩, xs, HX.out, hJk⟩

/-- what holds of all rows holds of each that comes -/
theorem brings_more {α : Type} {n gf : Nat} {lb : Array Value} {encs : α → Array Value} {Mem Mem' : α → World → Prop} {n₀ N : Nat} {S : List α → Prop} {w : World} (h : Brings n gf lb encs Mem n₀ S N w) (hM : ∀ x W, Mem x W → Mem' x W) : Brings n gf lb encs Mem' n₀ S N w :=
  fun l J W h1 h2 h3 h4 h5 => h l J W h1 h2 h3 (fun pre x W1 a b c d => h4 pre x W1 a (hM x W1 b) c d) h5

set_option maxHeartbeats 400000 in
theorem rowsOf_any (T : TypeId) (V : Value) (w : World) :
    Calls Try.prog 42 #[.iface T V] w fun e w' => e = .returned (.func (.func 74) #[] #[.pointer (some ⟨w.heap.size, 0, none⟩)]) ∧ w' = w.alloc (.cells #[.iface T V] 77) := by
  go_enter Try.func42, Try.ntmps42
  go_wp2_with fail
  go_ret
  exact ⟨rfl, rfl⟩

theorem rows1_fit (n : Nat) (hn : 1 ≤ n) (R : List Int → Prop) (T : TypeId) (V : Value) (fs : Nat) (rs : Value) (fa : Nat) (ra : Value) (wd hi : Nat) (f : Nat → Nat → Int) (hwd : wd ≤ 20) (hhi : hi ≤ 20) (w : World) (S : Seen T V fs rs fa ra wd hi f w.heap.size w) (hR : ∀ l ∈ rowsF wd hi f, R l) :
    Brings n 74 #[.pointer (some ⟨w.heap.size, 0, none⟩)] (rowV wd) (RowM wd (w.heap.size + 1) R) (w.heap.size + 1) (fun xs => xs.map (·.2) = rowsF wd hi f) hi (w.alloc (.cells #[.iface T V] 77)) :=
  brings_more (rows1_brings n hn T V fs rs fa ra wd hi f hwd hhi w S) (fun _ _ h => ⟨h.1, hR _ h.2⟩)
end Go.Proofs.Ytcgmmpfckmhahaa

/- ImageFlip of the program. -/
namespace Go.Proofs.Ytcgmmpfckmhahaa
open Go.RowKit

theorem flip_ma (k d : Int) (Wd Hi : Nat) (ca : Option Addr) (cn cc : Nat) (pa : Option Addr) (pn pc : Nat) (w : World) : (method 301 79 (.agg #[.iface 75 (.agg #[.int .i64 k, .int .i64 d, .int .i64 (Wd : Int), .int .i64 (Hi : Int), .slice ca cn cc, .slice pa pn pc])]) "loop.example/intarsia/impl.at").run Try.prog w = .ok (160, .agg #[.iface 75 (.agg #[.int .i64 k, .int .i64 d, .int .i64 (Wd : Int), .int .i64 (Hi : Int), .slice ca cn cc, .slice pa pn pc])]) w := by kernel_rfl
theorem flip_na (k d : Int) (Wd Hi : Nat) (ca : Option Addr) (cn cc : Nat) (pa : Option Addr) (pn pc : Nat) (w : World) : (nilAhead 301 79 (.agg #[.iface 75 (.agg #[.int .i64 k, .int .i64 d, .int .i64 (Wd : Int), .int .i64 (Hi : Int), .slice ca cn cc, .slice pa pn pc])]) "loop.example/intarsia/impl.at").run Try.prog w = .ok (some false) w := by kernel_rfl
theorem flip_ns (k d : Int) (Wd Hi : Nat) (ca : Option Addr) (cn cc : Nat) (pa : Option Addr) (pn pc : Nat) (w : World) : (nilAhead 301 79 (.agg #[.iface 75 (.agg #[.int .i64 k, .int .i64 d, .int .i64 (Wd : Int), .int .i64 (Hi : Int), .slice ca cn cc, .slice pa pn pc])]) "loop.example/intarsia/impl.size").run Try.prog w = .ok (some false) w := by kernel_rfl
theorem flip_ms (k d : Int) (Wd Hi : Nat) (ca : Option Addr) (cn cc : Nat) (pa : Option Addr) (pn pc : Nat) (w : World) : (method 301 79 (.agg #[.iface 75 (.agg #[.int .i64 k, .int .i64 d, .int .i64 (Wd : Int), .int .i64 (Hi : Int), .slice ca cn cc, .slice pa pn pc])]) "loop.example/intarsia/impl.size").run Try.prog w = .ok (159, .agg #[.int .i64 k, .int .i64 d, .int .i64 (Wd : Int), .int .i64 (Hi : Int), .slice ca cn cc, .slice pa pn pc]) w := by kernel_rfl

set_option maxHeartbeats 1000000 in
theorem flip_at (k d : Int) (Wd Hi : Nat) (ca : Option Addr) (cn cc : Nat) (pa : Option Addr) (pn pc : Nat) (x y : Nat) (v : Int) (w : World) (hy : y < Hi) (hH : Hi ≤ 20)
    (hat : ∀ w', Below w.heap.size w w' → Calls Try.prog 158 #[.agg #[.int .i64 k, .int .i64 d, .int .i64 (Wd : Int), .int .i64 (Hi : Int), .slice ca cn cc, .slice pa pn pc], .int .i64 (x : Int), .int .i64 ((Hi : Int) - 1 - (y : Int))] w' fun e w'' => e = .returned (.int .i64 v) ∧ Below w'.heap.size w' w'') :
    Calls Try.prog 160 #[.agg #[.iface 75 (.agg #[.int .i64 k, .int .i64 d, .int .i64 (Wd : Int), .int .i64 (Hi : Int), .slice ca cn cc, .slice pa pn pc])], .int .i64 (x : Int), .int .i64 (y : Int)] w fun e w' => e = .returned (.int .i64 v) ∧ Below w.heap.size w w' := by
  have m1 := fun w => method_size k d (Wd : Int) (Hi : Int) ca cn cc pa pn pc w
  have n1 := fun w => plain_ns k d Wd Hi ca cn cc pa pn pc w
  have m2 := fun w => plain_ma k d Wd Hi ca cn cc pa pn pc w
  have n2 := fun w => plain_na k d Wd Hi ca cn cc pa pn pc w
  have hB0 : Below w.heap.size w (w.alloc (.cells #[.iface 75 (.agg #[.int .i64 k, .int .i64 d, .int .i64 (Wd : Int), .int .i64 (Hi : Int), .slice ca cn cc, .slice pa pn pc])] 79)) := (Below.refl _ _).alloc (Nat.le_refl _) _
  have HS : Hid (Calls Try.prog 159 #[.agg #[.int .i64 k, .int .i64 d, .int .i64 (Wd : Int), .int .i64 (Hi : Int), .slice ca cn cc, .slice pa pn pc]] (w.alloc (.cells #[.iface 75 (.agg #[.int .i64 k, .int .i64 d, .int .i64 (Wd : Int), .int .i64 (Hi : Int), .slice ca cn cc, .slice pa pn pc])] 79)) fun e w' => e = .returned (.tuple #[.int .i64 (Wd : Int), .int .i64 (Hi : Int)]) ∧ Below (w.alloc (.cells #[.iface 75 (.agg #[.int .i64 k, .int .i64 d, .int .i64 (Wd : Int), .int .i64 (Hi : Int), .slice ca cn cc, .slice pa pn pc])] 79)).heap.size (w.alloc (.cells #[.iface 75 (.agg #[.int .i64 k, .int .i64 d, .int .i64 (Wd : Int), .int .i64 (Hi : Int), .slice ca cn cc, .slice pa pn pc])] 79)) w') := size_any k d (Wd : Int) (Hi : Int) ca cn cc pa pn pc _
  have HAT : Hid (∀ w', Below w.heap.size w w' → Calls Try.prog 158 #[.agg #[.int .i64 k, .int .i64 d, .int .i64 (Wd : Int), .int .i64 (Hi : Int), .slice ca cn cc, .slice pa pn pc], .int .i64 (x : Int), .int .i64 ((Hi : Int) - 1 - (y : Int))] w' fun e w'' => e = .returned (.int .i64 v) ∧ Below w'.heap.size w' w'') := hat
  clear hat
  have hc0 := (Boxed.new w 79 (.iface 75 (.agg #[.int .i64 k, .int .i64 d, .int .i64 (Wd : Int), .int .i64 (Hi : Int), .slice ca cn cc, .slice pa pn pc]))).cell
  go_enter Try.func160, Try.ntmps160
  go_wp2_with fail
  refine HS.out.mono ?_
  rintro e w1 ⟨rfl, b1⟩
  have hc1 : w1.cell? ⟨w.heap.size, 0, none⟩ = some (.iface 75 (.agg #[.int .i64 k, .int .i64 d, .int .i64 (Wd : Int), .int .i64 (Hi : Int), .slice ca cn cc, .slice pa pn pc])) := (b1.cell (p := ⟨w.heap.size, 0, none⟩) (by simp)).trans hc0
  have bel1 := hB0.trans (b1.mono hB0.size)
  clear b1 hB0 HS hc0
  go_wp2_with fail
  refine (HAT.out w1 bel1).mono ?_
  rintro e w2 ⟨rfl, b2⟩
  have bel2 := bel1.trans (b2.mono bel1.size)
  clear b2 bel1 hc1
  go_wp2_with fail
  go_ret
  exact ⟨rfl, bel2⟩

/-- what is told of the points -/
def flipF (Wd Hi : Nat) (ps : List Int) : Nat → Nat → Int := fun x y => ps.getD ((Hi - 1 - y) * Wd + x) 0

theorem flip_seen (k d : Int) (Wd Hi : Nat) (ca : Option Addr) (cn cc : Nat) (pa : Option Addr) (pn pc : Nat) (ps : List Int) (w : World) (hp : Ints w pa ps) (hpn : ps.length = pn) (hW : Wd ≤ 20) (hH : Hi ≤ 20) (hm : pn = Wd * Hi) :
    Seen 79 (.agg #[.iface 75 (.agg #[.int .i64 k, .int .i64 d, .int .i64 (Wd : Int), .int .i64 (Hi : Int), .slice ca cn cc, .slice pa pn pc])]) 159 (.agg #[.int .i64 k, .int .i64 d, .int .i64 (Wd : Int), .int .i64 (Hi : Int), .slice ca cn cc, .slice pa pn pc]) 160 (.agg #[.iface 75 (.agg #[.int .i64 k, .int .i64 d, .int .i64 (Wd : Int), .int .i64 (Hi : Int), .slice ca cn cc, .slice pa pn pc])]) Wd Hi (flipF Wd Hi ps) w.heap.size w where
  ms := flip_ms k d Wd Hi ca cn cc pa pn pc
  ns := flip_ns k d Wd Hi ca cn cc pa pn pc
  ma := flip_ma k d Wd Hi ca cn cc pa pn pc
  na := flip_na k d Wd Hi ca cn cc pa pn pc
  es := enters_of Try.func159 (by kernel_rfl) rfl
  ea := enters_of Try.func160 (by kernel_rfl) rfl
  size := fun w' _ => size_any k d (Wd : Int) (Hi : Int) ca cn cc pa pn pc w'
  at' := fun w' x y hx hy b => by
    have h1 : (Hi - 1 - y + 1) * Wd ≤ Hi * Wd := Nat.mul_le_mul_right _ (by omega)
    rw [Nat.add_mul, Nat.one_mul, Nat.mul_comm Hi Wd] at h1
    have h2 : Wd * Hi ≤ 20 * 20 := Nat.mul_le_mul (by omega) (by omega)
    have hs : Spot (Wd : Int) (Hi : Int) (x : Int) ((Hi : Int) - 1 - (y : Int)) pn ((Hi - 1 - y) * Wd + x) x (Hi - 1 - y) Wd := ⟨rfl, by omega, rfl, rfl, by omega, by omega⟩
    exact flip_at k d Wd Hi ca cn cc pa pn pc x y _ w' hy hH (fun w'' b' => at_any k d (Wd : Int) (Hi : Int) (x : Int) ((Hi : Int) - 1 - (y : Int)) ca cn cc pa pn pc ps w'' _ _ _ _ hs ((hp.kept b).kept b') hpn)

end Go.Proofs.Ytcgmmpfckmhahaa

/- What a BMP of a picture is: the mathematics. -/
namespace Go.Proofs.Ytcgmmpfckmhahaa

namespace Bm
/-- by how many bytes a row is filled up -/
def fill (n : Nat) : Nat := (4 - n % 4) % 4
/-- a row, filled up -/
def line (S : Nat) (l : List Int) : List UInt8 := Rt.txt S l ++ List.replicate (fill (S * l.length)) 0
def lines (S : Nat) (ls : List (List Int)) : List UInt8 := ls.flatMap (line S)
theorem lines_snoc (S : Nat) (ls : List (List Int)) (l : List Int) : lines S (ls ++ [l]) = lines S ls ++ line S l := by simp [lines]
theorem fill_le (n : Nat) : fill n ≤ 3 := by unfold fill; omega
theorem line_len (S : Nat) (l : List Int) (hS : S ≤ 4) (hl : l.length ≤ 20) : (line S l).length ≤ 83 := by
  unfold line
  rw [List.length_append, Rt.txt_len, List.length_replicate]
  have := fill_le (S * l.length)
  have := Nat.mul_le_mul hS hl
  omega
theorem lines_len (S : Nat) (hS : S ≤ 4) : ∀ ls : List (List Int), (∀ l ∈ ls, l.length ≤ 20) → (lines S ls).length ≤ 83 * ls.length
  | [], _ => by simp [lines]
  | l :: ls, h => by
    have h1 := lines_len S hS ls (fun x hx => h x (by simp [hx]))
    have h2 := line_len S l hS (h l (by simp))
    have e : lines S (l :: ls) = line S l ++ lines S ls := by simp [lines]
    rw [e, List.length_append, List.length_cons]
    omega
/-- the rows of a picture, from below -/
def rows (Wd Hi : Nat) (ps : List Int) : List (List Int) := rowsF Wd Hi (flipF Wd Hi ps)
theorem rows_len (Wd Hi : Nat) (ps : List Int) : (rows Wd Hi ps).length = Hi := rowsF_len _ _ _
theorem rows_each {Wd Hi : Nat} {ps : List Int} {l : List Int} (h : l ∈ rows Wd Hi ps) : l.length = Wd := by
  unfold rows rowsF at h
  obtain ⟨y, _, rfl⟩ := List.mem_map.1 h
  simp
theorem rows_mem {Wd Hi : Nat} {ps : List Int} {l : List Int} (h : l ∈ rows Wd Hi ps) (hm : ps.length = Wd * Hi) : ∀ z ∈ l, z ∈ ps := by
  unfold rows rowsF at h
  obtain ⟨y, hy, rfl⟩ := List.mem_map.1 h
  rw [List.mem_range] at hy
  intro z hz
  obtain ⟨x, hx, rfl⟩ := List.mem_map.1 hz
  rw [List.mem_range] at hx
  unfold flipF
  have h1 : (Hi - 1 - y + 1) * Wd ≤ Hi * Wd := Nat.mul_le_mul_right _ (by omega)
  rw [Nat.add_mul, Nat.one_mul, Nat.mul_comm Hi Wd] at h1
  have h2 : (Hi - 1 - y) * Wd + x < ps.length := by omega
  rw [List.getD_eq_getElem?_getD, List.getElem?_eq_getElem h2]
  exact List.getElem_mem h2
theorem rows_fit {Wd Hi S : Nat} {ps : List Int} {l : List Int} (h : l ∈ rows Wd Hi ps) (hm : ps.length = Wd * Hi) (hf : Rt.fit S ps = true) : Rt.fit S l = true := by
  unfold Rt.fit at hf ⊢
  rw [List.all_eq_true] at hf ⊢
  exact fun z hz => hf z (rows_mem h hm z hz)
/-- the points -/
noncomputable def data (S Wd Hi : Nat) (ps : List Int) (runs : Bool) : List UInt8 := if runs then Re.all (rows Wd Hi ps) else lines S (rows Wd Hi ps)
theorem data_len (S Wd Hi : Nat) (ps : List Int) (runs : Bool) (hS : S ≤ 4) (hW : Wd ≤ 20) (hH : Hi ≤ 20) : (data S Wd Hi ps runs).length ≤ 5000 := by
  unfold data
  split
  · unfold Re.all
    split
    · have := Re.part_len (rows Wd Hi ps) (fun l hl => by rw [rows_each hl]; omega)
      rw [rows_len] at this
      rw [List.length_append]
      simp
      omega
    · simp
  · have := lines_len S hS (rows Wd Hi ps) (fun l hl => by rw [rows_each hl]; omega)
    rw [rows_len] at this
    omega
/-- the fields of a head -/
def head (D Wd Hi cn dn : Nat) (runs : Bool) : List (Int × Int) :=
  [(((54 + 4 * cn + dn : Nat) : Int), 4), (0, 4), (((54 + 4 * cn : Nat) : Int), 4), (40, 4), ((Wd : Int), 4), ((Hi : Int), 4), (1, 2), ((D : Int), 2), ((if runs then 1 else 0), 4), ((dn : Int), 4), (0, 4), (0, 4), ((cn : Int), 4), (0, 4)]
/-- whether a BMP can hold a picture -/
def rep (k d : Int) (runs : Bool) : Bool := (decide (k = 2) && !runs) || (decide (k = 4) && decide (d = 8))
/-- what a BMP of a picture is -/
noncomputable def ans (k d wd hi : Int) (cs ps : List Int) (runs : Bool) : List UInt8 :=
  if Im.okB k d wd hi cs ps && rep k d runs then [66, 77] ++ Tg.txt (head d.toNat wd.toNat hi.toNat cs.length (data (d.toNat / 8) wd.toNat hi.toNat ps runs).length runs) ++ Rt.txt 4 cs ++ data (d.toNat / 8) wd.toNat hi.toNat ps runs else []
end Bm
end Go.Proofs.Ytcgmmpfckmhahaa

/- How a TGA tells a kind: low parts of both. -/
namespace Go.Proofs.Ytcgmmpfckmhahaa
open Go.RowKit

/-- the number of a kind in a TGA -/
def Tg.sort (k d : Int) : Int := if k = 4 ∧ d = 8 then 1 else if k = 2 ∨ k = 3 then 2 else if k = 1 ∧ d = 8 then 3 else 0
theorem Tg.sort_bd (k d : Int) : 0 ≤ Tg.sort k d ∧ Tg.sort k d ≤ 3 := by unfold Tg.sort; repeat' split <;> omega
/-- the last byte of a head -/
def Tg.last (k : Int) : Int := if k = 3 then 40 else 32
/-- a point as a TGA has it -/
def Tg.pt (k p : Int) : Int := if k = 3 then p / 256 + p % 256 * 16777216 else p

set_option maxHeartbeats 400000 in
theorem l9Flag_any (f : Bool) (w : World) : Calls Try.prog 39 #[.bool f] w fun e w' => e = .returned (.int .i64 (if f then 1 else 0)) ∧ w' = w := by
  cases f with
  | false =>
    go_enter Try.func39, Try.ntmps39
    go_wp2_with fail
    go_ret
    exact ⟨rfl, rfl⟩
  | true =>
    go_enter Try.func39, Try.ntmps39
    go_wp2_with fail
    go_ret
    exact ⟨rfl, rfl⟩

theorem or_split (A B : Nat) (hB : B < 16777216) : A * 16777216 ||| B = A * 16777216 + B := by
  have h := Nat.two_pow_add_eq_or_of_lt (i := 24) (b := B) (by simpa using hB) A
  have e : (2 : Nat) ^ 24 = 16777216 := by decide
  rw [e, Nat.mul_comm] at h
  exact h.symm

end Go.Proofs.Ytcgmmpfckmhahaa

/- All points as a TGA has them: l11Dense of the specification. -/
namespace Go.Proofs.Ytcgmmpfckmhahaa
open Go.RowKit

/-- points as a TGA has them -/
def Tg.pts (k : Int) (ps : List Int) : List Int := ps.map (Tg.pt k)
theorem Tg.pts_len (k : Int) (ps : List Int) : (Tg.pts k ps).length = ps.length := by simp [Tg.pts]

end Go.Proofs.Ytcgmmpfckmhahaa

/- The colour of a point, as the program makes it: a view by a rule. -/
namespace Go.Proofs.Ytcgmmpfckmhahaa
open Go.RowKit

/-- what a step of gray is -/
def stepOf (D : Nat) : Nat := 255 / (2 ^ D - 1)
/-- the colour of a point -/
def colOf (k : Int) (D : Nat) (cs : List Int) (p : Int) : Int := if k = 1 then p * (stepOf D : Int) * 16843008 + 255 else if k = 2 then p * 256 + 255 else if k = 4 then cs.getD p.toNat 0 * 256 + 255 else p

end Go.Proofs.Ytcgmmpfckmhahaa

/- The colour of a point, as the specification makes it. -/
namespace Go.Proofs.Ytcgmmpfckmhahaa
open Go.RowKit

/-- what a picture's point may be -/
def PtOk (k : Int) (D : Nat) (cs : List Int) (p : Nat) : Prop := (k = 1 ∧ (D = 1 ∨ D = 2 ∨ D = 4 ∨ D = 8) ∧ p < 2 ^ D) ∨ (k = 2 ∧ p ≤ 16777216) ∨ k = 3 ∨ (k = 4 ∧ p < cs.length ∧ Within 16777215 cs)

theorem gray_step {D p : Nat} (hD : D = 1 ∨ D = 2 ∨ D = 4 ∨ D = 8) (hp : p < 2 ^ D) : 2 ≤ 2 ^ D ∧ p * 255 / (2 ^ D - 1) = p * stepOf D ∧ p * stepOf D ≤ 255 ∧ p ≤ 255 ∧ D ≤ 8 := by
  rcases hD with rfl | rfl | rfl | rfl
  · have hs : stepOf 1 = 255 := by decide
    have hp' : p < 2 := hp
    rw [hs]
    exact ⟨by decide, by show p * 255 / 1 = p * 255; omega, by omega, by omega, by omega⟩
  · have hs : stepOf 2 = 85 := by decide
    have hp' : p < 4 := hp
    rw [hs]
    exact ⟨by decide, by show p * 255 / 3 = p * 85; omega, by omega, by omega, by omega⟩
  · have hs : stepOf 4 = 17 := by decide
    have hp' : p < 16 := hp
    rw [hs]
    exact ⟨by decide, by show p * 255 / 15 = p * 17; omega, by omega, by omega, by omega⟩
  · have hs : stepOf 8 = 1 := by decide
    have hp' : p < 256 := hp
    rw [hs]
    exact ⟨by decide, by show p * 255 / 255 = p * 1; omega, by omega, by omega, by omega⟩

end Go.Proofs.Ytcgmmpfckmhahaa

/- The rule of a picture's colours, and the view by it. -/
namespace Go.Proofs.Ytcgmmpfckmhahaa
open Go.RowKit

end Go.Proofs.Ytcgmmpfckmhahaa

/- ImageColor of both sides, for every picture and place. -/
namespace Go.Proofs.Ytcgmmpfckmhahaa
open Go.RowKit
namespace Im
theorem ok_of' {k d wd hi : Int} {cs ps : List Int} (h : okB k d wd hi cs ps = true) : Ok k d wd hi cs ps := @of_decide_eq_true _ (Classical.propDecidable _) h
/-- whether a point is there -/
noncomputable def coB (k d wd hi x y : Int) (cs ps : List Int) : Bool := okB k d wd hi cs ps && inB x y wd hi
/-- its colour -/
noncomputable def coV (k d wd hi x y : Int) (cs ps : List Int) : Int := if coB k d wd hi x y cs ps = true then colOf k d.toNat cs (ps.getD (y * wd + x).toNat 0) else 0
theorem co_no {k d wd hi x y : Int} {cs ps : List Int} (h : coB k d wd hi x y cs ps = false) : coV k d wd hi x y cs ps = 0 := by unfold coV; rw [h]; rfl
theorem co_yes {k wd hi x y : Int} {D : Nat} {cs ps : List Int} (h : coB k (D : Int) wd hi x y cs ps = true) {pn I X Y Wd : Nat} (g : Spot wd hi x y pn I X Y Wd) : coV k (D : Int) wd hi x y cs ps = colOf k D cs (ps.getD I 0) := by
  unfold coV; rw [if_pos h, g.x, g.y, g.wd, g.i, Int.toNat_natCast]
  congr 1

theorem kinds {k : Int} {D : Nat} (h : (D : Int) ∈ depL k) : (k = 1 ∧ (D = 1 ∨ D = 2 ∨ D = 4 ∨ D = 8)) ∨ (k = 2 ∧ D = 24) ∨ (k = 3 ∧ D = 32) ∨ (k = 4 ∧ (D = 1 ∨ D = 2 ∨ D = 4 ∨ D = 8)) := by
  unfold depL at h
  split at h
  · next e => simp at h; rcases e with rfl | rfl
              · exact .inl ⟨rfl, by omega⟩
              · exact .inr (.inr (.inr ⟨rfl, by omega⟩))
  · split at h
    · next e => simp at h; exact .inr (.inl ⟨e, by omega⟩)
    · split at h
      · next e => simp at h; exact .inr (.inr (.inl ⟨e, by omega⟩))
      · simp at h

/-- each point of a picture that is ok is one that has a colour -/
theorem pt_ok {k wd hi : Int} {D : Nat} {cs ps : List Int} (h : Ok k (D : Int) wd hi cs ps) (I : Nat) (hI : I < ps.length) : ∃ p : Nat, ps.getD I 0 = (p : Int) ∧ PtOk k D cs p := by
  have hm := h.2.2.2.2.2 ps[I] (List.getElem_mem hI)
  have e : ps.getD I 0 = ps[I] := by rw [List.getD_eq_getElem?_getD, List.getElem?_eq_getElem hI]; rfl
  rw [e]
  obtain ⟨p, hp⟩ := Int.eq_ofNat_of_zero_le hm.1
  refine ⟨p, hp, ?_⟩
  have hle := hm.2
  rw [hp] at hle
  have hc := h.2.2.2.1
  rcases kinds h.1 with ⟨rfl, hD⟩ | ⟨rfl, rfl⟩ | ⟨rfl, _⟩ | ⟨rfl, hD⟩
  · refine .inl ⟨rfl, hD, ?_⟩
    unfold most at hle
    rw [if_neg (by decide), Int.toNat_natCast] at hle
    omega
  · refine .inr (.inl ⟨rfl, ?_⟩)
    unfold most at hle
    rw [if_neg (by decide), Int.toNat_natCast] at hle
    have : ((2 ^ 24 : Nat) : Int) = 16777216 := by decide
    omega
  · exact .inr (.inr (.inl rfl))
  · refine .inr (.inr (.inr ⟨rfl, ?_, (hc.2 rfl).2.2⟩))
    unfold most at hle
    rw [if_pos rfl] at hle
    omega
end Im
end Go.Proofs.Ytcgmmpfckmhahaa

/- A picture seen by its colours. -/
namespace Go.Proofs.Ytcgmmpfckmhahaa
open Go.RowKit

/-- the colours of the points -/
def colF (k : Int) (D : Nat) (cs : List Int) (Wd : Nat) (ps : List Int) : Nat → Nat → Int := fun x y => colOf k D cs (ps.getD (y * Wd + x) 0)

theorem spot_in {Wd Hi pn x y : Nat} (hx : x < Wd) (hy : y < Hi) (hW : Wd ≤ 20) (hH : Hi ≤ 20) (hm : pn = Wd * Hi) : Spot (Wd : Int) (Hi : Int) (x : Int) (y : Int) pn (y * Wd + x) x y Wd := by
  have h1 : (y + 1) * Wd ≤ Hi * Wd := Nat.mul_le_mul_right _ (by omega)
  rw [Nat.add_mul, Nat.one_mul, Nat.mul_comm Hi Wd] at h1
  have h2 : Wd * Hi ≤ 20 * 20 := Nat.mul_le_mul (by omega) (by omega)
  exact ⟨rfl, rfl, rfl, rfl, by omega, by omega⟩

/-- the colours of all points -/
def cols (k : Int) (D : Nat) (cs ps : List Int) : List Int := ps.map fun p => colOf k D cs p
theorem cols_upto (k : Int) (D : Nat) (cs ps : List Int) (Wd Hi : Nat) (hpn : ps.length = Wd * Hi) : upto (ptF Wd (colF k D cs Wd ps)) (Wd * Hi) = cols k D cs ps := by
  apply List.ext_getElem
  · rw [upto_length]; simp [cols, hpn]
  · intro i h1 h2
    simp only [upto, cols, List.getElem_map, List.getElem_range]
    unfold ptF colF
    have hi : i < ps.length := by simpa [cols] using h2
    have e : i / Wd * Wd + i % Wd = i := by rw [Nat.mul_comm]; exact Nat.div_add_mod i Wd
    rw [e, List.getD_eq_getElem?_getD, List.getElem?_eq_getElem hi]; rfl

theorem drewN_add (w : World) (a b : Nat) : (w.drewN a).drewN b = w.drewN (a + b) := by
  simp [World.drewN, Nat.add_assoc]

end Go.Proofs.Ytcgmmpfckmhahaa

/- A picture as it is: its points, seen. -/
namespace Go.Proofs.Ytcgmmpfckmhahaa
open Go.RowKit

/-- a picture's point -/
def pixF (Wd : Nat) (ps : List Int) : Nat → Nat → Int := fun x y => ps.getD (y * Wd + x) 0
theorem pix_upto (ps : List Int) (Wd Hi : Nat) (hpn : ps.length = Wd * Hi) : upto (ptF Wd (pixF Wd ps)) (Wd * Hi) = ps := by
  apply List.ext_getElem
  · rw [upto_length, hpn]
  · intro i h1 h2
    simp only [upto, List.getElem_map, List.getElem_range, ptF, pixF]
    rw [Nat.mul_comm, Nat.div_add_mod, List.getD_eq_getElem?_getD, List.getElem?_eq_getElem h2]
    rfl

theorem plain_seen (k d : Int) (Wd Hi : Nat) (ca : Option Addr) (cn cc : Nat) (pa : Option Addr) (pn pc : Nat) (ps : List Int) (w : World) (hp : Ints w pa ps) (hpn : ps.length = pn) (hW : Wd ≤ 20) (hH : Hi ≤ 20) (hm : pn = Wd * Hi) :
    Seen 75 (.agg #[.int .i64 k, .int .i64 d, .int .i64 (Wd : Int), .int .i64 (Hi : Int), .slice ca cn cc, .slice pa pn pc]) 159 (.agg #[.int .i64 k, .int .i64 d, .int .i64 (Wd : Int), .int .i64 (Hi : Int), .slice ca cn cc, .slice pa pn pc]) 158 (.agg #[.int .i64 k, .int .i64 d, .int .i64 (Wd : Int), .int .i64 (Hi : Int), .slice ca cn cc, .slice pa pn pc]) Wd Hi (pixF Wd ps) w.heap.size w where
  ms := fun w => by kernel_rfl
  ns := fun w => by kernel_rfl
  ma := fun w => by kernel_rfl
  na := fun w => by kernel_rfl
  es := enters_of Try.func159 (by kernel_rfl) rfl
  ea := enters_of Try.func158 (by kernel_rfl) rfl
  size := fun w' _ => size_any k d (Wd : Int) (Hi : Int) ca cn cc pa pn pc w'
  at' := fun w' x y hx hy b => at_any k d (Wd : Int) (Hi : Int) (x : Int) (y : Int) ca cn cc pa pn pc ps w' _ _ _ _ (spot_in hx hy hW hH hm) (hp.kept b) hpn
end Go.Proofs.Ytcgmmpfckmhahaa

/- A text cut into blocks (mathematics). -/
namespace Go.Proofs.Ytcgmmpfckmhahaa
namespace Bk

/-- the bytes of the block at place j -/
def part (l : List UInt8) (j : Nat) : List UInt8 := (l.drop (255 * j)).take 255
/-- the first j blocks, each behind its length -/
def acc (l : List UInt8) : Nat → List UInt8
  | 0 => []
  | j + 1 => acc l j ++ UInt8.ofNat (part l j).length :: part l j
theorem acc_succ (l : List UInt8) (j : Nat) : acc l (j + 1) = acc l j ++ UInt8.ofNat (part l j).length :: part l j := rfl
theorem part_len (l : List UInt8) (j : Nat) : (part l j).length = min 255 (l.length - 255 * j) := by simp [part]
theorem acc_len (l : List UInt8) : ∀ j, (acc l j).length ≤ 256 * j
  | 0 => Nat.le_refl _
  | j + 1 => by
    have := acc_len l j
    have h := part_len l j
    rw [acc_succ, List.length_append, List.length_cons]; omega

/-- how many blocks there are -/
def num (n : Nat) : Nat := (n + 254) / 255
theorem num_iff {n j : Nat} : j < num n ↔ 255 * j < n := by unfold num; omega
theorem num_le {n : Nat} (h : n ≤ 5000) : num n ≤ 20 := by unfold num; omega
/-- all blocks, and the end -/
def all (l : List UInt8) : List UInt8 := acc l (num l.length) ++ [0]

theorem extract_part (s : ByteArray) (i j : Nat) : s.extract i j = ⟨((s.data.toList.drop i).take (j - i)).toArray⟩ := by
  apply ByteArray.ext
  rw [ByteArray.data_extract]
  apply Array.toList_inj.1
  simp [List.extract_eq_take_drop]
end Bk
end Go.Proofs.Ytcgmmpfckmhahaa

/- BlocksPut of the specification. -/
namespace Go.Proofs.Ytcgmmpfckmhahaa
open Go.RowKit

theorem str_mid (q p : List UInt8) (c : UInt8) : (ByteArray.mk q.toArray ++ ByteArray.mk #[c] ++ ByteArray.mk p.toArray) = ByteArray.mk (q ++ c :: p).toArray := by
  rw [show (ByteArray.mk #[c]) = ByteArray.mk [c].toArray from rfl, ByteArray.mk_append_mk, ByteArray.mk_append_mk]
  simp
theorem str_end (q : List UInt8) (c : UInt8) : (ByteArray.mk q.toArray ++ ByteArray.mk #[c]) = ByteArray.mk (q ++ [c]).toArray := by
  rw [show (ByteArray.mk #[c]) = ByteArray.mk [c].toArray from rfl, ByteArray.mk_append_mk]

set_option maxHeartbeats 400000 in
theorem l5Least_any (a b : Int) (w : World) :
    Calls Try.prog 122 #[.int .i64 a, .int .i64 b] w fun e w' => e = .returned (.int .i64 (min a b)) ∧ w' = w := by
  by_cases h : a < b
  · rw [Int.min_eq_left (by omega)]
    go_enter Try.func122, Try.ntmps122
    go_wp2_with fail
    go_ret
    exact ⟨rfl, rfl⟩
  · rw [Int.min_eq_right (by omega)]
    go_enter Try.func122, Try.ntmps122
    go_wp2_with fail
    go_ret
    exact ⟨rfl, rfl⟩

end Go.Proofs.Ytcgmmpfckmhahaa

/- RunPut of the specification. -/
namespace Go.Proofs.Ytcgmmpfckmhahaa
open Go.RowKit

/-- a list of ints in memory, that is not empty -/
def LiesI (w : World) (b off : Nat) (l : List Int) : Prop := b < w.heap.size ∧ ∀ i (h : i < l.length), w.cell? ⟨b, off + i, none⟩ = some (.int .i64 l[i])
theorem LiesI.kept {w w' : World} {b off : Nat} {l : List Int} (h : LiesI w b off l) (hb : Below w.heap.size w w') : LiesI w' b off l :=
  ⟨Nat.lt_of_lt_of_le h.1 hb.size, fun i hi => (hb.cell (p := ⟨b, off + i, none⟩) h.1).trans (h.2 i hi)⟩
theorem drop_get {l : List Int} {A k : Nat} (h : A + k < l.length) : (l.drop A)[k]? = some l[A + k] := by
  rw [List.getElem?_drop, List.getElem?_eq_getElem h]

set_option maxHeartbeats 1000000 in
theorem l7Equal_any (b off cap n A m : Nat) (l : List Int) (w : World) (hl : LiesI w b off l) (hn : l.length = n) (hnb : n ≤ 1000) (hA : A < n) (hm : m ≤ 1000) (hm1 : 1 ≤ m) :
    Calls Try.prog 108 #[.slice (some ⟨b, off, none⟩) n cap, .int .i64 (A : Int), .int .i64 (m : Int)] w fun e w' => e = .returned (.int .i64 ((Rn.same (l.drop A) m : Nat) : Int)) ∧ ∃ q, w' = w.drewN q := by
  have hAl : A < l.length := by omega
  have hcA := hl.2 A hAl
  have HL : Hid (LiesI w b off l) := hl
  have HN : Hid (l.length = n ∧ (l.drop A).length = n - A) := ⟨hn, by rw [List.length_drop, hn]⟩
  have HY : Hid ((l.drop A)[0]? = some l[A]) := drop_get (A := A) (k := 0) hAl
  have H0 : Hid (Rn.sameP (l.drop A) m 0 = true) := by
    show _ = _
    unfold Rn.sameP; rw [HN.out.2]; simp; omega
  clear hl hn
  generalize l[A] = y at *
  have hAi : (A : Int) < (n : Int) := by omega
  go_enter Try.func108, Try.ntmps108
  go_wp2_with fail
  go_loopw [7] (fun i wr => ∃ k : Nat, 1 ≤ k ∧ A + k ≤ n ∧ k ≤ m ∧ i = .int .i64 (k : Int) ∧ (∀ j, j < k → Rn.sameP (l.drop A) m j = true) ∧ ∃ q, wr = w.drewN q) (fun i _ => n - (intOf i).toNat)
  case atStart => exact ⟨1, Nat.le_refl _, by omega, by omega, rfl, fun j hj => (by rw [show j = 0 by omega]; exact H0.out), 0, rfl⟩
  case round =>
    obtain ⟨k, hk1, hk, hkm, rfl, hall, q, rfl⟩ := hrel
    have HA : Hid (∀ j, j < k → Rn.sameP (l.drop A) m j = true) := hall
    clear hall
    have HE : Hid ((Rn.sameP (l.drop A) m k = false) → k = Rn.same (l.drop A) m) := fun h => Rn.same_eq h HA.out (by rw [HN.out.2]; omega)
    obtain ⟨j, hj⟩ : ∃ j, j = A + k := ⟨_, rfl⟩
    have e1 : (A : Int) + (k : Int) = (j : Int) := by omega
    have e2 := wrap_i64_nat j (by omega)
    by_cases h2 : k < m
    · have d2 : decide ((k : Int) < (m : Int)) = true := by simp; exact h2
      by_cases h1 : j < n
      · have d1 : decide ((j : Int) < (n : Int)) = true := by simp; exact h1
        have hjl : j < l.length := by rw [HN.out.1]; exact h1
        have hcj := HL.out.2 j hjl
        have HX : Hid ((l.drop A)[k]? = some l[j]) := by subst hj; exact drop_get hjl
        have hkn : k < n - A := by omega
        have hji : (j : Int) < (n : Int) := by omega
        have HJ : Hid (j = A + k) := hj
        clear hj
        generalize l[j] = x at *
        by_cases h3 : x = y
        · have HS : Hid (Rn.sameP (l.drop A) m k = true) := by
            show _ = _
            unfold Rn.sameP; rw [HX.out, HY.out, HN.out.2, h3]; simp [hkn, h2]
          subst h3
          clear HX HL HY
          go_wp2_with fail
          go_region
          all_goals go_wp2_with fail
          all_goals
            go_roundw
            case rel => exact ⟨k + 1, by omega, by have := HJ.out; omega, by omega, by go_num, fun j hj => (by
              by_cases e : j = k
              · rw [e]; exact HS.out
              · exact HA.out j (by omega)), q + 1, rfl⟩
            case measure => simp [intOf]; omega
        · have HS : Hid (k = Rn.same (l.drop A) m) := HE.out (by unfold Rn.sameP; rw [HX.out, HY.out]; simp [h3])
          have d3 : decide (x = y) = false := by simp [h3]
          have d3' : (x == y) = false := by simp [h3]
          clear HX HL HY HE
          go_wp2_with fail
          go_region
          all_goals go_wp2_with fail
          all_goals
            go_ret
            exact ⟨by rw [← HS.out]; rfl, q + 1, rfl⟩
      · have HS : Hid (k = Rn.same (l.drop A) m) := HE.out (by unfold Rn.sameP; rw [HN.out.2]; simp; omega)
        have d1 : decide ((j : Int) < (n : Int)) = false := by simp; omega
        clear HL HE hj
        go_wp2_with fail
        go_region
        all_goals go_wp2_with fail
        all_goals
          go_ret
          exact ⟨by rw [← HS.out]; rfl, q + 1, rfl⟩
    · have HS : Hid (k = Rn.same (l.drop A) m) := HE.out (by unfold Rn.sameP; simp [h2])
      have d2 : decide ((k : Int) < (m : Int)) = false := by simp; omega
      clear HL HE hj
      go_wp2_with fail
      go_region
      all_goals go_wp2_with fail
      all_goals
        go_ret
        exact ⟨by rw [← HS.out]; rfl, q + 1, rfl⟩

theorem text_of_cell (w : World) (b d : Nat) (h : w.cell? ⟨b, 0, none⟩ = some (.int .u8 (d : Int))) : Sem.run Try.prog (convert 81 9 (.slice (some ⟨b, 0, none⟩) 1 1)) w = .ok (.string ⟨#[UInt8.ofNat d]⟩) w := by
  refine run_text w ⟨b, 0, none⟩ 1 [d] ?_
  intro j v hj
  cases j with
  | zero => simp at hj; subst hj; exact h
  | succ j => simp at hj
theorem lt_of_cell {w : World} {b o : Nat} {v : Value} (h : w.cell? ⟨b, o, none⟩ = some v) : b < w.heap.size := World.block_lt_of_cell? w _ h

end Go.Proofs.Ytcgmmpfckmhahaa

/- Stretches of a list, as the program reads them in memory: sameAhead, upToSame (ints). -/
namespace Go.Proofs.Ytcgmmpfckmhahaa
open Go.RowKit Go.Shelf
namespace RI

/-- the list l lies in the block b from off on -/
def Lies (w : World) (b off : Nat) (l : List Int) : Prop := b < w.heap.size ∧ ∀ i (h : i < l.length), w.cell? ⟨b, off + i, none⟩ = some (.int .i64 l[i])
theorem Lies.drop {w : World} {b off : Nat} {l : List Int} (h : Lies w b off l) (k : Nat) : Lies w b (off + k) (l.drop k) :=
  ⟨h.1, fun i hi => by
    have := h.2 (k + i) (by rw [List.length_drop] at hi; omega)
    rw [List.getElem_drop, Nat.add_assoc]; exact this⟩
theorem Lies.drewN {w : World} {b off : Nat} {l : List Int} (h : Lies w b off l) (m : Nat) : Lies (w.drewN m) b off l := h

set_option maxHeartbeats 1000000 in
theorem sameAhead_any (b off cap n m : Nat) (l : List Int) (w : World) (hn : l.length = n) (hl : n ≤ 2000000) (hm : m ≤ 1000) (h : Lies w b off l) :
    Calls Try.prog 113 #[.slice (some ⟨b, off, none⟩) n cap, .int .i64 (m : Int)] w fun e w' => e = .returned (.int .i64 ((Rn.same l m : Nat) : Int)) ∧ ∃ q, w' = w.drewN q := by
  have HL : Hid (Lies w b off l) := h
  have HN : Hid (l.length = n) := hn
  clear h hn
  go_enter Try.func113, Try.ntmps113
  go_wp2_with fail
  go_loopw [5] (fun i wr => ∃ k : Nat, k ≤ n ∧ k ≤ m ∧ i = .int .i64 (k : Int) ∧ (∀ j, j < k → Rn.sameP l m j = true) ∧ ∃ q, wr = w.drewN q) (fun i _ => n - (intOf i).toNat)
  case atStart => exact ⟨0, Nat.zero_le _, Nat.zero_le _, rfl, fun j hj => by omega, 0, rfl⟩
  case round =>
    obtain ⟨k, hk, hkm, rfl, hall, q, rfl⟩ := hrel
    have HA : Hid (∀ j, j < k → Rn.sameP l m j = true) := hall
    clear hall
    have hend : (Rn.sameP l m k = false) → k = Rn.same l m := fun h => Rn.same_eq h HA.out (by have := HN.out; omega)
    have HE : Hid ((Rn.sameP l m k = false) → k = Rn.same l m) := hend
    clear hend
    by_cases h1 : k < n
    · by_cases h2 : k < m
      · have hk' : k < l.length := by rw [HN.out]; exact h1
        have h0' : 0 < l.length := by omega
        have hcx := HL.out.2 k hk'
        have hcy := HL.out.2 0 h0'
        simp only [Nat.add_zero] at hcy
        have HX : Hid (l[k]? = some l[k] ∧ l[0]? = some l[0]) := ⟨List.getElem?_eq_getElem hk', List.getElem?_eq_getElem h0'⟩
        have d1 : decide ((k : Int) < (n : Int)) = true := by simp; exact h1
        have d2 : decide ((k : Int) < (m : Int)) = true := by simp; exact h2
        have h0n : (0 : Nat) < n := by omega
        generalize l[k] = x at *
        generalize l[0] = y at *
        by_cases h3 : x = y
        · subst h3
          have HS : Hid (Rn.sameP l m k = true) := by
            show _ = _
            unfold Rn.sameP; rw [HX.out.1, HX.out.2, HN.out]; simp [h1, h2]
          clear HX HL
          go_wp2_with fail
          go_region
          all_goals go_wp2_with fail
          all_goals
            go_roundw
            case rel => exact ⟨k + 1, by omega, by omega, by go_num, fun j hj => (by
              by_cases e : j = k
              · rw [e]; exact HS.out
              · exact HA.out j (by omega)), q + 1, rfl⟩
            case measure => simp [intOf]; omega
        · have HS : Hid (k = Rn.same l m) := HE.out (by unfold Rn.sameP; rw [HX.out.1, HX.out.2]; simp [h3])
          have d3 : decide (x = y) = false := by simp [h3]
          clear HX HL HE
          go_wp2_with fail
          go_region
          all_goals go_wp2_with fail
          all_goals
            go_ret
            exact ⟨by rw [← HS.out]; rfl, q + 1, rfl⟩
      · have HS : Hid (k = Rn.same l m) := HE.out (by simp [Rn.sameP, h2])
        have d1 : decide ((k : Int) < (n : Int)) = true := by simp; exact h1
        have d2 : decide ((k : Int) < (m : Int)) = false := by simp; omega
        clear HL HE
        go_wp2_with fail
        go_region
        all_goals go_wp2_with fail
        all_goals
          go_ret
          exact ⟨by rw [← HS.out]; rfl, q + 1, rfl⟩
    · have HS : Hid (k = Rn.same l m) := HE.out (by simp [Rn.sameP, HN.out, h1])
      have d1 : decide ((k : Int) < (n : Int)) = false := by simp; omega
      clear HL HE
      go_wp2_with fail
      go_region
      all_goals go_wp2_with fail
      all_goals
        go_ret
        exact ⟨by rw [← HS.out]; rfl, q + 1, rfl⟩

set_option maxHeartbeats 1000000 in
theorem upToSame_any (b off cap n least m : Nat) (l : List Int) (w : World) (hn : l.length = n) (hl : n ≤ 2000000) (hl1 : least ≤ 1000) (hm : m ≤ 1000) (h : Lies w b off l) (hc : n ≤ cap) :
    Calls Try.prog 114 #[.slice (some ⟨b, off, none⟩) n cap, .int .i64 (least : Int), .int .i64 (m : Int)] w fun e w' => e = .returned (.int .i64 ((Rn.fresh l least m : Nat) : Int)) ∧ ∃ q, w' = w.drewN q := by
  have HL : Hid (Lies w b off l) := h
  have HN : Hid (l.length = n) := hn
  clear h hn
  go_enter Try.func114, Try.ntmps114
  go_wp2_with fail
  go_loopw [7] (fun i wr => ∃ k : Nat, 1 ≤ k ∧ k ≤ n + 1 ∧ i = .int .i64 (k : Int) ∧ (∀ j, 1 ≤ j → j < k → Rn.freshP l least m j = true) ∧ ∃ q, wr = w.drewN q) (fun i _ => n + 1 - (intOf i).toNat)
  case atStart => exact ⟨1, Nat.le_refl _, by omega, rfl, fun j _ hj => by omega, 0, rfl⟩
  case round =>
    obtain ⟨k, hk1, hk, rfl, hall, q, rfl⟩ := hrel
    have HA : Hid (∀ j, 1 ≤ j → j < k → Rn.freshP l least m j = true) := hall
    clear hall
    have HE : Hid ((Rn.freshP l least m k = false) → k = Rn.fresh l least m) := fun h => Rn.fresh_eq h hk1 HA.out (by have := HN.out; omega)
    by_cases h1 : k < n
    · have hkc : k < cap := by omega
      have d1 : decide ((k : Int) < (n : Int)) = true := by simp; exact h1
      by_cases h2 : k < m
      · have d2 : decide ((k : Int) < (m : Int)) = true := by simp; exact h2
        have HC : Hid (Calls Try.prog 113 #[.slice (some ⟨b, off + k, none⟩) (n - k) (cap - k), .int .i64 (least : Int)] (w.drewN q) fun e w' => e = .returned (.int .i64 ((Rn.same (l.drop k) least : Nat) : Int)) ∧ ∃ q', w' = (w.drewN q).drewN q') :=
          sameAhead_any b (off + k) (cap - k) (n - k) least (l.drop k) _ (by rw [List.length_drop, HN.out]) (by omega) hl1 ((HL.out.drop k).drewN q)
        have HP : Hid (Rn.freshP l least m k = decide (Rn.same (l.drop k) least < least)) := by
          show _ = _
          unfold Rn.freshP; rw [HN.out]; simp [h1, h2]
        clear HL
        generalize Rn.same (l.drop k) least = z at *
        have hzk : z < least ∨ ¬ z < least := by omega
        rcases hzk with hz | hz
        · have d3 : decide ((z : Int) < (least : Int)) = true := by simp; exact hz
          go_wp2_with fail
          refine HC.out.mono ?_
          rintro e w1 ⟨rfl, q1, hw⟩
          clear HC
          subst hw
          go_wp2_with fail
          go_roundw
          case rel => exact ⟨k + 1, by omega, by omega, by go_num, fun j hj1 hj => (by
              by_cases e : j = k
              · rw [e, HP.out]; simp [hz]
              · exact HA.out j hj1 (by omega)), q + q1, rfl⟩
          case measure => simp [intOf]; omega
        · have d3 : decide ((z : Int) < (least : Int)) = false := by simp; omega
          have HS : Hid (k = Rn.fresh l least m) := HE.out (by rw [HP.out]; simp; omega)
          go_wp2_with fail
          refine HC.out.mono ?_
          rintro e w1 ⟨rfl, q1, hw⟩
          clear HC HE
          subst hw
          go_wp2_with fail
          go_ret
          exact ⟨by rw [← HS.out]; rfl, q + q1, rfl⟩
      · have HS : Hid (k = Rn.fresh l least m) := HE.out (by simp [Rn.freshP, h2])
        have d2 : decide ((k : Int) < (m : Int)) = false := by simp; omega
        clear HL HE
        go_wp2_with fail
        go_ret
        exact ⟨by rw [← HS.out]; rfl, q, rfl⟩
    · have HS : Hid (k = Rn.fresh l least m) := HE.out (by simp [Rn.freshP, HN.out, h1])
      have d1 : decide ((k : Int) < (n : Int)) = false := by simp; omega
      clear HL HE
      go_wp2_with fail
      go_ret
      exact ⟨by rw [← HS.out]; rfl, q, rfl⟩
end RI
end Go.Proofs.Ytcgmmpfckmhahaa

/- What a round of a loop over an iterator may do: new blocks, a row of the call's own, one box. -/
namespace Go.Proofs.Ytcgmmpfckmhahaa
open Go.RowKit Go.Shelf

/-- what lies below n₀ is as it was, but for the block o -/
def Beside (o n₀ : Nat) (W W' : World) : Prop := W.heap.size ≤ W'.heap.size ∧ ∀ k, k < n₀ → k ≠ o → W'.heap[k]? = W.heap[k]?
theorem Beside.trans {o n₀ : Nat} {A B C : World} (h : Beside o n₀ A B) (k : Beside o n₀ B C) : Beside o n₀ A C := ⟨Nat.le_trans h.1 k.1, fun i hi ho => (k.2 i hi ho).trans (h.2 i hi ho)⟩
theorem Beside.of {o n₀ : Nat} {A B : World} (h : Below n₀ A B) : Beside o n₀ A B := ⟨h.size, fun i hi _ => h.block i hi⟩
theorem Beside.book {o n₀ : Nat} {w : World} (hn : n₀ ≤ w.heap.size) (W : World) (l : Nat) (x x' : Obj) (hl : w.heap.size ≤ l) (h : W.heap[l]? = some x) (h1 : x.isCells = false) (h2 : x.isWalk = false) : Beside o n₀ W (W.putObj l x') := .of (belowK_b hn W l x x' hl h h1 h2)

/-- from W to W': new blocks, rows from n₀ on that are no T, and the box A -/
structure Went (A n₀ : Nat) (T : TypeId) (W W' : World) : Prop where
  ko : KeepsOthers W W'
  bs : Beside A n₀ W W'
  bl : Below A W W'
  bx : ∀ (k : Nat) (cs : Array Value) (fr : Nat × Nat), W.heap[k]? = some (.cells cs T fr) → W'.heap[k]? = some (.cells cs T fr)

theorem Went.refl (A n₀ : Nat) (T : TypeId) (W : World) : Went A n₀ T W W := ⟨.refl _, .of (Below.refl _ _), Below.refl _ _, fun _ _ _ h => h⟩
theorem Went.trans {A n₀ : Nat} {T : TypeId} {W X Y : World} (h : Went A n₀ T W X) (k : Went A n₀ T X Y) : Went A n₀ T W Y :=
  ⟨h.ko.trans k.ko, h.bs.trans k.bs, h.bl.trans k.bl, fun i cs fr hi => k.bx i cs fr (h.bx i cs fr hi)⟩
theorem Went.drew {A n₀ : Nat} {T : TypeId} {W X : World} (h : Went A n₀ T W X) : Went A n₀ T W X.drew :=
  h.trans ⟨KeepsOthers.drew _, .of (Below.refl _ _).drew, (Below.refl _ _).drew, fun _ _ _ h => h⟩
theorem Went.alloc {A n₀ : Nat} {T : TypeId} {W X : World} (h : Went A n₀ T W X) (hn : n₀ ≤ X.heap.size) (hA : A ≤ X.heap.size) (o : Obj) : Went A n₀ T W (X.alloc o) :=
  h.trans ⟨KeepsOthers.alloc _ _, .of ((Below.refl _ _).alloc hn _), (Below.refl _ _).alloc hA _, fun k _ _ hk => (Below.heap_alloc X o k (Array.getElem?_eq_some_iff.1 hk).1).trans hk⟩
/-- an append to a row of the call's own -/
theorem Went.append {A n₀ k : Nat} {T e : TypeId} {W X Y : World} {v : Value} {xs : List Value} (h : Went A n₀ T W X) (hrow : X.ownsRow n₀ e 1 v k xs) (hT : T ≠ e) (hg : X.grownBy Y v.ownBlock) (hn : n₀ ≤ X.heap.size) (hA : A ≤ n₀) : Went A n₀ T W Y := by
  have hown : ∀ (j : Nat), v.ownBlock = some j → n₀ ≤ j ∧ ∃ cur, X.heap[j]? = some (.cells cur e (0, 0)) := fun j hj => by
    rcases hrow.2 with ⟨rfl, _⟩ | ⟨g, cap, cur, rfl, h1, h2, _⟩
    · cases hj
    · simp [Value.ownBlock] at hj; subst hj; exact ⟨h1, cur, h2⟩
  refine h.trans ⟨KeepsOthers.of_grownBy hg (fun j o ej hj => ?_), .of ((Below.refl _ _).grown hg hn (fun j hj => (hown j hj).1)), (Below.refl _ _).grown hg (by omega) (fun j hj => Nat.le_trans hA (hown j hj).1), fun j cs fr hj => ?_⟩
  · obtain ⟨_, cur, hc⟩ := hown j ej
    rw [hc] at hj; cases hj; rfl
  · refine (hg.block j (Array.getElem?_eq_some_iff.1 hj).1 (fun ej => ?_)).trans hj
    obtain ⟨_, cur, hc⟩ := hown j ej.symm
    rw [hc] at hj; cases hj; exact hT rfl
/-- a store into the box -/
theorem Went.store {A n₀ : Nat} {T t : TypeId} {W X : World} {u : Value} (h : Went A n₀ T W X) (hb : Boxed X A t u) (hT : T ≠ t) (v : Value) : Went A n₀ T W (X.setCell ⟨A, 0, none⟩ v) := by
  have hk : ∀ k, k ≠ A → (X.setCell ⟨A, 0, none⟩ v).heap[k]? = X.heap[k]? := fun k hk => Below.heap_setCell X ⟨A, 0, none⟩ v k hk
  refine h.trans ⟨KeepsOthers.setCell _ _ _, ⟨by simp, fun k _ hne => hk k hne⟩, (Below.refl A X).setCell (p := ⟨A, 0, none⟩) (Nat.le_refl _) _, fun k cs fr hc => ?_⟩
  by_cases e : k = A
  · subst e
    rw [show X.heap[k]? = _ from hb] at hc; cases hc; exact (hT rfl).elim
  · rw [hk k e]; exact hc
/-- a call that makes new blocks alone -/
theorem Went.call {A n₀ : Nat} {T : TypeId} {W X Y : World} (h : Went A n₀ T W X) (b : Below X.heap.size X Y) (hn : n₀ ≤ X.heap.size) (hA : A ≤ n₀) : Went A n₀ T W Y :=
  h.trans ⟨⟨b.size, fun k o hk _ => (b.block k (Array.getElem?_eq_some_iff.1 hk).1).trans hk⟩, .of (b.mono hn), b.mono (by omega), fun k _ _ hk => (b.block k (Array.getElem?_eq_some_iff.1 hk).1).trans hk⟩

theorem lt_of_at {w : World} {k : Nat} {o : Obj} (h : w.heap[k]? = some o) : k < w.heap.size := (Array.getElem?_eq_some_iff.1 h).1
theorem cell_two0 {w : World} {k : Nat} {a b : Value} {T : TypeId} (h : w.heap[k]? = some (.cells #[a, b] T (0, 0))) : w.cell? ⟨k, 0, none⟩ = some a := by simp [World.cell?, h]
theorem cell_two1 {w : World} {k : Nat} {a b : Value} {T : TypeId} (h : w.heap[k]? = some (.cells #[a, b] T (0, 0))) : w.cell? ⟨k, 1, none⟩ = some b := by simp [World.cell?, h]

end Go.Proofs.Ytcgmmpfckmhahaa

/- The iterator over the stretches of a list (ints). -/
namespace Go.Proofs.Ytcgmmpfckmhahaa
open Go.RowKit Go.Shelf
namespace RI

attribute [local go_sem] Oper.semAt_some

/-- a stretch as it is handed on -/
def enc (b off cap : Nat) (x : Nat × Nat × Bool) : Array Value := #[.agg #[.slice (some ⟨b, off + x.1, none⟩) x.2.1 (cap - x.1), .bool x.2.2]]

/-- what the iterator reads -/
structure Held (W : World) (a : Option Addr) (Bl Bm Bt b off cap N least m : Nat) (L : List Int) : Prop where
  hl : W.cell? ⟨Bl, 0, none⟩ = some (.slice a N cap)
  hm : W.cell? ⟨Bm, 0, none⟩ = some (.int .i64 (m : Int))
  ht : W.cell? ⟨Bt, 0, none⟩ = some (.int .i64 (least : Int))
  lies : Lies W b off L

theorem Held.kept {W W' : World} {a : Option Addr} {Bl Bm Bt b off cap N least m o n₀ : Nat} {L : List Int} (h : Held W a Bl Bm Bt b off cap N least m L) (hb : Beside o n₀ W W') (h1 : Bl < n₀) (h2 : Bm < n₀) (h3 : Bt < n₀) (h4 : b < n₀) (o1 : Bl ≠ o) (o2 : Bm ≠ o) (o3 : Bt ≠ o) (o4 : b ≠ o) : Held W' a Bl Bm Bt b off cap N least m L :=
  ⟨(World.cell?_of_block (w := W) (a := ⟨Bl, 0, none⟩) (hb.2 _ h1 o1)).trans h.hl, (World.cell?_of_block (w := W) (a := ⟨Bm, 0, none⟩) (hb.2 _ h2 o2)).trans h.hm, (World.cell?_of_block (w := W) (a := ⟨Bt, 0, none⟩) (hb.2 _ h3 o3)).trans h.ht,
   Nat.lt_of_lt_of_le h.lies.1 hb.1, fun i hi => (World.cell?_of_block (w := W) (a := ⟨b, off + i, none⟩) (hb.2 _ h4 o4)).trans (h.lies.2 i hi)⟩
theorem Held.drewN {W : World} {a : Option Addr} {Bl Bm Bt b off cap N least m : Nat} {L : List Int} (h : Held W a Bl Bm Bt b off cap N least m L) (q : Nat) : Held (W.drewN q) a Bl Bm Bt b off cap N least m L := ⟨h.hl, h.hm, h.ht, h.lies⟩

theorem grown_drewN (w : World) (q : Nat) : w.grownBy (w.drewN q) none := ⟨rfl, rfl, rfl, Nat.le_refl _, fun _ _ _ => rfl⟩

set_option maxRecDepth 100000 in
set_option maxHeartbeats 4000000 in
theorem stretches1_in (n : Nat) (hn : 1 ≤ n) (a : Option Addr) (l Bl Bm Bt b off cap N least m o n₀ : Nat) (L : List Int) (h1 : Bl < n₀) (h2 : Bm < n₀) (h3 : Bt < n₀) (h4 : b < n₀) (o1 : Bl ≠ o) (o2 : Bm ≠ o) (o3 : Bt ≠ o) (o4 : b ≠ o)
    (hN : L.length = N) (hNb : N ≤ 100000) (hlb : least ≤ 1000) (hmb : m ≤ 1000) (hm0 : 0 < m) (hcap : N ≤ cap) (ha : N = 0 ∨ a = some ⟨b, off, none⟩) (J Jx : List (Nat × Nat × Bool) → World → Prop)
    (W : World) (hJ : AbidesFrom W.heap.size J)
    (hY : ∀ pre x W, x.1 + x.2.1 ≤ N ∧ 1 ≤ x.2.1 ∧ x.2.1 ≤ m → J pre W → pre.length < (Rn.from_ least m L 0).length → YieldAt Fence.wide (n - 1) Try.prog l (enc b off cap x) W fun e W' =>
      (e = .returned (.bool true) ∧ J (pre ++ [x]) W' ∧ Beside o n₀ W W') ∨ (e = .returned (.bool false) ∧ Jx (pre ++ [x]) W'))
    (hH : Held W a Bl Bm Bt b off cap N least m L) (h0 : J [] W) :
    CallsIn Fence.wide n Try.prog 112 #[.func (.yield l) #[] #[], .pointer (some ⟨Bl, 0, none⟩), .pointer (some ⟨Bm, 0, none⟩), .pointer (some ⟨Bt, 0, none⟩)] W fun e W' => (∃ v, e = .returned v) ∧
      ((∃ ys, ys = Rn.from_ least m L 0 ∧ J ys W') ∨ (∃ pre, pre <+: Rn.from_ least m L 0 ∧ Jx pre W')) := by
  have hro : Fence.wide.round = none := rfl
  have HN : Hid (L.length = N) := hN
  clear hN
  have HY : Hid (∀ (pre : List (Nat × Nat × Bool)) (x : Nat × Nat × Bool) (W : World), x.1 + x.2.1 ≤ N ∧ 1 ≤ x.2.1 ∧ x.2.1 ≤ m → J pre W → pre.length < (Rn.from_ least m L 0).length → YieldAt Fence.wide (n - 1) Try.prog l (enc b off cap x) W fun e W' =>
      (e = .returned (.bool true) ∧ J (pre ++ [x]) W' ∧ Beside o n₀ W W') ∨ (e = .returned (.bool false) ∧ Jx (pre ++ [x]) W')) := hY
  have HJ : Hid (AbidesFrom W.heap.size J) := hJ
  clear hY hJ
  refine callsIn_of_wp Try.func112 rfl trivial ?_ hro
  simp only [Try.ntmps112, List.size_toArray, List.length_cons, List.length_nil, Nat.reduceAdd, Nat.reduceSub, Array.replicate_succ, Array.replicate_zero, List.push_toArray, List.append_toArray, List.nil_append, List.cons_append]
  gi_wp2
  gi_loopw [5] (fun i wr => ∃ (k : Nat) (pre : List (Nat × Nat × Bool)), k ≤ N ∧ i = .int .i64 (k : Int) ∧ Hid (Rn.from_ least m L 0 = pre ++ Rn.from_ least m L k) ∧ J pre wr ∧ Held wr a Bl Bm Bt b off cap N least m L)
    (fun i _ => N - (intOf i).toNat)
  case atStart => exact ⟨0, [], Nat.zero_le _, rfl, rfl, h0, hH⟩
  case round =>
    obtain ⟨k, pre, hk, rfl, HX, hJk, hHk⟩ := hrel
    obtain ⟨c1, c2, c3, hL⟩ := id hHk
    by_cases hlt : k < N
    · obtain rfl : a = some ⟨b, off, none⟩ := by
        rcases ha with h | h
        · omega
        · exact h
      have hkl : k < L.length := by rw [HN.out]; exact hlt
      have hkc : k < cap := by omega
      have hdl : 0 < (L.drop k).length := by rw [List.length_drop]; omega
      have hdn : (L.drop k).length = N - k := by rw [List.length_drop, HN.out]
      have HS : Hid (Calls Try.prog 113 #[.slice (some ⟨b, off + k, none⟩) (N - k) (cap - k), .int .i64 (m : Int)] wr fun e w' => e = .returned (.int .i64 ((Rn.same (L.drop k) m : Nat) : Int)) ∧ ∃ q, w' = wr.drewN q) :=
        sameAhead_any b (off + k) (cap - k) (N - k) m (L.drop k) wr hdn (by omega) hmb (hL.drop k)
      have HU : Hid (∀ q, Calls Try.prog 114 #[.slice (some ⟨b, off + k, none⟩) (N - k) (cap - k), .int .i64 (least : Int), .int .i64 (m : Int)] (wr.drewN q) fun e w' => e = .returned (.int .i64 ((Rn.fresh (L.drop k) least m : Nat) : Int)) ∧ ∃ q', w' = (wr.drewN q).drewN q') :=
        fun q => upToSame_any b (off + k) (cap - k) (N - k) least m (L.drop k) _ hdn (by omega) hlb hmb ((hL.drop k).drewN q) (by omega)
      have hsz := Rn.size_ends (l := L.drop k) (least := least) (m := m) hdl hm0
      have HF := Rn.from_step (least := least) (m := m) (l := L) hm0 hkl
      have hszd : Rn.size least m (L.drop k) = if least ≤ Rn.same (L.drop k) m then Rn.same (L.drop k) m else Rn.fresh (L.drop k) least m := rfl
      have hagd : Rn.again least m (L.drop k) = decide (least ≤ Rn.same (L.drop k) m) := rfl
      rw [hdn] at hsz
      have hlen : pre.length < (Rn.from_ least m L 0).length := by rw [HX.out, HF]; simp
      generalize hzs : Rn.size least m (L.drop k) = z at *
      generalize hza : Rn.again least m (L.drop k) = ag at *
      generalize Rn.same (L.drop k) m = sm at *
      generalize Rn.fresh (L.drop k) least m = fr at *
      have HX2 : Hid (Rn.from_ least m L 0 = (pre ++ [(k, z, ag)]) ++ Rn.from_ least m L (k + z)) := by
        show _ = _
        rw [HX.out, HF]; simp
      clear HF HX hdl hkl hdn hL hzs hza
      obtain ⟨hz1, hz2, hz3⟩ := hsz
      have hJd : ∀ q, J pre (wr.drewN q) := fun q => HJ.out pre wr _ none hJk (grown_drewN wr q) (fun r e => by cases e)
      have HJd : Hid (∀ q, J pre (wr.drewN q)) := hJd
      clear hJd hJk
      by_cases hag : least ≤ sm
      · rw [if_pos hag] at hszd
        subst hszd
        have hd : decide (least ≤ z) = true := by simp; exact hag
        rw [hd] at hagd
        subst hagd
        have d3 : decide ((z : Int) ≥ (least : Int)) = true := by simp; exact hag
        clear HU
        gi_wp2
        refine ⟨trivial, ?_⟩
        gi_wp2
        refine (callsIn_wide.2 HS.out).mono ?_
        rintro e W2 ⟨rfl, q, rfl⟩
        clear HS
        obtain ⟨fn, tmps, assign, body, hy, hR⟩ := HY.out pre (k, z, true) _ ⟨by show k + z ≤ N; omega, hz1, hz3⟩ (HJd.out q) hlen
        have hHq := hHk.drewN q
        dsimp only [enc] at hy
        gi_wp2
        refine hR.mono ?_
        rintro e W3 (⟨rfl, hJ3, hk3⟩ | ⟨rfl, hJx3⟩)
        · gi_wp2
          go_roundw
          case rel => exact ⟨k + z, _, by omega, by go_num, HX2, hJ3, hHq.kept hk3 h1 h2 h3 h4 o1 o2 o3 o4⟩
          case measure => simp [intOf]; omega
        · gi_wp2
          refine bodyPost_ret (results_none rfl _ _ _) rfl ?_
          exact ⟨⟨_, rfl⟩, .inr ⟨_, ⟨_, HX2.out.symm⟩, hJx3⟩⟩
      · rw [if_neg hag] at hszd
        subst hszd
        have hd : decide (least ≤ sm) = false := by simp; omega
        rw [hd] at hagd
        subst hagd
        have d3 : decide ((sm : Int) ≥ (least : Int)) = false := by simp; omega
        gi_wp2
        refine ⟨trivial, ?_⟩
        gi_wp2
        refine (callsIn_wide.2 HS.out).mono ?_
        rintro e W2 ⟨rfl, q, rfl⟩
        clear HS
        gi_wp2
        refine ⟨trivial, ?_⟩
        gi_wp2
        refine (callsIn_wide.2 (HU.out q)).mono ?_
        rintro e W2 ⟨rfl, q2, rfl⟩
        clear HU
        obtain ⟨fn, tmps, assign, body, hy, hR⟩ := HY.out pre (k, z, false) _ ⟨by show k + z ≤ N; omega, hz1, hz3⟩ (HJd.out (q + q2)) hlen
        have hHq := hHk.drewN (q + q2)
        dsimp only [enc] at hy
        gi_wp2
        refine hR.mono ?_
        rintro e W3 (⟨rfl, hJ3, hk3⟩ | ⟨rfl, hJx3⟩)
        · gi_wp2
          go_roundw
          case rel => exact ⟨k + z, _, by omega, by go_num, HX2, hJ3, hHq.kept hk3 h1 h2 h3 h4 o1 o2 o3 o4⟩
          case measure => simp [intOf]; omega
        · gi_wp2
          refine bodyPost_ret (results_none rfl _ _ _) rfl ?_
          exact ⟨⟨_, rfl⟩, .inr ⟨_, ⟨_, HX2.out.symm⟩, hJx3⟩⟩
    · obtain rfl : k = N := by omega
      gi_wp2
      go_end0
      exact ⟨⟨_, rfl⟩, .inl ⟨_, by rw [HX.out, Rn.from_end (by rw [HN.out]; exact Nat.le_refl _), List.append_nil], hJk⟩⟩
/-- a stretch of a list of N, m at most -/
abbrev St (N m : Nat) := { x : Nat × Nat × Bool // x.1 + x.2.1 ≤ N ∧ 1 ≤ x.2.1 ∧ x.2.1 ≤ m }

theorem stretches_stops (n : Nat) (hn : 1 ≤ n) (a : Option Addr) (Bl Bm Bt b off cap N least m o n₀ : Nat) (L : List Int) (w : World) (h1 : Bl < n₀) (h2 : Bm < n₀) (h3 : Bt < n₀) (h4 : b < n₀) (o1 : Bl ≠ o) (o2 : Bm ≠ o) (o3 : Bt ≠ o) (o4 : b ≠ o) (hn₀ : n₀ ≤ w.heap.size)
    (hN : L.length = N) (hNb : N ≤ 100000) (hlb : least ≤ 1000) (hmb : m ≤ 1000) (hm0 : 0 < m) (hcap : N ≤ cap) (ha : N = 0 ∨ a = some ⟨b, off, none⟩) (hH : Held w a Bl Bm Bt b off cap N least m L) :
    SeqStopsK Fence.wide n Try.prog 112 #[.pointer (some ⟨Bl, 0, none⟩), .pointer (some ⟨Bm, 0, none⟩), .pointer (some ⟨Bt, 0, none⟩)] (fun x : St N m => enc b off cap x.1) (Beside o n₀)
      (fun ys => ys.map Subtype.val = Rn.from_ least m L 0) (fun pre => pre.map Subtype.val <+: Rn.from_ least m L 0) (Rn.from_ least m L 0).length w := by
  intro l J Jx W hW hJ _ hY h0
  refine (stretches1_in n hn a l Bl Bm Bt b off cap N least m o n₀ L h1 h2 h3 h4 o1 o2 o3 o4 hN hNb hlb hmb hm0 hcap ha
    (fun pre W => ∃ p : List (St N m), p.map Subtype.val = pre ∧ J p W) (fun pre W => ∃ p : List (St N m), p.map Subtype.val = pre ∧ Jx p W) W
    (fun s A B row hs hg hr => by obtain ⟨p, hp, hj⟩ := hs; exact ⟨p, hp, hJ p A B row hj hg hr⟩) ?_ ?_ ⟨[], rfl, h0⟩).mono ?_
  · rintro pre x W1 hx ⟨p, rfl, hj⟩ hlen
    obtain ⟨fn, tmps, assign, body, hy, hR⟩ := hY p ⟨x, hx⟩ W1 hj (by simpa using hlen)
    refine ⟨fn, tmps, assign, body, hy, hR.mono ?_⟩
    rintro e W' (⟨rfl, h2, h3⟩ | ⟨rfl, h2⟩)
    · exact .inl ⟨rfl, ⟨p ++ [⟨x, hx⟩], by simp, h2⟩, h3⟩
    · exact .inr ⟨rfl, ⟨p ++ [⟨x, hx⟩], by simp, h2⟩⟩
  · exact hH.kept (Beside.of (o := o) (hW.mono hn₀)) h1 h2 h3 h4 o1 o2 o3 o4
  · rintro e W' ⟨hv, h⟩
    refine ⟨hv, ?_⟩
    rcases h with ⟨ys, hy, p, hp, hj⟩ | ⟨pre, hpre, p, hp, hj⟩
    · exact .inl ⟨p, hp.trans hy, hj⟩
    · exact .inr ⟨p, by show p.map Subtype.val <+: _; rw [hp]; exact hpre, hj⟩

set_option maxHeartbeats 400000 in
theorem stretchesOf_any (a : Option Addr) (N cap : Nat) (least m : Int) (w : World) :
    Calls Try.prog 76 #[.slice a N cap, .int .i64 least, .int .i64 m] w fun e w' =>
      e = .returned (.func (.func 112) #[] #[.pointer (some ⟨w.heap.size, 0, none⟩), .pointer (some ⟨w.heap.size + 2, 0, none⟩), .pointer (some ⟨w.heap.size + 1, 0, none⟩)]) ∧
      w' = ((w.alloc (.cells #[.slice a N cap] 22)).alloc (.cells #[.int .i64 least] 3)).alloc (.cells #[.int .i64 m] 3) := by
  go_enter Try.func76, Try.ntmps76
  go_wp2_with fail
  go_ret
  exact ⟨rfl, rfl⟩
end RI
end Go.Proofs.Ytcgmmpfckmhahaa

/- A region that draws its order, in the body of a loop over an iterator: what was walked outside of rounds serves there. -/
namespace Go.Proofs.Ytcgmmpfckmhahaa
open Go.RowKit

theorem round_ops {P : Program} {ops : Array Oper} {Q : Exit → Act → World → Prop} {r n : Nat} (hQ : ∀ a w, ¬ Q .outgrown a w) (hnd : ∀ (i : Nat) (o : Oper), ops[i]? = some o → ∀ c, o.op ≠ .defer c) :
    ∀ (l : List Nat) (a : Act) (w : World), wpOps P ops Q l a w → wpOpsIn (Fence.wide.inRound r) n P ops Q l a w
  | [], _, _, h => h
  | i :: rest, a, w, h => by
    have ih := round_ops (P := P) (r := r) (n := n) hQ hnd rest
    simp only [wpOps, wpOpsIn] at h ⊢
    cases ho : ops[i]? with
    | none => simp only [ho] at h ⊢; exact ih a w h
    | some o =>
      simp only [ho] at h ⊢
      by_cases hw : Region.wanted o (yielded ops a.tmps) = true
      · simp only [hw, if_true] at h ⊢
        rcases h with h | ⟨_, a₀, w₀, hq⟩
        case inr => exact (hQ _ _ hq).elim
        refine ⟨fun _ _ => trivial, ?_⟩
        rw [Oper.semAt_eq _ _ _ (hnd i o ho)]
        unfold Oper.wp at h
        generalize (execOp a.eval o).run P w = R at h ⊢
        match R, h with
        | .ok (.value v) w', h => exact ih _ _ h
        | .ok .skip w', h => exact ih _ _ h
        | .ok (.defer d) w', h => exact ih _ _ h
        | .ok (.enter f args) w', h =>
          refine ⟨fun hd => (by simp [Fence.wide] at hd), ?_⟩
          refine (CallsIn.inRound r (callsIn_wide.2 h)).mono ?_
          intro e w'' hr
          cases e with
          | returned v => exact ih _ _ hr
          | panicked c => exact hr
          | outgrown => exact hr
        | .ok (.row row args) w', h =>
          refine ⟨fun hd => (by simp [Fence.wide] at hd), fun c cs _ => ?_⟩
          obtain ⟨v, w'', hr, hs⟩ := h c cs
          exact ⟨v, w'', ih _ _ hr, stepsIn_wide.2 hs⟩
        | .ok (.round _ _ _ _ _) _, h => exact h.elim
        | .halt x _, h => cases x <;> first | exact h | exact h.elim
      · simp only [hw, if_false, Bool.false_eq_true] at h ⊢
        exact ⟨fun _ _ => trivial, ih _ _ h⟩

def noDefer (ops : Array Oper) : Bool := ops.all fun o => match o.op with | .defer _ => false | _ => true
theorem noDefer_spec {ops : Array Oper} (h : noDefer ops = true) (i : Nat) (o : Oper) (ho : ops[i]? = some o) (c : Call) : o.op ≠ .defer c := by
  unfold noDefer at h
  rw [Array.all_eq_true] at h
  obtain ⟨hi, he⟩ := Array.getElem?_eq_some_iff.1 ho
  have := h i hi
  rw [he] at this
  intro e
  rw [e] at this
  cases this

theorem round_region {P : Program} {id : Nat} {ops : Array Oper} {Q : Exit → Act → World → Prop} {a : Act} {w : World} {r n : Nat} (hm : P.follows .mixedOrders = true) (hQ : ∀ a w, ¬ Q .outgrown a w) (hnd : noDefer ops = true)
    (h : wpAny P .any ops Q ops.size (Array.replicate ops.size false) a w.drew) : (Code.region id ops true).wpIn (Fence.wide.inRound r) n P Q a w :=
  wpIn_region_draw fun t => round_ops hQ (noDefer_spec hnd) _ _ _ (by
    simp only [Region.schedule, hm, Bool.true_or, if_true]
    exact wpAny_sound ops.size t _ a _ h)

theorem round_region_held {P : Program} {id : Nat} {ops : Array Oper} {Q : Exit → Act → World → Prop} {a : Act} {w : World} {r n : Nat} {S : World → Prop} (hm : P.follows .mixedOrders = true) (hQ : ∀ a w, ¬ Q .outgrown a w) (hnd : noDefer ops = true)
    (hS : S w.drew) (h : S w.drew → wpAnyH P .any ops Q S ops.size (Array.replicate ops.size false) a w.drew) : (Code.region id ops true).wpIn (Fence.wide.inRound r) n P Q a w :=
  round_region hm hQ hnd (wpAny_of_held _ _ _ _ (h hS))
end Go.Proofs.Ytcgmmpfckmhahaa

/- RunPut of the program. -/
namespace Go.Proofs.Ytcgmmpfckmhahaa
open Go.RowKit Go.Shelf

attribute [local go_sem] Oper.semAt_some

/-- the list as it came: in a block below the call's own, or empty -/
def CameIn (w : World) (a : Option Addr) (b off : Nat) (l : List Int) : Prop := (b = w.heap.size ∧ l = []) ∨ (b < w.heap.size ∧ a = some ⟨b, off, none⟩ ∧ ∀ i (h : i < l.length), w.cell? ⟨b, off + i, none⟩ = some (.int .i64 l[i]))
theorem CameIn.of {w : World} {a : Option Addr} {l : List Int} (h : Ints w a l) : ∃ b off, CameIn w a b off l := by
  rcases h with rfl | ⟨b, off, rfl, hb, hc⟩
  · exact ⟨w.heap.size, 0, .inl ⟨rfl, rfl⟩⟩
  · exact ⟨b, off, .inr ⟨hb, rfl, hc⟩⟩
theorem CameIn.lies {w W : World} {a : Option Addr} {b off : Nat} {l : List Int} (h : CameIn w a b off l) (hb : Below w.heap.size w W) (hz : w.heap.size < W.heap.size) : RI.Lies W b off l := by
  rcases h with ⟨rfl, rfl⟩ | ⟨h1, _, h3⟩
  · exact ⟨hz, fun i hi => by simp at hi⟩
  · exact ⟨by omega, fun i hi => (hb.cell (p := ⟨b, off + i, none⟩) h1).trans (h3 i hi)⟩
theorem RI.Lies.take {w : World} {b off : Nat} {l : List Int} (h : RI.Lies w b off l) (t : Nat) : b < w.heap.size ∧ ∀ i (hi : i < (l.take t).length), w.cell? ⟨b, off + i, none⟩ = some (.int .i64 (l.take t)[i]) :=
  ⟨h.1, fun i hi => by
    have h1 : i < l.length := by rw [List.length_take] at hi; omega
    rw [List.getElem_take]; exact h.2 i h1⟩
theorem CameIn.le {w : World} {a : Option Addr} {b off : Nat} {l : List Int} (h : CameIn w a b off l) : b ≤ w.heap.size := by
  rcases h with ⟨rfl, _⟩ | ⟨h1, _⟩ <;> omega
theorem CameIn.ptr {w : World} {a : Option Addr} {b off : Nat} {l : List Int} (h : CameIn w a b off l) : l.length = 0 ∨ a = some ⟨b, off, none⟩ := by
  rcases h with ⟨_, rfl⟩ | ⟨_, h1, _⟩
  · exact .inl rfl
  · exact .inr h1

/-- between two rounds: the text so far in a row of the call's own -/
def RtI (w : World) (S : Nat) (l : List Int) (N : Nat) (pre : List (RI.St N 128)) (W : World) : Prop :=
  (∃ v, Boxed W (w.heap.size + 1) 81 v ∧ OwnT W (w.heap.size + 5) v (Rt.flat S l (pre.map Subtype.val)).length (Rt.flat S l (pre.map Subtype.val))) ∧
  Boxed W w.heap.size 3 (.int .i64 (S : Int)) ∧ Below w.heap.size w W ∧ w.heap.size + 5 ≤ W.heap.size

theorem rtI_own (w : World) (S : Nat) (l : List Int) (N B : Nat) (hB : w.heap.size + 5 ≤ B) : OwnFrom B (RtI w S l N) := by
  rintro pre X Y row ⟨⟨v, hv, hr⟩, hZ, hb, hs⟩ hg hrow
  have hne : ∀ k, k < w.heap.size + 5 → some k ≠ row := fun k hk e => by have := (hrow k e.symm).1; omega
  refine ⟨⟨v, hv.kept hg (hne _ (by omega)), World.ownsRow.kept (show World.ownsRow _ _ _ _ _ _ _ from hr) hg ?_⟩, hZ.kept hg (hne _ (by omega)), hb.grown hg hb.size (fun k e => by have := (hrow k e).1; omega), Nat.le_trans hs hg.size⟩
  by_cases h0 : v.ownBlock = none
  · exact .inl h0
  · refine .inr (fun e => ?_)
    rcases (show World.ownsRow _ _ _ _ _ _ _ from hr).2 with ⟨rfl, _⟩ | ⟨g, cap, cur, rfl, _, h2, _⟩
    · exact h0 rfl
    · obtain ⟨_, o, ho, hc⟩ := hrow g e.symm
      rw [h2] at ho; cases ho; cases hc

theorem rt_end {w : World} {S : Nat} {l : List Int} {N : Nat} {pre : List (RI.St N 128)} {x : RI.St N 128} {W W' : World} {T : TypeId} {v : Value} {m : Nat} {q : List UInt8} (hI : RtI w S l N pre W) (hw : Went (w.heap.size + 1) (w.heap.size + 5) T W W')
    (hb : Boxed W' (w.heap.size + 1) 81 v) (hr : OwnT W' (w.heap.size + 5) v m q) (hq : q = Rt.flat S l (pre.map Subtype.val) ++ Rt.piece S l x.1) (B : Nat) : KeepsFrom B W W' ∧ Beside (w.heap.size + 1) (w.heap.size + 5) W W' ∧ RtI w S l N (pre ++ [x]) W' := by
  obtain ⟨_, hZ, hbel, hs⟩ := hI
  refine ⟨hw.ko.from _, hw.bs, ⟨v, hb, ?_⟩, (hw.bs.2 w.heap.size (by omega) (by omega)).trans hZ, hbel.trans (hw.bl.mono (by omega)), Nat.le_trans hs hw.bs.1⟩
  rw [List.map_append, List.map_singleton, Rt.flat_snoc, ← hq, hr.len]
  exact hr

end Go.Proofs.Ytcgmmpfckmhahaa

/- The exact law of RunPut, walked. -/
namespace Go.Proofs.Ytcgmmpfckmhahaa
open Go.RowKit

def Rt.yes (s : Int) (l : List Int) : Bool := decide (1 ≤ s ∧ s ≤ 4) && decide (l.length ≤ 1000) && Rt.fit s.toNat l
def Rt.ans (s : Int) (l : List Int) : List UInt8 := if Rt.yes s l then Rt.all s.toNat l else []

theorem Rt.pow_lt {S : Nat} (h : S ≤ 4) : 256 ^ S ≤ 4294967296 := Nat.le_trans (Nat.pow_le_pow_right (by omega) h) (by decide)

end Go.Proofs.Ytcgmmpfckmhahaa

/- All points of a picture as a TGA has them, packed or not: tgaData of the program. -/
namespace Go.Proofs.Ytcgmmpfckmhahaa
open Go.RowKit

theorem tga_upto (ps : List Int) (Wd Hi : Nat) (h : ps.length = Wd * Hi) : upto (ptF Wd (fun x y => Tg.pt 3 (pixF Wd ps x y))) (Wd * Hi) = Tg.pts 3 ps := by
  have e := pix_upto ps Wd Hi h
  unfold Tg.pts
  conv => rhs; rw [← e]
  unfold upto
  rw [List.map_map]; rfl
theorem Tg.pts_plain {k : Int} (h : k ≠ 3) (ps : List Int) : Tg.pts k ps = ps := by
  unfold Tg.pts
  conv => rhs; rw [← List.map_id ps]
  exact List.map_congr_left fun p _ => by unfold Tg.pt; rw [if_neg h]; rfl

/-- the text of all points -/
noncomputable def Tg.data (S : Nat) (l : List Int) (runs : Bool) : List UInt8 := if runs then Rt.ans (S : Int) l else Rt.txt S l

end Go.Proofs.Ytcgmmpfckmhahaa

/- TgaPut of the program. -/
namespace Go.Proofs.Ytcgmmpfckmhahaa
open Go.RowKit

/-- fields in memory -/
def fieldsV (l : List (Int × Int)) : List Value := l.flatMap fun z => [.int .i64 z.1, .int .i64 z.2]
theorem fieldsV_get : ∀ (l : List (Int × Int)) (i : Nat) (h : i < l.length), (fieldsV l)[i * 2]? = some (.int .i64 (l[i]).1) ∧ (fieldsV l)[i * 2 + 1]? = some (.int .i64 (l[i]).2)
  | [], i, h => by simp at h
  | z :: l, 0, h => by simp [fieldsV]
  | z :: l, i + 1, h => by
    have := fieldsV_get l i (by simpa using h)
    rw [show (i + 1) * 2 = i * 2 + 1 + 1 by omega]
    simpa [fieldsV] using this
theorem bits2_new (w : World) (l : List (Int × Int)) (T : TypeId) : Bits2 (w.alloc (.cells (fieldsV l).toArray T)) (some ⟨w.heap.size, 0, none⟩) l := by
  refine .inr ⟨w.heap.size, 0, rfl, by simp, fun i hi => ?_⟩
  have h := fieldsV_get l i hi
  rw [Nat.zero_add]
  exact ⟨by rw [World.cell?_alloc_at _ _ _ _ rfl]; simpa using h.1, by rw [World.cell?_alloc_at _ _ _ _ rfl]; simpa using h.2⟩

theorem Rn.all_max {α : Type} [DecidableEq α] {least m : Nat} {l : List α} (hm : 0 < m) : ∀ (f k : Nat), ∀ x ∈ Rn.all least m l f k, x.2.1 ≤ m
  | 0, k, x, hx => by simp [Rn.all] at hx
  | f + 1, k, x, hx => by
    unfold Rn.all at hx
    split at hx
    · next hk =>
      rcases List.mem_cons.1 hx with rfl | h
      · have := Rn.size_ends (l := l.drop k) (least := least) (m := m) (by rw [List.length_drop]; omega) hm
        simp only
        omega
      · exact Rn.all_max hm f _ x h
    · cases hx
theorem Rt.ans_short (S : Nat) (l : List Int) (hS : S ≤ 4) : (Rt.ans (S : Int) l).length ≤ 513 * l.length := by
  unfold Rt.ans
  split
  · rw [Int.toNat_natCast]
    have h1 := Rt.flat_len S l hS (Rn.from_ 2 128 l 0) (fun x hx => Rn.all_max (by omega) _ _ x hx)
    have h2 : (Rn.from_ 2 128 l 0).length ≤ l.length - 0 := Rn.all_len (least := 2) (m := 128) (l := l) (l.length - 0) 0
    have h3 := Nat.mul_le_mul_left 513 h2
    unfold Rt.all
    omega
  · simp
theorem Tg.data_short (S : Nat) (l : List Int) (runs : Bool) (hS : S ≤ 4) (hl : l.length ≤ 400) : (Tg.data S l runs).length ≤ 300000 := by
  unfold Tg.data
  split
  · have := Rt.ans_short S l hS; omega
  · rw [Rt.txt_len]; have := Nat.mul_le_mul hS hl; omega
theorem Tg.txt_short : ∀ (l : List (Int × Int)), (∀ z ∈ l, z.2 ≤ 4) → (Tg.txt l).length ≤ 4 * l.length
  | [], _ => by simp [Tg.txt]
  | z :: l, h => by
    have h1 := Tg.txt_short l (fun y hy => h y (by simp [hy]))
    have h2 := h z (by simp)
    have e : Tg.txt (z :: l) = Pt.low z.1.toNat z.2.toNat ++ Tg.txt l := by simp [Tg.txt]
    rw [e, List.length_append, Pt.low_len, List.length_cons]
    omega

/-- the fields of a head -/
def Tg.head (k : Int) (D Wd Hi cn : Nat) (runs : Bool) : List (Int × Int) :=
  [(0, 1), ((if k = 4 then 1 else 0), 1), (Tg.sort k D + (if runs then 8 else 0), 1), (0, 2), ((cn : Int), 2), ((if k = 4 then 24 else 0), 1), (0, 4), ((Wd : Int), 2), ((Hi : Int), 2), ((D : Int), 1), (Tg.last k, 1)]

end Go.Proofs.Ytcgmmpfckmhahaa

/- A law on a picture, a bool and a text: walked over the contracts of both (for TgaPut, BmpPut, PnmPut, GifPut). -/
namespace Go.Proofs.Ytcgmmpfckmhahaa
open Go.RowKit

end Go.Proofs.Ytcgmmpfckmhahaa

/- TgaPut of the program at every picture. -/
namespace Go.Proofs.Ytcgmmpfckmhahaa
open Go.RowKit

/-- what a TGA of a picture is -/
noncomputable def Tg.ans (k d wd hi : Int) (cs ps : List Int) (runs : Bool) : List UInt8 :=
  if Im.okB k d wd hi cs ps && (Tg.sort k d != 0) then Tg.txt (Tg.head k d.toNat wd.toNat hi.toNat cs.length runs) ++ Rt.txt 3 cs ++ Tg.data (d.toNat / 8) (Tg.pts k ps) runs else []
theorem Tg.ok_open {k d wd hi : Int} {cs ps : List Int} (h : Im.okB k d wd hi cs ps = true) : Im.Ok k d wd hi cs ps := @of_decide_eq_true _ (Classical.propDecidable _) h
/-- the kinds that a TGA can hold -/
theorem Tg.kinds {k : Int} {D : Nat} (hd : (D : Int) ∈ depL k) (hs : Tg.sort k (D : Int) ≠ 0) : (k = 1 ∧ D = 8) ∨ (k = 2 ∧ D = 24) ∨ (k = 3 ∧ D = 32) ∨ (k = 4 ∧ D = 8) := by
  rcases Im.kinds hd with ⟨rfl, h⟩ | ⟨rfl, h⟩ | ⟨rfl, h⟩ | ⟨rfl, h⟩
  · refine .inl ⟨rfl, ?_⟩
    rcases h with rfl | rfl | rfl | rfl
    · exact absurd rfl hs
    · exact absurd rfl hs
    · exact absurd rfl hs
    · rfl
  · exact .inr (.inl ⟨rfl, h⟩)
  · exact .inr (.inr (.inl ⟨rfl, h⟩))
  · refine .inr (.inr (.inr ⟨rfl, ?_⟩))
    rcases h with rfl | rfl | rfl | rfl
    · exact absurd rfl hs
    · exact absurd rfl hs
    · exact absurd rfl hs
    · rfl
theorem Tg.fit_of {S : Nat} {l : List Int} (h : ∀ z ∈ l, 0 ≤ z ∧ z < ((256 ^ S : Nat) : Int)) : Rt.fit S l = true := by
  unfold Rt.fit; rw [List.all_eq_true]; intro z hz; simpa using h z hz
/-- what holds of a picture that a TGA can hold -/
theorem Tg.holds {k wd hi : Int} {D : Nat} {cs ps : List Int} (ok : Im.Ok k (D : Int) wd hi cs ps) (hs : Tg.sort k (D : Int) ≠ 0) :
    ∃ S : Nat, 1 ≤ S ∧ S ≤ 4 ∧ D = 8 * S ∧ (k = 3 → D = 32) ∧ (∀ v ∈ ps, 0 ≤ v ∧ v ≤ 4294967295) ∧ Rt.fit S (Tg.pts k ps) = true ∧ Rt.fit 3 cs = true ∧ cs.length ≤ 256 := by
  obtain ⟨hd, _, _, hco, _, hW⟩ := ok
  have e1 : (256 ^ 1 : Nat) = 256 := by decide
  have e3 : (256 ^ 3 : Nat) = 16777216 := by decide
  have e4 : (256 ^ 4 : Nat) = 4294967296 := by decide
  have hnc : k ≠ 4 → cs = [] := fun h => List.length_eq_zero_iff.1 (hco.1 h)
  rcases Tg.kinds hd hs with ⟨rfl, rfl⟩ | ⟨rfl, rfl⟩ | ⟨rfl, rfl⟩ | ⟨rfl, rfl⟩
  · have hb : ∀ v ∈ ps, 0 ≤ v ∧ v ≤ 255 := fun v hv => by
      have := hW v hv
      have e : Im.most 1 ((8 : Nat) : Int) cs = 255 := by unfold Im.most; rw [if_neg (by decide)]; decide
      omega
    refine ⟨1, by omega, by omega, rfl, by decide, fun v hv => by have := hb v hv; omega, ?_, ?_, by rw [hnc (by decide)]; decide⟩
    · rw [Tg.pts_plain (by decide)]; exact Tg.fit_of (fun z hz => by have := hb z hz; rw [e1]; omega)
    · rw [hnc (by decide)]; rfl
  · have hb : ∀ v ∈ ps, 0 ≤ v ∧ v ≤ 16777215 := fun v hv => by
      have := hW v hv
      have e : Im.most 2 ((24 : Nat) : Int) cs = 16777215 := by unfold Im.most; rw [if_neg (by decide)]; decide
      omega
    refine ⟨3, by omega, by omega, rfl, by decide, fun v hv => by have := hb v hv; omega, ?_, ?_, by rw [hnc (by decide)]; decide⟩
    · rw [Tg.pts_plain (by decide)]; exact Tg.fit_of (fun z hz => by have := hb z hz; rw [e3]; omega)
    · rw [hnc (by decide)]; rfl
  · have hb : ∀ v ∈ ps, 0 ≤ v ∧ v ≤ 4294967295 := fun v hv => by
      have := hW v hv
      have e : Im.most 3 ((32 : Nat) : Int) cs = 4294967295 := by unfold Im.most; rw [if_neg (by decide)]; decide
      omega
    refine ⟨4, by omega, by omega, rfl, fun _ => rfl, hb, ?_, ?_, by rw [hnc (by decide)]; decide⟩
    · refine Tg.fit_of (fun z hz => ?_)
      unfold Tg.pts at hz
      obtain ⟨p, hp, rfl⟩ := List.mem_map.1 hz
      have := hb p hp
      unfold Tg.pt
      rw [if_pos rfl, e4]
      omega
    · rw [hnc (by decide)]; rfl
  · obtain ⟨h1, h2, h3⟩ := hco.2 rfl
    have hl : cs.length ≤ 256 := h2
    have hb : ∀ v ∈ ps, 0 ≤ v ∧ v ≤ 255 := fun v hv => by
      have := hW v hv
      have e : Im.most 4 ((8 : Nat) : Int) cs = (cs.length : Int) - 1 := by unfold Im.most; rw [if_pos rfl]
      omega
    refine ⟨1, by omega, by omega, rfl, by decide, fun v hv => by have := hb v hv; omega, ?_, ?_, hl⟩
    · rw [Tg.pts_plain (by decide)]; exact Tg.fit_of (fun z hz => by have := hb z hz; rw [e1]; omega)
    · exact Tg.fit_of (fun z hz => by have := h3 z hz; rw [e3]; omega)

end Go.Proofs.Ytcgmmpfckmhahaa

/- TgaPut of the specification, over the contract of l11Put (which is still wanting). -/
namespace Go.Proofs.Ytcgmmpfckmhahaa
open Go.RowKit

end Go.Proofs.Ytcgmmpfckmhahaa
