/- Texts laid together: BgMath, BpMath, Base, IntsWalks, DepWalks, DepOk, RpMath, PutMath, PnBits, StrWalks, FgSpec, PtsWalks, OwnRow, IntOwn, MarkWalks, AppInts, BoxWalks, DrawnWalks, MarkBase, MarkRow, MarkFrom, SzInts, ImgTo, Row64, PicLaw, PnLow, BitRow, BitOwn, InWalks, PowWalks, BpRow, OrdWalks, AppOne, Shelf, BldI, FgImpl, RepHold, SegInts, IterMem, BmRows, RowsC, BldK, PnView, WithinWalks, ImgDef, ImgCol, ImgOk, ImgOk2, ImgOk3, ImgSpec, ImgSpec2, ImgSpec3, AtWalks, ColSeen, PlainView, PixView, PnSeen. -/
import Init
import Derived.WalkKit
import Derived.WalkSpells
import Derived.WalkLawsBesides
import Derived.Laws.CopyOwn
import Derived.Deep.QuietTactic
import Derived.BigQuiet
import Derived.BigRegion
import Derived.Deep.RegionWith
import Derived.OpenShut
import Derived.Test.YtbfeonhokagdjaaDoorProg
import Derived.Laws.MakeOwn
import Derived.Below
import Derived.Laws.BytesString
import Derived.Lib.ItoaNum
import Derived.RangeFuncBox
import Derived.RangeFuncLeaves
import Derived.RangeFuncWrites
import Derived.Shelf.Abstract
import Derived.OwnWalkIn
import Derived.TacticsInMore
import Derived.LoopNIn
import Derived.LoopIn
import Derived.Maps.AppendAt
import Derived.Deep.AppendLies
import Derived.Laws.OwnMore
import Derived.Laws.BitsAllLaws
import Derived.Shelf.Strings.Builder1
import Derived.Shelf.Strconv.Itoa0
import Derived.Shelf.Strconv.Itoa1
import Derived.Shelf.LaysM
import Derived.Shelf.Strconv.Itoa2
import Derived.Shelf.Strconv.Itoa3
import Derived.Lib.AppendIntMem
import Derived.Laws.Tables
import Derived.RangeFuncOwn
import Derived.Deep.RegionHeld3
import Derived.Laws.EntriesVeiled
/- Plain mathematics of bits of a text as a number: the lowest first, or the highest first. -/
namespace Go.Proofs.YtbfeonhokagdjaaDoor
namespace Bg

/-- the highest first, of the first k -/
def big (b : Nat → Nat) : Nat → Nat
  | 0 => 0
  | k + 1 => 2 * big b k + b k

/-- the lowest first, of the first k -/
def low (b : Nat → Nat) : Nat → Nat
  | 0 => 0
  | k + 1 => low b k + b k * 2 ^ k

def num (b : Nat → Nat) (size : Nat) (hi : Bool) : Nat := if hi then big b size else low b size

/-- where in its byte a bit stands -/
def spot (hi : Bool) (i : Nat) : Nat := if hi then 7 - i % 8 else i % 8
theorem spot_le (hi : Bool) (i : Nat) : spot hi i ≤ 7 := by unfold spot; split <;> omega
end Bg
end Go.Proofs.YtbfeonhokagdjaaDoor

/- Plain mathematics of bits that are packed into bytes: each stands where it was put. -/
namespace Go.Proofs.YtbfeonhokagdjaaDoor
namespace Bp

/-- a byte of a text, with one bit more -/
theorem byte_bit : ∀ x, x < 256 → ∀ p, p < 8 → x / 2 ^ p % 2 = 0 → x ||| 2 ^ p = x + 2 ^ p ∧ x + 2 ^ p < 256 ∧ ∀ q, q < 8 → (x + 2 ^ p) / 2 ^ q % 2 = if q = p then 1 else x / 2 ^ q % 2 := by
  decide +kernel

theorem byte_step (x p b : Nat) (hx : x < 256) (hp : p < 8) (hb : b < 2) (h0 : x / 2 ^ p % 2 = 0) :
    x ||| b * 2 ^ p = x + b * 2 ^ p ∧ x + b * 2 ^ p < 256 ∧ ∀ q, q < 8 → (x + b * 2 ^ p) / 2 ^ q % 2 = if q = p then b else x / 2 ^ q % 2 := by
  rcases (by omega : b = 0 ∨ b = 1) with rfl | rfl
  · rw [Nat.zero_mul, Nat.add_zero, Nat.or_zero]
    refine ⟨rfl, hx, fun q hq => ?_⟩
    split
    · next e => rw [e]; exact h0
    · rfl
  · rw [Nat.one_mul]; exact byte_bit x hx p hp h0

/-- the bytes, with room for the next bit -/
def room (n : Nat) (out : List Nat) : List Nat := if n % 8 = 0 then out ++ [0] else out

/-- the bytes of the first n bits -/
def pack (hi : Bool) (f : Nat → Nat) : Nat → List Nat
  | 0 => []
  | n + 1 => (room n (pack hi f n)).set (n / 8) ((room n (pack hi f n)).getD (n / 8) 0 + f n * 2 ^ Bg.spot hi n)

theorem pack_len (hi : Bool) (f : Nat → Nat) : ∀ n, (pack hi f n).length = (n + 7) / 8 := by
  intro n
  induction n with
  | zero => rfl
  | succ n ih =>
    simp only [pack, List.length_set, room]
    split
    · rw [List.length_append, ih]; simp; omega
    · rw [ih]; omega

theorem room_len (hi : Bool) (f : Nat → Nat) (n : Nat) : (room n (pack hi f n)).length = n / 8 + 1 := by
  unfold room
  split
  · rw [List.length_append, pack_len]; simp; omega
  · rw [pack_len]; omega

theorem spot_inj (hi : Bool) (i n : Nat) (h : i / 8 = n / 8) (g : Bg.spot hi i = Bg.spot hi n) : i = n := by
  unfold Bg.spot at g
  split at g <;> omega

structure Inv (hi : Bool) (f : Nat → Nat) (n : Nat) (o : List Nat) : Prop where
  byte : ∀ j, o.getD j 0 < 256
  bit : ∀ i, i / 8 < o.length → o.getD (i / 8) 0 / 2 ^ Bg.spot hi i % 2 = if i < n then f i else 0

theorem getD_snoc (o : List Nat) (j : Nat) : (o ++ [0]).getD j 0 = o.getD j 0 := by
  rw [List.getD_eq_getElem?_getD, List.getD_eq_getElem?_getD]
  by_cases h : j < o.length
  · rw [List.getElem?_append_left h]
  · rw [List.getElem?_append_right (by omega), List.getElem?_eq_none (l := o) (by omega)]
    rcases (by omega : j - o.length = 0 ∨ 0 < j - o.length) with e | e
    · rw [e]; rfl
    · rw [List.getElem?_eq_none (by simp; omega)]

theorem inv_room (hi : Bool) (f : Nat → Nat) (n : Nat) (o : List Nat) (hl : o.length = (n + 7) / 8) (h : Inv hi f n o) : Inv hi f n (room n o) := by
  unfold room
  split
  · next e =>
    refine ⟨fun j => by rw [getD_snoc]; exact h.byte j, fun i hi' => ?_⟩
    rw [getD_snoc]
    by_cases g : i / 8 < o.length
    · exact h.bit i g
    · rw [List.getD_eq_getElem?_getD, List.getElem?_eq_none (by omega)]
      rw [List.length_append] at hi'
      simp at hi'
      rw [if_neg (by omega)]
      simp
  · exact h

theorem getD_set (o : List Nat) (j k x : Nat) (hj : j < o.length) : (o.set j x).getD k 0 = if j = k then x else o.getD k 0 := by
  rw [List.getD_eq_getElem?_getD, List.getElem?_set]
  split
  · first | rfl | (rw [if_pos (by omega)]; rfl)
  · rw [List.getD_eq_getElem?_getD]

theorem inv (hi : Bool) (f : Nat → Nat) (hf : ∀ i, f i < 2) : ∀ n, Inv hi f n (pack hi f n) := by
  intro n
  induction n with
  | zero => exact ⟨fun j => by simp [pack], fun i h => by simp [pack] at h⟩
  | succ n ih =>
    have hr := inv_room hi f n _ (pack_len hi f n) ih
    have hl := room_len hi f n
    simp only [pack]
    generalize room n (pack hi f n) = o at *
    have h0 := hr.bit n (by omega)
    rw [if_neg (by omega)] at h0
    have hs := Bg.spot_le hi n
    obtain ⟨_, s2, s3⟩ := byte_step (o.getD (n / 8) 0) (Bg.spot hi n) (f n) (hr.byte _) (by omega) (hf n) h0
    refine ⟨fun j => ?_, fun i hi' => ?_⟩
    · rw [getD_set _ _ _ _ (by omega)]
      split
      · exact s2
      · exact hr.byte j
    · rw [List.length_set] at hi'
      rw [getD_set _ _ _ _ (by omega)]
      have hq := Bg.spot_le hi i
      split
      · next e =>
        rw [s3 _ (by omega)]
        by_cases g : i = n
        · subst g; rw [if_pos rfl, if_pos (by omega)]
        · rw [if_neg (fun k => g (spot_inj hi i n e.symm k)), e, hr.bit i hi']
          by_cases l : i < n
          · rw [if_pos l, if_pos (by omega)]
          · rw [if_neg l, if_neg (by omega)]
      · next e =>
        rw [hr.bit i hi']
        by_cases l : i < n
        · rw [if_pos l, if_pos (by omega)]
        · have : ¬ i = n := fun k => e (by rw [k])
          rw [if_neg l, if_neg (by omega)]

/-- what a step finds: the byte with room, its bit not set -/
theorem step_facts (hi : Bool) (f : Nat → Nat) (hf : ∀ i, f i < 2) (n : Nat) :
    let x := (room n (pack hi f n)).getD (n / 8) 0
    x < 256 ∧ x + f n * 2 ^ Bg.spot hi n < 256 ∧ x ||| f n * 2 ^ Bg.spot hi n = x + f n * 2 ^ Bg.spot hi n := by
  have hr := inv_room hi f n _ (pack_len hi f n) (inv hi f hf n)
  have hl := room_len hi f n
  have h0 := hr.bit n (by omega)
  rw [if_neg (by omega)] at h0
  have hs := Bg.spot_le hi n
  obtain ⟨s1, s2, _⟩ := byte_step _ (Bg.spot hi n) (f n) (hr.byte (n / 8)) (by omega) (hf n) h0
  exact ⟨hr.byte _, s2, s1⟩

/-- the k-th bit of a number of s bits -/
def bitIn (hi : Bool) (v s k : Nat) : Nat := v / 2 ^ (if hi then s - 1 - k else k) % 2
theorem bitIn_lt (hi : Bool) (v s k : Nat) : bitIn hi v s k < 2 := Nat.mod_lt _ (by omega)

/-- a bit's number and size, ok -/
def Ok (p : Int × Int) : Prop := 0 ≤ p.2 ∧ p.2 ≤ 24 ∧ 0 ≤ p.1 ∧ p.1.toNat < 2 ^ p.2.toNat
def okB (p : Int × Int) : Bool := decide (0 ≤ p.2 ∧ p.2 ≤ 24 ∧ 0 ≤ p.1 ∧ p.1.toNat < 2 ^ p.2.toNat)
/-- all bits, one behind the other -/
def bitsOf (hi : Bool) (l : List (Int × Int)) : List Nat := l.flatMap fun p => (List.range p.2.toNat).map fun k => bitIn hi p.1.toNat p.2.toNat k
def fOf (hi : Bool) (l : List (Int × Int)) (i : Nat) : Nat := (bitsOf hi l).getD i 0
/-- how many bits the first i have -/
def tot (l : List (Int × Int)) (i : Nat) : Nat := ((l.take i).map fun p => p.2.toNat).sum

theorem bitsOf_lt (hi : Bool) (l : List (Int × Int)) : ∀ x ∈ bitsOf hi l, x < 2 := by
  intro x hx
  unfold bitsOf at hx
  rw [List.mem_flatMap] at hx
  obtain ⟨p, _, hp⟩ := hx
  rw [List.mem_map] at hp
  obtain ⟨k, _, rfl⟩ := hp
  exact bitIn_lt _ _ _ _

theorem fOf_lt (hi : Bool) (l : List (Int × Int)) (i : Nat) : fOf hi l i < 2 := by
  unfold fOf
  rw [List.getD_eq_getElem?_getD]
  by_cases h : i < (bitsOf hi l).length
  · rw [List.getElem?_eq_getElem h]; exact bitsOf_lt hi l _ (List.getElem_mem h)
  · rw [List.getElem?_eq_none (by omega)]; simp

theorem tot_succ (l : List (Int × Int)) (i : Nat) (h : i < l.length) : tot l (i + 1) = tot l i + (l[i]).2.toNat := by
  unfold tot
  rw [List.take_succ_eq_append_getElem h, List.map_append, List.sum_append]
  simp

theorem fOf_at (hi : Bool) : ∀ (l : List (Int × Int)) (i k : Nat) (h : i < l.length), k < (l[i]).2.toNat → fOf hi l (tot l i + k) = bitIn hi (l[i]).1.toNat (l[i]).2.toNat k := by
  intro l
  induction l with
  | nil => intro i k h; simp at h
  | cons p l ih =>
    intro i k h hk
    have hb : bitsOf hi (p :: l) = ((List.range p.2.toNat).map fun k => bitIn hi p.1.toNat p.2.toNat k) ++ bitsOf hi l := by simp [bitsOf]
    cases i with
    | zero =>
      simp only [List.getElem_cons_zero] at hk ⊢
      unfold fOf
      rw [hb, List.getD_eq_getElem?_getD]
      have : tot (p :: l) 0 + k = k := by simp [tot]
      rw [this, List.getElem?_append_left (by simpa using hk)]
      simp [hk]
    | succ i =>
      simp only [List.getElem_cons_succ] at hk ⊢
      rw [← ih i k (by simpa using h) hk]
      unfold fOf
      rw [hb, List.getD_eq_getElem?_getD, List.getD_eq_getElem?_getD]
      have e : tot (p :: l) (i + 1) = p.2.toNat + tot l i := by simp [tot]
      rw [List.getElem?_append_right (by simp [e]; omega)]
      congr 2
      simp [e]
      omega

/-- all are ok, and not too many -/
def Fits (l : List (Int × Int)) (i : Nat) : Prop := ∀ j (h : j < l.length), j < i → Ok l[j] ∧ tot l (j + 1) ≤ 72000

/-- the text that bits make -/
def text (hi : Bool) (l : List (Int × Int)) : List Nat := pack hi (fOf hi l) (tot l l.length)
end Bp
end Go.Proofs.YtbfeonhokagdjaaDoor

/- Small facts that the walks share: endings, bytes of a text, bits of a 64-bit number. -/
namespace Go.Proofs.YtbfeonhokagdjaaDoor
open Go.RowKit

theorem ret_int {k : IntKind} {a b : Int} (h : a = b) : Ending.returned (.int k a) = .returned (.int k b) := by rw [h]

theorem ofInt_i64 (a : Nat) (ha : a < 9223372036854775808) : (BitVec.ofInt 64 (a : Int)).toNat = a := by
  rw [BitVec.ofInt_natCast, BitVec.toNat_ofNat]; exact Nat.mod_eq_of_lt (by omega)

theorem wrap_i64_nat (a : Nat) (ha : a < 9223372036854775808) : IntKind.i64.wrap (a : Int) = (a : Int) := by
  simp [IntKind.wrap, IntKind.bits, IntKind.signed]; omega

theorem i64_and_nat (a b : Nat) (ha : a < 9223372036854775808) (hb : b < 9223372036854775808) : bits .and .i64 (a : Int) (b : Int) = ((a &&& b : Nat) : Int) := by
  have hx : a &&& b < 2 ^ 63 := Nat.and_lt_two_pow _ (by omega)
  show IntKind.i64.wrap ((BitVec.ofInt 64 (a : Int) &&& BitVec.ofInt 64 (b : Int)).toNat : Int) = _
  rw [BitVec.toNat_and, ofInt_i64 a ha, ofInt_i64 b hb, wrap_i64_nat _ (by omega)]

/-- a byte of a text, as a number; 0 past its end -/
def byteAt (s : ByteArray) (i : Nat) : Nat := (s.data.toList.getD i 0).toNat
end Go.Proofs.YtbfeonhokagdjaaDoor

/- A list of ints in memory: read, copied, compared. -/
namespace Go.Proofs.YtbfeonhokagdjaaDoor
open Go.RowKit

/-- the slice's cells read as the list -/
def Ints (w : World) (a : Option Addr) (zs : List Int) : Prop :=
  zs = [] ∨ ∃ b off, a = some ⟨b, off, none⟩ ∧ b < w.heap.size ∧ ∀ i (h : i < zs.length), w.cell? ⟨b, off + i, none⟩ = some (.int .i64 zs[i])

theorem Ints.kept {w w' : World} {a : Option Addr} {zs : List Int} (h : Ints w a zs) (hb : Below w.heap.size w w') : Ints w' a zs := by
  rcases h with h | ⟨b, off, rfl, hbB, hc⟩
  · exact .inl h
  · exact .inr ⟨b, off, rfl, Nat.lt_of_lt_of_le hbB hb.size, fun i hi => (hb.cell (p := ⟨b, off + i, none⟩) hbB).trans (hc i hi)⟩

/-- a new row, its first k cells copied -/
def cp (zs : List Int) (k : Nat) : Array Value := ((List.range zs.length).map fun j => Value.int .i64 (if j < k then zs.getD j 0 else 0)).toArray

theorem cp_size (zs : List Int) (k : Nat) : (cp zs k).size = zs.length := by simp [cp]
theorem cp_get (zs : List Int) (k j : Nat) (h : j < zs.length) : (cp zs k)[j]? = some (Value.int .i64 (if j < k then zs.getD j 0 else 0)) := by
  simp [cp, h]
theorem cp_set (zs : List Int) (k : Nat) (h : k < zs.length) : (cp zs k).setIfInBounds k (.int .i64 zs[k]) = cp zs (k + 1) := by
  apply Array.ext_getElem?
  intro j
  rw [Array.getElem?_setIfInBounds, cp_size]
  by_cases hj : j < zs.length
  · rw [cp_get _ _ _ hj, cp_get _ _ _ hj]
    by_cases e : k = j
    · subst e; simp [h]
    · rw [if_neg e]
      by_cases l : j < k
      · rw [if_pos l, if_pos (by omega)]
      · rw [if_neg l, if_neg (by omega)]
  · rw [if_neg (by omega), Array.getElem?_eq_none (by rw [cp_size]; omega), Array.getElem?_eq_none (by rw [cp_size]; omega)]

theorem made_cp (zs : List Int) : madeCells #[Value.int .i64 0] (zs.length * 1) = cp zs 0 := by
  apply Array.ext_getElem?
  intro j
  by_cases hj : j < zs.length
  · rw [cp_get _ _ _ hj, Nat.mul_one]
    unfold madeCells
    simp [hj, Nat.mod_one]
  · rw [Array.getElem?_eq_none (by rw [size_madeCells]; omega), Array.getElem?_eq_none (by rw [cp_size]; omega)]

theorem info_int : (Tryd.prog.info? 3).map (fun i => (i.zero, i.size, i.bytes)) = some (some (.int .i64 0), 1, 8) := by kernel_rfl

theorem make_ints (zs : List Int) (n : Nat) (hn : zs.length = n) (hl : n ≤ 2000000) (w : World) :
    (Instr.makeSlice 22 (.int .i64 (n : Int)) (.int .i64 (n : Int))).run Tryd.prog w = .ok (.slice (some ⟨w.heap.size, 0, none⟩) n n) (w.alloc (.cells (cp zs 0) 3)) := by
  obtain ⟨i0, hi, hz0, hz1, hz2⟩ := info_parts info_int
  have h := run_make (P := Tryd.prog) w 22 3 i0 (.int .i64 0) Tryd.underlying22 hi hz0 .i64 .i64 (n : Int) (n : Int) (by omega) (by omega) (by rw [hz2]; omega) (by omega)
  rw [h, Int.toNat_natCast, hz1, ← made_cp, hn]
  rfl

set_option maxHeartbeats 400000 in
theorem eqInts_same (a : Option Addr) (cap : Nat) (b : Option Addr) (cap' n : Nat) (zs : List Int) (w : World) (h : Ints w a zs) (g : Ints w b zs) (hn : zs.length = n) (hl : n ≤ 2000000) :
    Calls Tryd.prog 23 #[.slice a n cap, .slice b n cap'] w fun e w' => e = .returned (.bool true) ∧ ∃ m, w' = w.drewN m := by
  have HI : Hid (Ints w a zs) := h
  have HG : Hid (Ints w b zs) := g
  clear h g
  have hzg : n ≤ zs.length := by omega
  clear hn
  go_enter Tryd.func23, Tryd.ntmps23
  go_wp2_with fail
  go_loopw [5] (fun i wr => ∃ k m : Nat, k ≤ n ∧ i = .int .i64 k ∧ wr = w.drewN m) (fun i _ => n - (intOf i).toNat)
  case atStart => exact ⟨0, 0, Nat.zero_le _, rfl, rfl⟩
  case round =>
    obtain ⟨k, m, hk, rfl, rfl⟩ := hrel
    by_cases hlt : k < n
    · have hkz : k < zs.length := by omega
      rcases HI.out with h | ⟨b1, off1, rfl, hb1, hc1⟩
      · rw [h] at hkz; simp at hkz
      · rcases HG.out with h | ⟨b2, off2, rfl, hb2, hc2⟩
        · rw [h] at hkz; simp at hkz
        · have e1 := hc1 k hkz
          have e2 := hc2 k hkz
          have hki : (k : Int) < (n : Int) := by omega
          clear hc1 hc2
          generalize zs[k] = x at *
          go_wp2_with fail
          go_region
          all_goals go_wp2_with fail
          all_goals
            go_roundw
            case rel => exact ⟨k + 1, m + 1, by omega, by go_num, rfl⟩
            case measure => simp [intOf]; omega
    · go_wp2_with fail
      go_ret
      exact ⟨rfl, m, rfl⟩
end Go.Proofs.YtbfeonhokagdjaaDoor

/- The depths that a picture's kind can have, and a number found in a list. -/
namespace Go.Proofs.YtbfeonhokagdjaaDoor
open Go.RowKit

set_option maxHeartbeats 400000 in
theorem index_any (a : Option Addr) (n cap : Nat) (zs : List Int) (v : Int) (w : World) (h : Ints w a zs) (hn : zs.length = n) (hl : n ≤ 2000000) :
    Calls Tryd.prog 57 #[.slice a n cap, .int .i64 v] w fun e w' => (∃ r : Int, e = .returned (.int .i64 r) ∧ decide (0 ≤ r) = decide (v ∈ zs)) ∧ w' = w := by
  have HI : Hid (Ints w a zs) := h
  have hzg : n ≤ zs.length := by omega
  have HN : Hid (zs.length = n) := hn
  clear h hn
  go_enter Tryd.func57, Tryd.ntmps57
  go_wp2_with fail
  go_loop [8] (fun i => ∃ k : Nat, k ≤ n ∧ i = .int .i64 k ∧ ∀ j (hj : j < zs.length), j < k → zs[j] ≠ v) (fun i => n - (intOf i).toNat)
  case atStart => exact ⟨0, Nat.zero_le _, rfl, fun j hj h0 => absurd h0 (by omega)⟩
  case round =>
    obtain ⟨k, hk, rfl, hall⟩ := hrel
    have HA : Hid (∀ j (hj : j < zs.length), j < k → zs[j] ≠ v) := hall
    clear hall
    by_cases hlt : k < n
    · have hkz : k < zs.length := by omega
      rcases HI.out with h | ⟨b, off, rfl, hbB, hc⟩
      · rw [h] at hkz; simp at hkz
      · have hck := hc k hkz
        have hki : (k : Int) < (n : Int) := by omega
        clear hc
        by_cases he : v = zs[k]
        · have HM : Hid (v ∈ zs) := by rw [he]; exact List.getElem_mem hkz
          rw [← he] at hck
          clear he
          go_wp2_with fail
          go_ret
          exact ⟨⟨_, rfl, ⟨fun _ => HM.out, fun _ => Int.natCast_nonneg _⟩⟩, rfl⟩
        · have HX : Hid (v ≠ zs[k]) := he
          generalize hg : zs[k] = x at *
          have hG : Hid (zs[k] = x) := hg
          clear hg
          go_wp2_with fail
          go_round
          case rel =>
            refine ⟨k + 1, by omega, by go_num, fun j hj h1 => ?_⟩
            by_cases e : j < k
            · exact HA.out j hj e
            · have : j = k := by omega
              subst this
              rw [hG.out]; exact fun q => HX.out q.symm
          case measure => simp [intOf]; omega
    · have hk' : k = n := by omega
      subst hk'
      have HM : Hid (v ∉ zs) := fun hm => by
        obtain ⟨j, hj, e⟩ := List.getElem_of_mem hm
        exact HA.out j hj (by have := HN.out; omega) e
      clear HA
      go_wp2_with fail
      go_ret
      exact ⟨⟨_, rfl, ⟨fun h => absurd h (by omega), fun h => absurd h HM.out⟩⟩, rfl⟩

set_option maxHeartbeats 400000 in
theorem contains_any (a : Option Addr) (n cap : Nat) (zs : List Int) (v : Int) (w : World) (h : Ints w a zs) (hn : zs.length = n) (hl : n ≤ 2000000) :
    Calls Tryd.prog 46 #[.slice a n cap, .int .i64 v] w fun e w' => e = .returned (.bool (decide (v ∈ zs))) ∧ w' = w := by
  have HC : Hid (Calls Tryd.prog 57 #[.slice a n cap, .int .i64 v] w fun e w' => (∃ r : Int, e = .returned (.int .i64 r) ∧ decide (0 ≤ r) = decide (v ∈ zs)) ∧ w' = w) := index_any a n cap zs v w h hn hl
  clear h hn
  go_enter Tryd.func46, Tryd.ntmps46
  go_wp2_with fail
  refine HC.out.mono ?_
  rintro e w1 ⟨⟨r, rfl, hr⟩, hw1⟩
  subst hw1
  have HR : Hid (decide (0 ≤ r) = decide (v ∈ zs)) := hr
  clear hr HC
  go_wp2_with fail
  go_ret
  exact ⟨by rw [← HR.out]; rfl, rfl⟩

/-- the depths of a kind -/
def depL (kind : Int) : List Int := if kind = 1 ∨ kind = 4 then [1, 2, 4, 8] else if kind = 2 then [24] else if kind = 3 then [32] else []
theorem depL_len (kind : Int) : (depL kind).length ≤ 4 := by unfold depL; split; simp; split; simp; split <;> simp

theorem ints_new (w : World) (zs : List Int) (A : Array Value) (hA : A = (zs.map (fun z => Value.int .i64 z)).toArray) : Ints (w.alloc (.cells A 3)) (some ⟨w.heap.size, 0, none⟩) zs := by
  subst hA
  refine .inr ⟨w.heap.size, 0, rfl, by simp, fun i hi => ?_⟩
  rw [World.cell?_alloc_at _ _ _ _ rfl]
  simp [hi]

set_option maxHeartbeats 400000 in
theorem depthsOf_any (kind : Int) (w : World) :
    Calls Tryd.prog 47 #[.int .i64 kind] w fun e w' => (∃ ao c, e = .returned (.slice ao (depL kind).length c) ∧ Ints w' ao (depL kind)) ∧ Below w.heap.size w w' := by
  by_cases h1 : kind = 1
  · subst h1
    go_enter Tryd.func47, Tryd.ntmps47
    go_wp2_with fail
    go_ret
    exact ⟨⟨_, _, rfl, ints_new w [1, 2, 4, 8] _ rfl⟩, (Below.refl _ _).alloc (Nat.le_refl _) _⟩
  · by_cases h4 : kind = 4
    · subst h4
      go_enter Tryd.func47, Tryd.ntmps47
      go_wp2_with fail
      go_ret
      exact ⟨⟨_, _, rfl, ints_new w [1, 2, 4, 8] _ rfl⟩, (Below.refl _ _).alloc (Nat.le_refl _) _⟩
    · by_cases h2 : kind = 2
      · subst h2
        go_enter Tryd.func47, Tryd.ntmps47
        go_wp2_with fail
        go_ret
        exact ⟨⟨_, _, rfl, ints_new w [24] _ rfl⟩, (Below.refl _ _).alloc (Nat.le_refl _) _⟩
      · by_cases h3 : kind = 3
        · subst h3
          go_enter Tryd.func47, Tryd.ntmps47
          go_wp2_with fail
          go_ret
          exact ⟨⟨_, _, rfl, ints_new w [32] _ rfl⟩, (Below.refl _ _).alloc (Nat.le_refl _) _⟩
        · have HD : Hid (depL kind = []) := by show _ = _; unfold depL; rw [if_neg (by omega), if_neg h2, if_neg h3]
          go_enter Tryd.func47, Tryd.ntmps47
          go_wp2_with fail
          go_ret
          rw [HD.out]
          exact ⟨⟨_, _, rfl, .inl rfl⟩, Below.refl _ _⟩
end Go.Proofs.YtbfeonhokagdjaaDoor

/- The depths that some kind can have. -/
namespace Go.Proofs.YtbfeonhokagdjaaDoor
open Go.RowKit

/-- some kind can have that depth -/
def depB (d : Int) : Bool := decide (d = 1 ∨ d = 2 ∨ d = 4 ∨ d = 8 ∨ d = 24 ∨ d = 32)

theorem depB_yes {k : Nat} {d : Int} (h : d ∈ depL (k : Int)) : depB d = true := by
  unfold depL at h
  unfold depB
  apply decide_eq_true
  split at h
  · simp at h; omega
  · split at h
    · simp at h; omega
    · split at h
      · simp at h; omega
      · simp at h

theorem depB_no {d : Int} (h : ∀ k : Nat, 1 ≤ k → k ≤ 4 → d ∉ depL (k : Int)) : depB d = false := by
  have a := h 1 (by omega) (by omega)
  have b := h 2 (by omega) (by omega)
  have c := h 3 (by omega) (by omega)
  simp [depL] at a b c
  unfold depB
  apply decide_eq_false
  omega

set_option maxHeartbeats 400000 in
theorem depthOk_any (d : Int) (w : World) :
    Calls Tryd.prog 40 #[.int .i64 d] w fun e w' => e = .returned (.bool (depB d)) ∧ Below w.heap.size w w' := by
  go_enter Tryd.func40, Tryd.ntmps40
  go_wp2_with fail
  go_loopw [3] (fun i wr => ∃ k : Nat, 1 ≤ k ∧ k ≤ 5 ∧ i = .int .i64 k ∧ (∀ j : Nat, 1 ≤ j → j < k → d ∉ depL (j : Int)) ∧ Below w.heap.size w wr) (fun i _ => 5 - (intOf i).toNat)
  case atStart => exact ⟨1, by omega, by omega, rfl, fun j h1 h2 => absurd h2 (by omega), Below.refl _ _⟩
  case round =>
    obtain ⟨k, hk1, hk5, rfl, hall, hbel⟩ := hrel
    have HA : Hid (∀ j : Nat, 1 ≤ j → j < k → d ∉ depL (j : Int)) := hall
    clear hall
    by_cases hlt : k ≤ 4
    · have hki : (k : Int) ≤ 4 := by omega
      have hle := depL_len (k : Int)
      go_wp2_with fail
      refine (depthsOf_any (k : Int) wr).mono ?_
      rintro e w1 ⟨⟨ao, c, rfl, hI⟩, b1⟩
      have hb1 := hbel.trans (b1.mono hbel.size)
      have HC : Hid (Calls Tryd.prog 46 #[.slice ao (depL (k : Int)).length c, .int .i64 d] w1 fun e w' => e = .returned (.bool (decide (d ∈ depL (k : Int)))) ∧ w' = w1) := contains_any ao _ c _ d w1 hI rfl (by omega)
      clear hI b1 hbel
      generalize hL : (depL (k : Int)).length = L at *
      clear hL
      go_wp2_with fail
      refine HC.out.mono ?_
      rintro e w2 ⟨rfl, hw2⟩
      subst hw2
      by_cases hm : d ∈ depL (k : Int)
      · have HM : Hid (depB d = true) := depB_yes hm
        rw [decide_eq_true hm]
        clear hm HC
        go_wp2_with fail
        go_ret
        exact ⟨by rw [HM.out]; rfl, hb1⟩
      · have HM : Hid (d ∉ depL (k : Int)) := hm
        rw [decide_eq_false hm]
        clear hm HC
        go_wp2_with fail
        go_roundw
        case rel =>
          refine ⟨k + 1, by omega, by omega, by go_num, fun j h1 h2 => ?_, hb1⟩
          by_cases e : j < k
          · exact HA.out j h1 e
          · have : j = k := by omega
            subst this
            exact HM.out
        case measure => simp [intOf]; omega
    · have HM : Hid (depB d = false) := depB_no (fun j h1 h2 => HA.out j h1 (by omega))
      have hki : ¬ (k : Int) ≤ 4 := by omega
      clear HA
      go_wp2_with fail
      go_ret
      exact ⟨by rw [HM.out]; rfl, hbel⟩
end Go.Proofs.YtbfeonhokagdjaaDoor

/- A row of points as bits, the first one highest. -/
namespace Go.Proofs.YtbfeonhokagdjaaDoor
namespace Rp

/-- the bits of a row, as the specification lists them: 32 bits in two -/
def bl (D : Nat) (zs : List Int) : List (Int × Int) := if D = 32 then zs.flatMap (fun z => [(z / 65536, 16), (z % 65536, 16)]) else zs.map (fun z => (z, (D : Int)))

theorem bl_snoc (D : Nat) (zs : List Int) (z : Int) : bl D (zs ++ [z]) = bl D zs ++ (if D = 32 then [(z / 65536, 16), (z % 65536, 16)] else [(z, (D : Int))]) := by
  unfold bl; split <;> simp

theorem bl_len_32 (zs : List Int) : (bl 32 zs).length = zs.length * 2 := by
  unfold bl; rw [if_pos rfl]
  induction zs with
  | nil => rfl
  | cons z zs ih => simp only [List.flatMap_cons, List.length_append, ih, List.length_cons, List.length_nil]; omega
theorem bl_len (D : Nat) (zs : List Int) (h : D ≤ 24) : (bl D zs).length = zs.length := by
  unfold bl; rw [if_neg (by omega)]; simp

/-- the points are of so many bits -/
def Small (D : Nat) (zs : List Int) : Prop := ∀ z ∈ zs, 0 ≤ z ∧ z.toNat < 2 ^ D

structure Row (D : Nat) (zs : List Int) : Prop where
  fits : Bp.Fits (bl D zs) (bl D zs).length
  tot : Bp.tot (bl D zs) (bl D zs).length = zs.length * D
  bits : ∀ k (h : k < zs.length) q, q < D → Bp.fOf true (bl D zs) (k * D + q) = Bp.bitIn true (zs[k]).toNat D q

theorem tot_map (D : Nat) (zs : List Int) : ∀ i, i ≤ zs.length → Bp.tot (zs.map (fun z => (z, (D : Int)))) i = i * D := by
  intro i
  induction i with
  | zero => intro _; simp [Bp.tot]
  | succ i ih =>
    intro h
    rw [Bp.tot_succ _ i (by rw [List.length_map]; omega), ih (by omega), Nat.add_mul]
    simp

theorem row_small (D : Nat) (zs : List Int) (hD : D ≤ 24) (hl : zs.length ≤ 1000) (h : Small D zs) : Row D zs := by
  have e : bl D zs = zs.map (fun z => (z, (D : Int))) := by unfold bl; rw [if_neg (by omega)]
  refine ⟨?_, ?_, ?_⟩
  · rw [e]
    intro j hj _
    have hj' : j < zs.length := by simpa using hj
    have hz := h zs[j] (List.getElem_mem hj')
    refine ⟨⟨?_, ?_, ?_, ?_⟩, ?_⟩
    · simp
    · simp; omega
    · simpa using hz.1
    · simpa using hz.2
    · rw [tot_map D zs (j + 1) (by omega)]
      exact Nat.le_trans (Nat.mul_le_mul (show j + 1 ≤ 1000 by omega) hD) (by omega)
  · rw [e, tot_map D zs _ (by simp)]; simp
  · intro k hk q hq
    rw [e]
    have hk' : k < (zs.map (fun z => (z, (D : Int)))).length := by simpa using hk
    have := Bp.fOf_at true (zs.map (fun z => (z, (D : Int)))) k q hk' (by simpa using hq)
    rw [tot_map D zs k (by omega)] at this
    simpa using this

/-- the two halves of each point -/
def two (zs : List Int) : List (Int × Int) := zs.flatMap (fun z => [(z / 65536, 16), (z % 65536, 16)])
theorem two_len (zs : List Int) : (two zs).length = zs.length * 2 := by have := bl_len_32 zs; unfold bl at this; rw [if_pos rfl] at this; exact this
theorem two_get : ∀ (zs : List Int) (k : Nat) (h : k < zs.length), ∃ (h0 : k * 2 < (two zs).length) (h1 : k * 2 + 1 < (two zs).length), (two zs)[k * 2] = (zs[k] / 65536, 16) ∧ (two zs)[k * 2 + 1] = (zs[k] % 65536, 16)
  | [], k, h => by simp at h
  | z :: zs, 0, h => ⟨by rw [two_len]; simp, by rw [two_len]; simp; omega, rfl, rfl⟩
  | z :: zs, k + 1, h => by
    obtain ⟨h0, h1, e0, e1⟩ := two_get zs k (by simpa using h)
    have a0 : (k + 1) * 2 < (two (z :: zs)).length := by rw [two_len] at h0 ⊢; simp; omega
    have a1 : (k + 1) * 2 + 1 < (two (z :: zs)).length := by rw [two_len] at h1 ⊢; simp; omega
    refine ⟨a0, a1, ?_, ?_⟩
    · have : (two (z :: zs))[(k + 1) * 2]? = (two zs)[k * 2]? := by
        rw [show (k + 1) * 2 = k * 2 + 1 + 1 by omega]; simp [two]
      rw [List.getElem?_eq_getElem a0, List.getElem?_eq_getElem h0, e0] at this
      simpa using this
    · have : (two (z :: zs))[(k + 1) * 2 + 1]? = (two zs)[k * 2 + 1]? := by
        rw [show (k + 1) * 2 + 1 = k * 2 + 1 + 1 + 1 by omega]; simp [two]
      rw [List.getElem?_eq_getElem a1, List.getElem?_eq_getElem h1, e1] at this
      simpa using this

theorem two_size (zs : List Int) (j : Nat) (h : j < (two zs).length) : ((two zs)[j]).2 = 16 := by
  have hm := List.getElem_mem h
  unfold two at hm
  rw [List.mem_flatMap] at hm
  obtain ⟨z, _, hz⟩ := hm
  have key : ∀ p : Int × Int, p ∈ [(z / 65536, (16 : Int)), (z % 65536, 16)] → p.2 = 16 := by
    intro p hp; simp at hp; rcases hp with rfl | rfl <;> rfl
  exact key _ hz

theorem tot_two (zs : List Int) : ∀ i, i ≤ (two zs).length → Bp.tot (two zs) i = i * 16 := by
  intro i
  induction i with
  | zero => intro _; simp [Bp.tot]
  | succ i ih =>
    intro h
    rw [Bp.tot_succ _ i (by omega), ih (by omega), two_size zs i (by omega), Nat.add_mul]
    rfl

theorem high_bit (v q : Nat) (hq : q < 16) : Bp.bitIn true (v / 65536) 16 q = Bp.bitIn true v 32 q := by
  unfold Bp.bitIn
  simp only [if_true]
  rw [show (65536 : Nat) = 2 ^ 16 from rfl, Nat.div_div_eq_div_mul, ← Nat.pow_add]
  congr 3
  omega
theorem low_bit (v q : Nat) (hq : q < 16) : Bp.bitIn true (v % 65536) 16 q = Bp.bitIn true v 32 (16 + q) := by
  unfold Bp.bitIn
  simp only [if_true]
  have e : 32 - 1 - (16 + q) = 16 - 1 - q := by omega
  rw [e]
  rw [show (65536 : Nat) = 2 ^ 16 from rfl]
  have h := Nat.mod_pow_succ (b := 2) (x := v) (k := 16 - 1 - q)
  have hd : ∀ x : Nat, x / 2 ^ (16 - 1 - q) % 2 = (x % 2 ^ (16 - 1 - q + 1)) / 2 ^ (16 - 1 - q) := by
    intro x; rw [Nat.pow_succ, Nat.mod_mul_right_div_self]
  rw [hd v, hd (v % 2 ^ 16)]
  congr 1
  rw [Nat.mod_mod_of_dvd]
  exact Nat.pow_dvd_pow 2 (by omega)

theorem row_32 (zs : List Int) (hl : zs.length ≤ 1000) (h : Small 32 zs) : Row 32 zs := by
  have e : bl 32 zs = two zs := by unfold bl; rw [if_pos rfl]; rfl
  have hlen := two_len zs
  refine ⟨?_, ?_, ?_⟩
  · rw [e]
    intro j hj _
    have hk : j / 2 < zs.length := by omega
    obtain ⟨h0, h1, e0, e1⟩ := two_get zs (j / 2) hk
    have hz := h zs[j / 2] (List.getElem_mem hk)
    obtain ⟨v, hv⟩ := Int.eq_ofNat_of_zero_le hz.1
    rw [hv] at e0 e1 hz
    have hv2 : v < 4294967296 := hz.2
    refine ⟨?_, ?_⟩
    · rcases (by omega : j = j / 2 * 2 ∨ j = j / 2 * 2 + 1) with g | g
      · have : (two zs)[j] = ((v : Int) / 65536, 16) := by rw [← e0]; congr 1
        rw [this]
        refine ⟨by simp, by simp, ?_, ?_⟩
        · show (0 : Int) ≤ (v : Int) / 65536; omega
        · show ((v : Int) / 65536).toNat < 65536; omega
      · have : (two zs)[j] = ((v : Int) % 65536, 16) := by rw [← e1]; congr 1
        rw [this]
        refine ⟨by simp, by simp, ?_, ?_⟩
        · show (0 : Int) ≤ (v : Int) % 65536; omega
        · show ((v : Int) % 65536).toNat < 65536; omega
    · rw [tot_two zs (j + 1) (by omega)]; omega
  · rw [e, tot_two zs _ (Nat.le_refl _), hlen]; omega
  · intro k hk q hq
    rw [e]
    obtain ⟨h0, h1, e0, e1⟩ := two_get zs k hk
    have hz := h zs[k] (List.getElem_mem hk)
    obtain ⟨v, hv⟩ := Int.eq_ofNat_of_zero_le hz.1
    rw [hv] at e0 e1 ⊢
    rw [Int.toNat_natCast]
    by_cases g : q < 16
    · have := Bp.fOf_at true (two zs) (k * 2) q h0 (by rw [e0]; exact g)
      rw [tot_two zs _ (by omega), e0] at this
      rw [show k * 32 + q = k * 2 * 16 + q by omega, this, ← high_bit v q g]
      show Bp.bitIn true ((v : Int) / 65536).toNat 16 q = _
      congr 1
    · have := Bp.fOf_at true (two zs) (k * 2 + 1) (q - 16) h1 (by rw [e1]; show q - 16 < 16; omega)
      rw [tot_two zs _ (by omega), e1] at this
      rw [show k * 32 + q = (k * 2 + 1) * 16 + (q - 16) by omega, this]
      have g2 := low_bit v (q - 16) (by omega)
      rw [show 16 + (q - 16) = q by omega] at g2
      rw [← g2]
      show Bp.bitIn true ((v : Int) % 65536).toNat 16 _ = _
      congr 1

/-- a row that can be packed -/
def Fit (d : Int) (zs : List Int) : Prop := depB d = true ∧ zs.length ≤ 1000 ∧ Small d.toNat zs
open Classical in
/-- the bytes of a row; none if it can't be packed -/
noncomputable def put (d : Int) (zs : List Int) : List Nat := if Fit d zs then Bp.text true (bl d.toNat zs) else []
theorem put_yes {d : Int} {zs : List Int} (h : Fit d zs) : put d zs = Bp.text true (bl d.toNat zs) := by unfold put; rw [if_pos h]
theorem put_no {d : Int} {zs : List Int} (h : ¬ Fit d zs) : put d zs = [] := by unfold put; rw [if_neg h]
end Rp
end Go.Proofs.YtbfeonhokagdjaaDoor

/- Plain mathematics of writing a number in bytes. -/
namespace Go.Proofs.YtbfeonhokagdjaaDoor
namespace Pt

/-- the bytes of a number, the lowest first -/
def low : Nat → Nat → List UInt8
  | _, 0 => []
  | n, k + 1 => UInt8.ofNat (n % 256) :: low (n / 256) k

theorem low_len : ∀ (k n : Nat), (low n k).length = k := by
  intro k
  induction k with
  | zero => intro n; rfl
  | succ k ih => intro n; simp [low, ih]

/-- one byte more, behind -/
theorem low_snoc : ∀ (k n : Nat), low n (k + 1) = low n k ++ [UInt8.ofNat (n / 256 ^ k % 256)] := by
  intro k
  induction k with
  | zero => intro n; simp [low]
  | succ k ih =>
    intro n
    show UInt8.ofNat (n % 256) :: low (n / 256) (k + 1) = _
    rw [ih (n / 256), Nat.div_div_eq_div_mul]
    simp only [low, List.cons_append]
    rw [Nat.pow_succ, Nat.mul_comm 256]

/-- what 'NumPut' writes -/
def num (n size : Nat) (hi : Bool) : List UInt8 := if hi then (low n size).reverse else low n size

end Pt
end Go.Proofs.YtbfeonhokagdjaaDoor

/- Numbers of 24 bits, packed from the highest bit on, are three bytes each (mathematics). -/
namespace Go.Proofs.YtbfeonhokagdjaaDoor
namespace Pn
def valT (f : Nat → Nat) : Nat → Nat
  | 0 => 0
  | k + 1 => valT f k + f k * 2 ^ (7 - k)
theorem set_lastT (o : List Nat) (x y : Nat) : (o ++ [x]).set o.length y = o ++ [y] := by
  rw [List.set_append_right _ _ (Nat.le_refl _), Nat.sub_self]
  rfl
theorem getD_lastT (o : List Nat) (x : Nat) : (o ++ [x]).getD o.length 0 = x := by
  rw [List.getD_eq_getElem?_getD, List.getElem?_append_right (Nat.le_refl _), Nat.sub_self]
  rfl
theorem packT_succ (f : Nat → Nat) (n : Nat) : Bp.pack true f (n + 1) = (Bp.room n (Bp.pack true f n)).set (n / 8) ((Bp.room n (Bp.pack true f n)).getD (n / 8) 0 + f n * 2 ^ (7 - n % 8)) := by
  show List.set _ _ (_ + _ * 2 ^ Bg.spot true n) = _
  unfold Bg.spot
  rfl
theorem packT_more (f : Nat → Nat) {n : Nat} (h : n % 8 = 0) : ∀ k, k < 8 → Bp.pack true f (n + (k + 1)) = Bp.pack true f n ++ [valT (fun j => f (n + j)) (k + 1)]
  | 0, _ => by
    have hl := Bp.pack_len true f n
    have e : n / 8 = (Bp.pack true f n).length := by omega
    rw [packT_succ, Bp.room, if_pos h, e, getD_lastT, set_lastT, h]
    rfl
  | k + 1, hk => by
    have ih := packT_more f h k (by omega)
    have hl := Bp.pack_len true f n
    have e : (n + (k + 1)) / 8 = (Bp.pack true f n).length := by omega
    have e2 : (n + (k + 1)) % 8 = k + 1 := by omega
    show Bp.pack true f ((n + (k + 1)) + 1) = _
    rw [packT_succ, Bp.room, if_neg (by omega), ih, e, getD_lastT, set_lastT, e2]
    rfl
theorem valT_8 (u : Nat) : valT (fun j => u / 2 ^ (7 - j) % 2) 8 = u % 256 := by
  simp only [valT, Nat.reducePow, Nat.reduceSub, Nat.zero_add, Nat.div_one, Nat.mul_one]
  omega
theorem valT_same {f g : Nat → Nat} : ∀ {k : Nat}, (∀ j, j < k → f j = g j) → valT f k = valT g k
  | 0, _ => rfl
  | k + 1, h => by
    show valT f k + f k * _ = valT g k + g k * _
    rw [valT_same (k := k) (fun j hj => h j (by omega)), h k (by omega)]
/-- the three bytes of a number -/
def b3 (z : Nat) : List Nat := [z / 65536 % 256, z / 256 % 256, z % 256]
theorem packT_24 (f : Nat → Nat) {n : Nat} (h : n % 8 = 0) (z : Nat) (hf : ∀ k, k < 24 → f (n + k) = z / 2 ^ (23 - k) % 2) : Bp.pack true f (n + 24) = Bp.pack true f n ++ b3 z := by
  have a := packT_more f (n := n) h 7 (by omega)
  have b := packT_more f (n := n + 8) (by omega) 7 (by omega)
  have c := packT_more f (n := n + 16) (by omega) 7 (by omega)
  have ea : valT (fun j => f (n + j)) 8 = z / 65536 % 256 := by
    rw [← valT_8 (z / 65536)]
    refine valT_same (fun j hj => ?_)
    rw [hf j (by omega), Nat.div_div_eq_div_mul, show (65536 : Nat) = 2 ^ 16 from rfl, ← Nat.pow_add, show 16 + (7 - j) = 23 - j by omega]
  have eb : valT (fun j => f (n + 8 + j)) 8 = z / 256 % 256 := by
    rw [← valT_8 (z / 256)]
    refine valT_same (fun j hj => ?_)
    rw [Nat.add_assoc, hf (8 + j) (by omega), Nat.div_div_eq_div_mul, show (256 : Nat) = 2 ^ 8 from rfl, ← Nat.pow_add, show 8 + (7 - j) = 23 - (8 + j) by omega]
  have ec : valT (fun j => f (n + 16 + j)) 8 = z % 256 := by
    rw [← valT_8 z]
    refine valT_same (fun j hj => ?_)
    rw [Nat.add_assoc, hf (16 + j) (by omega), show 23 - (16 + j) = 7 - j by omega]
  rw [show n + 24 = n + 16 + (7 + 1) by omega, c, show n + 16 = n + 8 + (7 + 1) by omega, b, show n + 8 = n + (7 + 1) by omega, a]
  rw [show 7 + 1 = 8 from rfl, ea, eb, show n + 8 + 8 = n + 16 by omega, ec, List.append_assoc, List.append_assoc]
  rfl
theorem tot24 (l : List Int) : ∀ i, i ≤ l.length → Bp.tot (Rp.bl 24 l) i = 24 * i
  | 0, _ => rfl
  | i + 1, h => by
    have hl : (Rp.bl 24 l).length = l.length := by unfold Rp.bl; rw [if_neg (by decide), List.length_map]
    rw [Bp.tot_succ _ i (by omega), tot24 l i (by omega)]
    have e : ((Rp.bl 24 l)[i]'(by omega)).2 = 24 := by
      unfold Rp.bl
      simp
    rw [e]
    show 24 * i + 24 = _
    omega
theorem text24 (l : List Int) : Bp.text true (Rp.bl 24 l) = l.flatMap (fun z => b3 z.toNat) := by
  have hl : (Rp.bl 24 l).length = l.length := by unfold Rp.bl; rw [if_neg (by decide), List.length_map]
  have key : ∀ i, i ≤ l.length → Bp.pack true (Bp.fOf true (Rp.bl 24 l)) (24 * i) = (l.take i).flatMap (fun z => b3 z.toNat) := by
    intro i
    induction i with
    | zero => exact fun _ => rfl
    | succ i ih =>
      intro h
      have hi : i < l.length := by omega
      have e1 : ((Rp.bl 24 l)[i]'(by omega)).1 = l[i] := by unfold Rp.bl; simp
      have e2 : ((Rp.bl 24 l)[i]'(by omega)).2 = 24 := by unfold Rp.bl; simp
      rw [show 24 * (i + 1) = 24 * i + 24 by omega, packT_24 _ (by omega) (l[i]).toNat ?_, ih (by omega), List.take_succ_eq_append_getElem hi, List.flatMap_append]
      · simp
      · intro k hk
        have := Bp.fOf_at true (Rp.bl 24 l) i k (by omega) (by rw [e2]; exact hk)
        rw [tot24 l i (by omega), e1, e2] at this
        rw [this]
        unfold Bp.bitIn
        rw [if_pos rfl]
        show _ / 2 ^ (24 - 1 - k) % 2 = _
        rw [show 24 - 1 - k = 23 - k by omega]
  unfold Bp.text
  rw [hl, tot24 l _ (Nat.le_refl _), key _ (Nat.le_refl _), List.take_length]
end Pn
end Go.Proofs.YtbfeonhokagdjaaDoor

/- A text out of bytes that lie in memory. -/
namespace Go.Proofs.YtbfeonhokagdjaaDoor
open Go.RowKit

theorem push_all (ns : List Nat) : ∀ a : Array UInt8, (ns.map (fun n : Nat => (n : Int))).foldl (fun (r : ByteArray) (n : Int) => r.push (UInt8.ofNat n.toNat)) ⟨a⟩ = ⟨a ++ (ns.map UInt8.ofNat).toArray⟩ := by
  induction ns with
  | nil => intro a; simp
  | cons n ns ih =>
    intro a
    simp only [List.map_cons, List.foldl_cons]
    have e : (ByteArray.mk a).push (UInt8.ofNat (n : Int).toNat) = ⟨a.push (UInt8.ofNat n)⟩ := by rw [Int.toNat_natCast]; rfl
    rw [e, ih]
    simp

/-- the text of the bytes ns, which lie at a place -/
theorem run_text (w : World) (a : Addr) (cap : Nat) (ns : List Nat) (h : ∀ j v, (ns.map (fun n : Nat => Value.int .u8 (n : Int)))[j]? = some v → w.cell? (a.add j) = some v) :
    Sem.run Tryd.prog (convert 35 9 (.slice (some a) ns.length cap)) w = .ok (.string ⟨(ns.map UInt8.ofNat).toArray⟩) w := by
  rw [run_convert_bytes_string w 35 9 5 _ _ _ Tryd.underlying35 Tryd.underlying5 Tryd.underlying9]
  have hl := run_loadCells_list (P := Tryd.prog) w a (ns.map (fun n : Nat => Value.int .u8 (n : Int))) h
  rw [List.length_map] at hl
  rw [run_bytesToString w a ns.length cap (ns.map (fun n : Nat => (n : Int))) (by rw [hl]; congr 2; simp)]
  congr 2
  have h2 := push_all ns #[]
  rw [Array.empty_append] at h2
  exact h2

/-- the text of one byte, just laid -/
theorem run_text1 (w : World) (c : Nat) (b : Nat) (hb : b = w.heap.size) :
    Sem.run Tryd.prog (convert 35 9 (.slice (some ⟨b, 0, none⟩) 1 1)) (w.alloc (.cells #[.int .u8 (c : Int)] 5)) = .ok (.string ⟨#[UInt8.ofNat c]⟩) (w.alloc (.cells #[.int .u8 (c : Int)] 5)) := by
  subst hb
  refine run_text _ ⟨w.heap.size, 0, none⟩ 1 [c] ?_
  intro j v hj
  match j, hj with
  | 0, hj => simp at hj; subst hj; simp [Addr.add]

end Go.Proofs.YtbfeonhokagdjaaDoor

/- Numbers and lists in figures, as the specification writes them. -/
namespace Go.Proofs.YtbfeonhokagdjaaDoor
open Go.RowKit

theorem dec_small {n : Nat} (h : n < 10) : Lib.decDigits n = [UInt8.ofNat (48 + n)] := by rw [Lib.decDigits, dif_pos h]
theorem dec_big {n : Nat} (h : ¬ n < 10) : Lib.decDigits n = Lib.decDigits (n / 10) ++ [UInt8.ofNat (48 + n % 10)] := by rw [Lib.decDigits, dif_neg h]
theorem dec_len : ∀ (k n : Nat), n < 10 ^ (k + 1) → (Lib.decDigits n).length ≤ k + 1
  | 0, n, h => by rw [dec_small (by simpa using h)]; simp
  | k + 1, n, h => by
    by_cases h10 : n < 10
    · rw [dec_small h10]; simp
    · rw [dec_big h10, List.length_append, List.length_singleton]
      have h2 : n / 10 < 10 ^ (k + 1) := by
        have e : 10 ^ (k + 1 + 1) = 10 ^ (k + 1) * 10 := Nat.pow_succ ..
        omega
      have := dec_len k (n / 10) h2
      omega
theorem dec_short {n : Nat} (h : n ≤ 4294967295) : (Lib.decDigits n).length ≤ 10 := by
  have e : (10 : Nat) ^ (9 + 1) = 10000000000 := by decide
  exact dec_len 9 n (by omega)
theorem str_two (a b : List UInt8) : (ByteArray.mk a.toArray ++ ByteArray.mk b.toArray) = ByteArray.mk (a ++ b).toArray := ByteArray.mk_append_mk a b
theorem ret_str {a b : ByteArray} (h : a = b) : Ending.returned (.string a) = .returned (.string b) := by rw [h]
theorem str_size (a : List UInt8) : (ByteArray.mk a.toArray).size = a.length := by simp [ByteArray.size]
set_option maxHeartbeats 2000000 in
set_option maxRecDepth 20000 in
theorem l1Dec_any : ∀ (n : Nat), n ≤ 4294967295 → ∀ w, Calls Tryd.prog 28 #[.int .i64 (n : Int)] w fun e w' => e = .returned (.string ⟨(Lib.decDigits n).toArray⟩) ∧ Below w.heap.size w w' := by
  intro n
  induction n using Nat.strongRecOn with
  | _ n ih =>
    intro hn w
    have HIH : Hid (∀ m, m < n → ∀ w, Calls Tryd.prog 28 #[.int .i64 (m : Int)] w fun e w' => e = .returned (.string ⟨(Lib.decDigits m).toArray⟩) ∧ Below w.heap.size w w') := fun m hm w => ih m hm (by omega) w
    clear ih
    have h0 : ¬ (n : Int) < -9223372036854775807 := by omega
    have h1 : ¬ (n : Int) < 0 := by omega
    by_cases h : n < 10
    · have hi : (n : Int) < 10 := by omega
      obtain ⟨c, hc⟩ : ∃ c, c = 48 + n := ⟨_, rfl⟩
      have ec : (48 : Int) + (n : Int) = (c : Int) := by omega
      have hc256 : c < 256 := by omega
      have wc : IntKind.u8.wrap (c : Int) = (c : Int) := by
        rw [IntKind.wrap_u8]
        omega
      have hcv := run_text1 w c w.heap.size rfl
      have HE : Hid (ByteArray.mk #[UInt8.ofNat c] = ⟨(Lib.decDigits n).toArray⟩) := by rw [dec_small h, hc]; exact rfl
      clear hc HIH
      go_enter Tryd.func28, Tryd.ntmps28
      go_wp2_with fail
      go_ret
      exact ⟨ret_str HE.out, (Below.refl _ _).alloc (Nat.le_refl _) _⟩
    · have hi : ¬ (n : Int) < 10 := by omega
      have HD : Hid (Lib.decDigits n = Lib.decDigits (n / 10) ++ [UInt8.ofNat (48 + n % 10)]) := dec_big h
      obtain ⟨q, hq⟩ : ∃ q, q = n / 10 := ⟨_, rfl⟩
      obtain ⟨r, hr⟩ : ∃ r, r = n % 10 := ⟨_, rfl⟩
      have eq : (n : Int) / 10 = (q : Int) := by omega
      have er : (n : Int) % 10 = (r : Int) := by omega
      have HQ := HIH.out q (by omega)
      have HR := HIH.out r (by omega)
      have l1 := dec_short (n := q) (by omega)
      have l2 := dec_short (n := r) (by omega)
      rw [← hq, ← hr] at HD
      rw [dec_small (n := r) (by omega)] at HR l2
      have HQ' : Hid (∀ w, Calls Tryd.prog 28 #[.int .i64 (q : Int)] w fun e w' => e = .returned (.string ⟨(Lib.decDigits q).toArray⟩) ∧ Below w.heap.size w w') := HQ
      have HR' : Hid (∀ w, Calls Tryd.prog 28 #[.int .i64 (r : Int)] w fun e w' => e = .returned (.string ⟨[UInt8.ofNat (48 + r)].toArray⟩) ∧ Below w.heap.size w w') := HR
      rw [HD.out]
      clear HIH HQ HR hq hr
      generalize Lib.decDigits q = DQ at *
      generalize [UInt8.ofNat (48 + r)] = DR at *
      go_enter Tryd.func28, Tryd.ntmps28
      go_wp2_with fail
      refine (HQ'.out _).mono ?_
      rintro e w1 ⟨rfl, b1⟩
      go_wp2_with fail
      refine (HR'.out _).mono ?_
      rintro e w2 ⟨rfl, b2⟩
      have s1 := str_size DQ
      have s2 := str_size DR
      go_wp2_with fail
      go_ret
      exact ⟨ret_str (str_two DQ DR), b1.trans (b2.mono b1.size)⟩
theorem Ints.cellAt {w : World} {a : Option Addr} {l : List Int} (h : Ints w a l) {i : Nat} (hi : i < l.length) : ∃ b off, a = some ⟨b, off, none⟩ ∧ b < w.heap.size ∧ w.cell? ⟨b, off + i, none⟩ = some (.int .i64 l[i]) := by
  rcases h with e | ⟨b, off, rfl, hb, hc⟩
  · rw [e] at hi; simp at hi
  · exact ⟨b, off, rfl, hb, hc i hi⟩
/-- numbers in figures, a blank ahead of each -/
def figs (l : List Int) : List UInt8 := l.flatMap (fun n => 32 :: Lib.decDigits n.toNat)
theorem figs_snoc (l : List Int) (n : Int) : figs (l ++ [n]) = figs l ++ (32 :: Lib.decDigits n.toNat) := by simp [figs]
def Figs (l : List Int) : Prop := ∀ n ∈ l, 0 ≤ n ∧ n ≤ 4294967295
theorem figs_len {l : List Int} (h : Figs l) : (figs l).length ≤ 11 * l.length := by
  induction l with
  | nil => simp [figs]
  | cons n l ih =>
    have h1 := ih (fun m hm => h m (List.mem_cons_of_mem _ hm))
    have h2 := h n (List.mem_cons_self ..)
    have h3 := dec_short (n := n.toNat) (by omega)
    unfold figs at *
    rw [List.flatMap_cons, List.length_append, List.length_cons, List.length_cons]
    omega
end Go.Proofs.YtbfeonhokagdjaaDoor

/- The points of what is seen, row by row: pointsOf and its iterator. -/
namespace Go.Proofs.YtbfeonhokagdjaaDoor
open Go.RowKit Go.Shelf

attribute [local go_sem] Oper.semAt_some

/-- a view, told by what its methods answer -/
structure Seen (T : TypeId) (V : Value) (fs : Nat) (rs : Value) (fa : Nat) (ra : Value) (wd hi : Nat) (f : Nat → Nat → Int) (n₀ : Nat) (w : World) : Prop where
  ms : ∀ w', (method 217 T V "loop.example/intarsia/impl.size").run Tryd.prog w' = .ok (fs, rs) w'
  ns : ∀ w', (nilAhead 217 T V "loop.example/intarsia/impl.size").run Tryd.prog w' = .ok (some false) w'
  ma : ∀ w', (method 217 T V "loop.example/intarsia/impl.at").run Tryd.prog w' = .ok (fa, ra) w'
  na : ∀ w', (nilAhead 217 T V "loop.example/intarsia/impl.at").run Tryd.prog w' = .ok (some false) w'
  es : ∀ args w', (callFunc fs args).run Tryd.prog w' = .ok (.enter fs args) w'
  ea : ∀ args w', (callFunc fa args).run Tryd.prog w' = .ok (.enter fa args) w'
  size : ∀ w', Below n₀ w w' → Calls Tryd.prog fs #[rs] w' fun e w'' => e = .returned (.tuple #[.int .i64 (wd : Int), .int .i64 (hi : Int)]) ∧ Below w'.heap.size w' w''
  at' : ∀ (w' : World) (x y : Nat), x < wd → y < hi → Below n₀ w w' → Calls Tryd.prog fa #[ra, .int .i64 (x : Int), .int .i64 (y : Int)] w' fun e w'' => e = .returned (.int .i64 (f x y)) ∧ Below w'.heap.size w' w''

theorem grown_of_below {w w' : World} (h : Below w.heap.size w w') : w.grownBy w' none := ⟨h.os, h.tape, h.output, h.size, fun k hk _ => h.block k hk⟩

end Go.Proofs.YtbfeonhokagdjaaDoor

/- A new row of ints, written cell by cell. -/
namespace Go.Proofs.YtbfeonhokagdjaaDoor
open Go.RowKit

/-- a list of the call's own, in a block from lo on: its cells can be written -/
def Owns (w : World) (lo : Nat) (a : Option Addr) (l : List Int) : Prop :=
  l = [] ∨ ∃ b, a = some ⟨b, 0, none⟩ ∧ lo ≤ b ∧ b < w.heap.size ∧ ∀ i (h : i < l.length), w.cell? ⟨b, i, none⟩ = some (.int .i64 l[i]) ∧ w.frozen? ⟨b, i, none⟩ = false

theorem Owns.ints {w : World} {lo : Nat} {a : Option Addr} {l : List Int} (h : Owns w lo a l) : Ints w a l := by
  rcases h with h | ⟨b, rfl, _, hb, hc⟩
  · exact .inl h
  · exact .inr ⟨b, 0, rfl, hb, fun i hi => by rw [Nat.zero_add]; exact (hc i hi).1⟩

end Go.Proofs.YtbfeonhokagdjaaDoor

/- A list of ints that a call gathers in a row of its own. -/
namespace Go.Proofs.YtbfeonhokagdjaaDoor
open Go.RowKit

/-- ints as they lie in memory -/
def intsV (l : List Int) : List Value := l.map fun x : Int => Value.int .i64 x
theorem intsV_len (l : List Int) : (intsV l).length = l.length := by simp [intsV]
theorem intsV_get (l : List Int) (j : Nat) (h : j < l.length) : (intsV l)[j]? = some (.int .i64 l[j]) := by simp [intsV, h]
theorem intsV_snoc (l : List Int) (x : Int) : intsV l ++ [.int .i64 x] = intsV (l ++ [x]) := by simp [intsV]

/-- the slice v owns the ints l, n of them -/
def OwnI (w : World) (B : Nat) (v : Value) (n : Nat) (l : List Int) : Prop := w.ownsRow B 3 1 v n (intsV l)

theorem OwnI.len {w : World} {B n : Nat} {v : Value} {l : List Int} (h : OwnI w B v n l) : l.length = n := by
  have := h.1
  rw [intsV_len] at this; omega

theorem OwnI.owns {w : World} {B n : Nat} {v : Value} {l : List Int} (h : OwnI w B v n l) : ∃ ao cap, v = .slice ao n cap ∧ Owns w B ao l := by
  have hl := h.len
  rcases h.2 with ⟨rfl, h0⟩ | ⟨g, cap, cur, rfl, hgB, hg, _, _, _, ht⟩
  · subst h0
    exact ⟨none, 0, rfl, .inl (List.eq_nil_of_length_eq_zero hl)⟩
  · refine ⟨some ⟨g, 0, none⟩, cap, rfl, .inr ⟨g, rfl, hgB, ?_, fun i hi => ⟨?_, ?_⟩⟩⟩
    · rcases Nat.lt_or_ge g w.heap.size with hlt | hge
      · exact hlt
      · rw [Array.getElem?_eq_none hge] at hg; cases hg
    · exact (World.ownsRow.cellAt h i (by omega)).trans (intsV_get l i hi)
    · exact World.ownsRow.frozenAt h i

theorem OwnI.more {w : World} {B n g cap : Nat} {l : List Int} {x : Int} (h : w.ownsRow B 3 1 (.slice (some ⟨g, 0, none⟩) (n + 1) cap) (n + 1) (intsV l ++ [.int .i64 x])) :
    OwnI w B (.slice (some ⟨g, 0, none⟩) (n + 1) cap) (n + 1) (l ++ [x]) := by
  rw [intsV_snoc] at h; exact h

theorem OwnI.drewN {w : World} {B n : Nat} {v : Value} {l : List Int} (h : OwnI w B v n l) (m : Nat) : OwnI (w.drewN m) B v n l := h

theorem ownI_none (w : World) : OwnI (w.alloc (.cells #[] 3)) w.heap.size (.slice (some ⟨w.heap.size, 0, none⟩) 0 0) 0 [] :=
  World.ownsRow_lit w #[] 0 (Nat.le_refl _) (by decide) rfl
end Go.Proofs.YtbfeonhokagdjaaDoor

/- Marks laid into a list of the call's own, and found again. -/
namespace Go.Proofs.YtbfeonhokagdjaaDoor
open Go.RowKit

/-- n cells at the head of block b, which can be written -/
def Own (w : World) (b n : Nat) (f : Nat → Int) : Prop := b < w.heap.size ∧ ∀ i, i < n → w.cell? ⟨b, i, none⟩ = some (.int .i64 (f i)) ∧ w.frozen? ⟨b, i, none⟩ = false

/-- nothing but block b has turned -/
structure Turned (b : Nat) (w w' : World) : Prop where
  os : w'.os = w.os
  tape : w'.tape = w.tape
  output : w'.output = w.output
  size : w'.heap.size = w.heap.size
  rest : ∀ k, k ≠ b → w'.heap[k]? = w.heap[k]?

theorem Turned.refl (b : Nat) (w : World) : Turned b w w := ⟨rfl, rfl, rfl, rfl, fun _ _ => rfl⟩
theorem Turned.set {b : Nat} {w w' : World} (h : Turned b w w') (i : Nat) (v : Value) : Turned b w (w'.setCell ⟨b, i, none⟩ v) :=
  ⟨h.os, h.tape, h.output, by rw [World.size_setCell]; exact h.size, fun k hk => (Below.heap_setCell w' ⟨b, i, none⟩ v k hk).trans (h.rest k hk)⟩
theorem Turned.below {b lo : Nat} {w w' : World} (h : Turned b w w') (hb : lo ≤ b) : Below lo w w' :=
  ⟨h.os, h.tape, h.output, Nat.le_of_eq h.size.symm, fun k hk => h.rest k (by omega)⟩
theorem Turned.ints {b : Nat} {w w' : World} (h : Turned b w w') {a : Option Addr} {zs : List Int} (hI : Ints w a zs) (hne : ∀ x, a = some x → x.block ≠ b) : Ints w' a zs := by
  rcases hI with e | ⟨c, off, rfl, hc, hcell⟩
  · exact .inl e
  · exact .inr ⟨c, off, rfl, by rw [h.size]; exact hc, fun i hi => (World.cell?_of_block (w := w) (a := ⟨c, off + i, none⟩) (h.rest c (hne _ rfl))).trans (hcell i hi)⟩
theorem Turned.owns {b lo : Nat} {w w' : World} (h : Turned b w w') {a : Option Addr} {l : List Int} (hI : Owns w lo a l) (hne : b < lo) : Owns w' lo a l := by
  rcases hI with e | ⟨c, rfl, hlo, hc, hcell⟩
  · exact .inl e
  · refine .inr ⟨c, rfl, hlo, by rw [h.size]; exact hc, fun i hi => ⟨?_, ?_⟩⟩
    · exact (World.cell?_of_block (w := w) (a := ⟨c, i, none⟩) (h.rest c (by omega))).trans (hcell i hi).1
    · exact (World.frozen?_of_block (w := w) (a := ⟨c, i, none⟩) (h.rest c (by omega))).trans (hcell i hi).2
theorem Owns.kept {w w' : World} {lo : Nat} {a : Option Addr} {l : List Int} (h : Owns w lo a l) (hb : Below w.heap.size w w') : Owns w' lo a l := by
  rcases h with e | ⟨c, rfl, hlo, hc, hcell⟩
  · exact .inl e
  · exact .inr ⟨c, rfl, hlo, Nat.lt_of_lt_of_le hc hb.size, fun i hi => ⟨(hb.cell (p := ⟨c, i, none⟩) hc).trans (hcell i hi).1, (hb.frozen (p := ⟨c, i, none⟩) hc).trans (hcell i hi).2⟩⟩

theorem Own.step {w : World} {b n k : Nat} {f g : Nat → Int} (h : Own w b n f) (hk : k < n) (hg : g k = (k : Int) + 1) (hf : ∀ i, i < n → i ≠ k → g i = f i) :
    Own (w.setCell ⟨b, k, none⟩ (.int .i64 ((k : Int) + 1))) b n g := by
  refine ⟨by rw [World.size_setCell]; exact h.1, fun i hi => ⟨?_, ?_⟩⟩
  · by_cases e : i = k
    · subst e; rw [World.cell?_setCell_same _ _ _ (h.2 i hi).1, hg]
    · rw [World.cell?_setCell_other _ _ _ _ (fun q => e (congrArg Addr.off q).symm), (h.2 i hi).1, hf i hi e]
  · rw [World.frozen?_setCell]; exact (h.2 i hi).2

end Go.Proofs.YtbfeonhokagdjaaDoor

/- Ints appended to a row of the call's own: none or more. -/
namespace Go.Proofs.YtbfeonhokagdjaaDoor
open Go.RowKit

/-- nothing is appended -/
theorem append_nothing (a : Option Addr) (n cap : Nat) (h : n ≤ cap) (b : Option Addr) (c : Nat) (ty : TypeId) (w : World) :
    (Builtin.append_ #[22, 22] ty #[.slice a n cap, .slice b 0 c]).run Tryd.prog w = .ok (.slice a n cap) w := by
  obtain ⟨i0, hi0, hz0, hz1, hz2⟩ := info_parts info_int
  cases a <;> cases b <;> simp [Builtin.append_, run_underlying Tryd.underlying22, sizeOf, typeInfo, hi0, Builtin.lenOf, Builtin.firstCells, h, storeCells, loadCells, loadCellsFrom]

theorem run_append_ints (ty : TypeId) (base : Nat) (v : Value) (n : Nat) (l : List Int) (w : World) (hown : OwnI w base v n l) (ca : Option Addr) (m c : Nat) (cs : List Int) (hc : Ints w ca cs) (hm : cs.length = m) (h63 : n + m ≤ 9000000) (hbase : base ≤ w.heap.size) :
    ∃ a cap w', (Builtin.append_ #[22, 22] ty #[v, .slice ca m c]).run Tryd.prog w = .ok (.slice a (n + m) cap) w' ∧ OwnI w' base (.slice a (n + m) cap) (n + m) (l ++ cs) ∧ w.grownBy w' v.ownBlock := by
  obtain ⟨i0, hi0, hz0, hz1, hz2⟩ := info_parts info_int
  rcases Nat.eq_zero_or_pos m with h0 | hp
  · subst h0
    have hcs : cs = [] := List.eq_nil_of_length_eq_zero hm
    subst hcs
    obtain ⟨ao, cap, rfl, _⟩ := hown.owns
    have hle : n ≤ cap := by
      rcases hown.2 with ⟨e, h0⟩ | ⟨g, cap', cur, e, _, _, h1, _⟩
      · cases e; omega
      · cases e; exact h1
    refine ⟨ao, cap, w, append_nothing ao n cap hle ca c ty w, by simpa using hown, ⟨rfl, rfl, rfl, Nat.le_refl _, fun _ _ _ => rfl⟩⟩
  · rcases hc with e | ⟨b, off, rfl, hb, hcell⟩
    · rw [e] at hm; simp at hm; omega
    · obtain ⟨g, cap, w', hr, h2, h3, _, _⟩ := run_append_lies (P := Tryd.prog) w 22 ty base 3 i0 (.int .i64 0) 1 8 Tryd.underlying22 hi0 hz0 hz1 hz2 rfl (by decide) v n (intsV l) hown ⟨b, off, none⟩ m c (intsV cs) (by rw [intsV_len]; omega)
        (fun j u hu => by
          have hj : j < cs.length := by
            rcases Nat.lt_or_ge j cs.length with h | h
            · exact h
            · rw [List.getElem?_eq_none (by rw [intsV_len]; exact h)] at hu; cases hu
          rw [intsV_get cs j hj] at hu
          cases hu
          have hadd : (⟨b, off, none⟩ : Addr).add j = ⟨b, off + j, none⟩ := by unfold Addr.add; split <;> simp_all
          rw [hadd]; exact hcell j hj)
        (fun u hu => by simp [intsV] at hu; obtain ⟨x, _, rfl⟩ := hu; rfl) hp (by unfold maxLen; omega) (by omega) hbase w.heap.size rfl
      exact ⟨some ⟨g, 0, none⟩, cap, w', hr, by show World.ownsRow _ _ _ _ _ _ _; rw [show intsV (l ++ cs) = intsV l ++ intsV cs by simp [intsV]]; exact h2, h3⟩

theorem wp_append_ints {w : World} {o : Oper} {a : Act} {K : Act → World → Prop} {Q : Exit → Act → World → Prop} (s x : Operand)
    (ho : o.op = .call { callee := .builtin .append, args := #[s, x], argTypes := #[22, 22] })
    (base : Nat) (v : Value) (n : Nat) (l : List Int) (hs : a.eval s = v) (hown : OwnI w base v n l) (ca : Option Addr) (m c : Nat) (cs : List Int) (hx : a.eval x = .slice ca m c) (hc : Ints w ca cs) (hm : cs.length = m) (h63 : n + m ≤ 9000000) (hbase : base ≤ w.heap.size)
    (h : ∀ a' cap w', OwnI w' base (.slice a' (n + m) cap) (n + m) (l ++ cs) → w.grownBy w' v.ownBlock → K (a.put o.dst (.slice a' (n + m) cap)) w') : o.wp Tryd.prog a w K Q := by
  obtain ⟨a', cap, w', hr, h2, h3⟩ := run_append_ints o.type base v n l w hown ca m c cs hc hm h63 hbase
  unfold Oper.wp execOp
  simp only [ho, resolve, invoke, builtin, Sem.run_bind, Sem.run_pure, Result.andThen_ok, List.map_toArray, List.map_cons, List.map_nil, hs, hx, hr]
  exact h a' cap w' h2 h3

theorem wpList_append_ints {w : World} {ops : Array Oper} {rest : List Oper} {o : Oper} {a : Act} {Q : Exit → Act → World → Prop} (hgd : o.guard = none) (s x : Operand)
    (ho : o.op = .call { callee := .builtin .append, args := #[s, x], argTypes := #[22, 22] })
    (base : Nat) (v : Value) (n : Nat) (l : List Int) (hs : a.eval s = v) (hown : OwnI w base v n l) (ca : Option Addr) (m c : Nat) (cs : List Int) (hx : a.eval x = .slice ca m c) (hc : Ints w ca cs) (hm : cs.length = m) (h63 : n + m ≤ 9000000) (hbase : base ≤ w.heap.size)
    (h : ∀ a' cap w', OwnI w' base (.slice a' (n + m) cap) (n + m) (l ++ cs) → w.grownBy w' v.ownBlock → wpList Tryd.prog ops Q rest (a.put o.dst (.slice a' (n + m) cap)) w') : wpList Tryd.prog ops Q (o :: rest) a w :=
  wpList_plain hgd fun _ hK => wp_append_ints s x ho base v n l hs hown ca m c cs hx hc hm h63 hbase fun a' cap w' h2 h3 => hK _ _ (h a' cap w' h2 h3)

end Go.Proofs.YtbfeonhokagdjaaDoor

/- A picture in a block of its own. -/
namespace Go.Proofs.YtbfeonhokagdjaaDoor
open Go.RowKit

/-- six cells of a block stay -/
theorem box_kept {W w' : World} {B : Nat} {v0 v1 v2 v3 v4 v5 : Value} (h : W.cell? ⟨B, 0, none⟩ = some v0 ∧ W.cell? ⟨B, 1, none⟩ = some v1 ∧ W.cell? ⟨B, 2, none⟩ = some v2 ∧ W.cell? ⟨B, 3, none⟩ = some v3 ∧ W.cell? ⟨B, 4, none⟩ = some v4 ∧ W.cell? ⟨B, 5, none⟩ = some v5) (b : Below W.heap.size W w') (hB : B < W.heap.size) :
    w'.cell? ⟨B, 0, none⟩ = some v0 ∧ w'.cell? ⟨B, 1, none⟩ = some v1 ∧ w'.cell? ⟨B, 2, none⟩ = some v2 ∧ w'.cell? ⟨B, 3, none⟩ = some v3 ∧ w'.cell? ⟨B, 4, none⟩ = some v4 ∧ w'.cell? ⟨B, 5, none⟩ = some v5 :=
  ⟨(b.cell (p := ⟨B, 0, none⟩) hB).trans h.1, (b.cell (p := ⟨B, 1, none⟩) hB).trans h.2.1, (b.cell (p := ⟨B, 2, none⟩) hB).trans h.2.2.1, (b.cell (p := ⟨B, 3, none⟩) hB).trans h.2.2.2.1, (b.cell (p := ⟨B, 4, none⟩) hB).trans h.2.2.2.2.1, (b.cell (p := ⟨B, 5, none⟩) hB).trans h.2.2.2.2.2⟩
theorem box_new (w : World) (v0 v1 v2 v3 v4 v5 : Value) (T : TypeId) :
    (w.alloc (.cells #[v0, v1, v2, v3, v4, v5] T)).cell? ⟨w.heap.size, 0, none⟩ = some v0 ∧ (w.alloc (.cells #[v0, v1, v2, v3, v4, v5] T)).cell? ⟨w.heap.size, 1, none⟩ = some v1 ∧ (w.alloc (.cells #[v0, v1, v2, v3, v4, v5] T)).cell? ⟨w.heap.size, 2, none⟩ = some v2 ∧ (w.alloc (.cells #[v0, v1, v2, v3, v4, v5] T)).cell? ⟨w.heap.size, 3, none⟩ = some v3 ∧ (w.alloc (.cells #[v0, v1, v2, v3, v4, v5] T)).cell? ⟨w.heap.size, 4, none⟩ = some v4 ∧ (w.alloc (.cells #[v0, v1, v2, v3, v4, v5] T)).cell? ⟨w.heap.size, 5, none⟩ = some v5 := by
  refine ⟨?_, ?_, ?_, ?_, ?_, ?_⟩ <;> (rw [World.cell?_alloc_at _ _ _ _ rfl]; rfl)
theorem box_drew {W w' : World} {lo : Nat} (b : Below lo W.drew w') : Below lo W w' := ((Below.refl lo W).drew).trans b
end Go.Proofs.YtbfeonhokagdjaaDoor

/- A picture drawn of what is seen. -/
namespace Go.Proofs.YtbfeonhokagdjaaDoor
open Go.RowKit

/-- two lists of the call's own, in blocks apart -/
def Pair2 (w : World) (lo : Nat) (x : Option Addr) (cs : List Int) (y : Option Addr) (ps : List Int) : Prop :=
  ∃ m, lo ≤ m ∧ Owns w lo x cs ∧ (cs = [] ∨ ∃ b, x = some ⟨b, 0, none⟩ ∧ b < m) ∧ Owns w m y ps

theorem Owns.lower {w : World} {lo lo' : Nat} {a : Option Addr} {l : List Int} (h : Owns w lo a l) (hl : lo' ≤ lo) : Owns w lo' a l := by
  rcases h with e | ⟨b, rfl, hb, h2, h3⟩
  · exact .inl e
  · exact .inr ⟨b, rfl, Nat.le_trans hl hb, h2, h3⟩

theorem Pair2.make {w0 w w' : World} {lo : Nat} {x y : Option Addr} {cs ps : List Int} (hx : Owns w0 lo x cs) (hlo : lo ≤ w.heap.size) (h0 : Below w0.heap.size w0 w) (hb : Below w.heap.size w w') (hy : Owns w' w.heap.size y ps) : Pair2 w' lo x cs y ps := by
  refine ⟨w.heap.size, hlo, (hx.kept h0).kept hb, ?_, hy⟩
  rcases hx with e | ⟨b, rfl, _, h2, _⟩
  · exact .inl e
  · exact .inr ⟨b, rfl, Nat.lt_of_lt_of_le h2 h0.size⟩

theorem Pair2.kept {w w' : World} {lo : Nat} {x y : Option Addr} {cs ps : List Int} (h : Pair2 w lo x cs y ps) (hb : Below w.heap.size w w') : Pair2 w' lo x cs y ps := by
  obtain ⟨m, h1, h2, h3, h4⟩ := h
  exact ⟨m, h1, h2.kept hb, h3, h4.kept hb⟩

theorem Owns.row {w : World} {lo : Nat} {a : Option Addr} {l : List Int} (h : Owns w lo a l) {g : Nat} (hg : g < lo) (cs : Array Value) : Owns (w.setRow g cs) lo a l := by
  rcases h with e | ⟨b, rfl, hb, h2, h3⟩
  · exact .inl e
  · have hh : (w.setRow g cs).heap[b]? = w.heap[b]? := setRow_other w g b cs (by omega)
    exact .inr ⟨b, rfl, hb, by simpa using h2, fun i hi => ⟨(World.cell?_of_block (w := w) (a := ⟨b, i, none⟩) hh).trans (h3 i hi).1, (World.frozen?_of_block (w := w) (a := ⟨b, i, none⟩) hh).trans (h3 i hi).2⟩⟩

theorem Pair2.row {w : World} {g : Nat} {x y : Option Addr} {cs ps : List Int} (h : Pair2 w (g + 1) x cs y ps) (r : Array Value) : Pair2 (w.setRow g r) g x cs y ps := by
  obtain ⟨m, h1, h2, h3, h4⟩ := h
  exact ⟨m, by omega, (h2.row (by omega) r).lower (by omega), h3, h4.row (by omega) r⟩

end Go.Proofs.YtbfeonhokagdjaaDoor

/- Lists of ints that stay, and one that is copied into a row of its own. -/
namespace Go.Proofs.YtbfeonhokagdjaaDoor
open Go.RowKit

/-- a list that lay below stays -/
theorem Ints.low {w0 w w' : World} {lo : Nat} {a : Option Addr} {l : List Int} (h0 : Ints w0 a l) (h : Ints w a l) (hb : Below lo w w') (hlo : w0.heap.size ≤ lo) : Ints w' a l := by
  rcases h0 with e | ⟨b, off, rfl, hb0, _⟩
  · exact .inl e
  · rcases h with e | ⟨c, off', e, hc, hcell⟩
    · exact .inl e
    · cases e
      exact .inr ⟨b, off, rfl, Nat.lt_of_lt_of_le hc hb.size, fun i hi => (hb.cell (p := ⟨b, off + i, none⟩) (show b < lo by omega)).trans (hcell i hi)⟩

set_option maxHeartbeats 400000 in
theorem toInts_exact (a : Option Addr) (n cap : Nat) (zs : List Int) (w : World) (h : Ints w a zs) (hn : zs.length = n) (hl : n ≤ 2000000) :
    Calls Tryd.prog 13 #[.slice a n cap] w fun e w' => e = .returned (.slice (some ⟨w.heap.size, 0, none⟩) n n) ∧ w' = w.alloc (.cells (cp zs n) 3) := by
  have hmk := fun w => make_ints zs n hn hl w
  have HI : Hid (Ints w a zs) := h
  clear h
  have hzg : n ≤ zs.length := by omega
  clear hn
  go_enter Tryd.func13, Tryd.ntmps13
  go_wp2_with fail
  go_loopw [4] (fun i wr => ∃ k : Nat, k ≤ n ∧ i = .int .i64 k ∧ wr = w.alloc (.cells (cp zs k) 3)) (fun i _ => n - (intOf i).toNat)
  case atStart => exact ⟨0, Nat.zero_le _, rfl, rfl⟩
  case round =>
    obtain ⟨k, hk, rfl, rfl⟩ := hrel
    clear hmk
    by_cases hlt : k < n
    · have hkz : k < zs.length := by omega
      have HT : Hid ((cp zs k).setIfInBounds k (.int .i64 zs[k]) = cp zs (k + 1)) := cp_set zs k hkz
      have hg : (cp zs k)[k]? = some (.int .i64 0) := by rw [cp_get _ _ _ hkz]; simp
      rcases HI.out with h | ⟨b, off, rfl, hbB, hc⟩
      · rw [h] at hkz; simp at hkz
      · have hck := (World.cell?_alloc_past (.cells (cp zs k) 3) b (off + k) hbB).trans (hc k hkz)
        have hki : (k : Int) < (n : Int) := by omega
        clear hc
        generalize cp zs k = A at *
        generalize zs[k] = x at *
        go_wp2_with fail
        go_roundw
        case rel => exact ⟨k + 1, by omega, by go_num, by rw [HT.out]⟩
        case measure => simp [intOf]; omega
    · have hk' : k = n := by omega
      subst hk'
      go_wp2_with fail
      go_ret
      exact ⟨rfl, rfl⟩

theorem own_cp (w : World) (zs : List Int) (n : Nat) (hn : zs.length = n) : Own (w.alloc (.cells (cp zs n) 3)) w.heap.size n (fun i => zs.getD i 0) := by
  refine ⟨by simp, fun i hi => ⟨?_, ?_⟩⟩
  · rw [World.cell?_alloc_at _ _ _ _ rfl, cp_get _ _ _ (by omega), if_pos hi]
  · rw [World.frozen?_alloc_at _ _ _ _ rfl]

theorem Own.kept {w w' : World} {b n : Nat} {f : Nat → Int} (h : Own w b n f) (hb : Below w.heap.size w w') : Own w' b n f :=
  ⟨Nat.lt_of_lt_of_le h.1 hb.size, fun i hi => ⟨(hb.cell (p := ⟨b, i, none⟩) h.1).trans (h.2 i hi).1, (hb.frozen (p := ⟨b, i, none⟩) h.1).trans (h.2 i hi).2⟩⟩

theorem drewN_below (w : World) (m : Nat) : Below w.heap.size w (w.drewN m) := below_drewN (Below.refl _ _) _
end Go.Proofs.YtbfeonhokagdjaaDoor

/- A list that an answer owns: marks laid into it and found. -/
namespace Go.Proofs.YtbfeonhokagdjaaDoor
open Go.RowKit

def marks (M : Nat) : List Int := (List.range M).map fun i : Nat => (i : Int) + 1
theorem own_of {w : World} {b M : Nat} {l : List Int} (hM : l.length = M) (hb : b < w.heap.size) (hc : ∀ i (h : i < l.length), w.cell? ⟨b, i, none⟩ = some (.int .i64 l[i]) ∧ w.frozen? ⟨b, i, none⟩ = false) : Own w b M (fun i => l.getD i 0) := by
  refine ⟨hb, fun i hi => ?_⟩
  have h := hc i (by omega)
  have e : l.getD i 0 = l[i]'(by omega) := by rw [List.getD_eq_getElem?_getD, List.getElem?_eq_getElem (by omega)]; rfl
  show w.cell? ⟨b, i, none⟩ = some (.int .i64 (l.getD i 0)) ∧ _
  rw [e]
  exact h
end Go.Proofs.YtbfeonhokagdjaaDoor

/- Marks laid into a picture's lists, from a number on, and found again. -/
namespace Go.Proofs.YtbfeonhokagdjaaDoor
open Go.RowKit

/-- blocks outside of a stretch lie as they lay -/
structure Outside (lo hi : Nat) (w w' : World) : Prop where
  os : w'.os = w.os
  tape : w'.tape = w.tape
  output : w'.output = w.output
  size : w.heap.size ≤ w'.heap.size
  rest : ∀ k, k < w.heap.size → (k < lo ∨ hi ≤ k) → w'.heap[k]? = w.heap[k]?
theorem Outside.trans {lo hi : Nat} {a b c : World} (h : Outside lo hi a b) (g : Outside lo hi b c) : Outside lo hi a c :=
  ⟨g.os.trans h.os, g.tape.trans h.tape, g.output.trans h.output, Nat.le_trans h.size g.size, fun k hk ho => (g.rest k (Nat.lt_of_lt_of_le hk h.size) ho).trans (h.rest k hk ho)⟩
theorem Outside.of_below {lo hi : Nat} {a b : World} (h : Below a.heap.size a b) : Outside lo hi a b := ⟨h.os, h.tape, h.output, h.size, fun k hk _ => h.block k hk⟩
theorem Outside.below {lo hi n : Nat} {a b : World} (h : Outside lo hi a b) (hn : n ≤ lo) (hs : n ≤ a.heap.size) : Below n a b := ⟨h.os, h.tape, h.output, h.size, fun k hk => h.rest k (by omega) (.inl (by omega))⟩

theorem Outside.wide {lo hi lo' hi' : Nat} {a b : World} (h : Outside lo hi a b) (h1 : lo' ≤ lo) (h2 : hi ≤ hi') : Outside lo' hi' a b := ⟨h.os, h.tape, h.output, h.size, fun k hk ho => h.rest k hk (by omega)⟩

/-- a list of the call's own in blocks of a stretch -/
def OwnsIn (w : World) (lo hi : Nat) (a : Option Addr) (l : List Int) : Prop :=
  l = [] ∨ ∃ b, a = some ⟨b, 0, none⟩ ∧ lo ≤ b ∧ b < hi ∧ Own w b l.length (fun i => l.getD i 0)
theorem Owns.inn {w : World} {lo : Nat} {a : Option Addr} {l : List Int} (h : Owns w lo a l) : OwnsIn w lo w.heap.size a l := by
  rcases h with e | ⟨b, rfl, h1, h2, h3⟩
  · exact .inl e
  · exact .inr ⟨b, rfl, h1, h2, own_of rfl h2 h3⟩
theorem OwnsIn.ints {w : World} {lo hi : Nat} {a : Option Addr} {l : List Int} (h : OwnsIn w lo hi a l) : Ints w a l := by
  rcases h with e | ⟨b, rfl, h1, h2, h3⟩
  · exact .inl e
  · refine .inr ⟨b, 0, rfl, h3.1, fun i hi => ?_⟩
    have := (h3.2 i hi).1
    rw [Nat.zero_add]
    simpa [List.getElem?_eq_getElem hi] using this
theorem OwnsIn.out {w w' : World} {lo hi lo' hi' : Nat} {a : Option Addr} {l : List Int} (h : OwnsIn w lo hi a l) (g : Outside lo' hi' w w') (ho : hi ≤ lo' ∨ hi' ≤ lo) : OwnsIn w' lo hi a l := by
  rcases h with e | ⟨b, rfl, h1, h2, h3⟩
  · exact .inl e
  · have hb := g.rest b h3.1 (by omega)
    exact .inr ⟨b, rfl, h1, h2, Nat.lt_of_lt_of_le h3.1 g.size, fun i hi => ⟨(World.cell?_of_block (w := w) (a := ⟨b, i, none⟩) hb).trans (h3.2 i hi).1, (World.frozen?_of_block (w := w) (a := ⟨b, i, none⟩) hb).trans (h3.2 i hi).2⟩⟩
theorem OwnsIn.kept {w w' : World} {lo hi : Nat} {a : Option Addr} {l : List Int} (h : OwnsIn w lo hi a l) (g : Below w.heap.size w w') : OwnsIn w' lo hi a l := h.out (Outside.of_below (lo := 0) (hi := 0) g) (by omega)
theorem Ints.out {w0 w w' : World} {lo hi : Nat} {a : Option Addr} {l : List Int} (h0 : Ints w0 a l) (h : Ints w a l) (g : Outside lo hi w w') (hl : w0.heap.size ≤ lo) : Ints w' a l := by
  rcases h0 with e | ⟨b, off, rfl, hb, _⟩
  · exact .inl e
  · rcases h with e | ⟨c, off', e, hc, hcell⟩
    · exact .inl e
    · cases e
      exact .inr ⟨b, off, rfl, Nat.lt_of_lt_of_le hc g.size, fun i hi => (World.cell?_of_block (w := w) (a := ⟨b, off + i, none⟩) (g.rest b hc (by omega))).trans (hcell i hi)⟩

end Go.Proofs.YtbfeonhokagdjaaDoor

/- How great a list of ints is. -/
namespace Go.Proofs.YtbfeonhokagdjaaDoor
open Go.RowKit

set_option maxHeartbeats 400000 in
theorem szInts_any (a : Option Addr) (n cap : Nat) (l : Int) (w : World) (hn : n ≤ 9223372036854775807) (hl : 0 ≤ l ∧ l ≤ 1048576) :
    Calls Tryd.prog 9 #[.slice a n cap, .int .i64 l] w fun e w' => e = .returned (.int .i64 (if (n : Int) ≤ l then l - n else -1)) ∧ w' = w := by
  by_cases h : (n : Int) ≤ l
  · have d1 : decide (l - (n : Int) < 0) = false := by simp; omega
    rw [if_pos h]
    go_enter Tryd.func9, Tryd.ntmps9
    go_wp2_with fail
    go_ret
    exact ⟨rfl, rfl⟩
  · have d1 : decide (l - (n : Int) < 0) = true := by simp; omega
    rw [if_neg h]
    go_enter Tryd.func9, Tryd.ntmps9
    go_wp2_with fail
    go_ret
    exact ⟨rfl, rfl⟩
end Go.Proofs.YtbfeonhokagdjaaDoor

/- A picture that came in, copied; how great it is. -/
namespace Go.Proofs.YtbfeonhokagdjaaDoor
open Go.RowKit

set_option maxHeartbeats 400000 in
theorem szImage_small (k d wd hi : Int) (ca : Option Addr) (cn cc : Nat) (pa : Option Addr) (pn pc : Nat) (w : World) (h : cn + pn ≤ 1048576) :
    Calls Tryd.prog 4 #[.agg #[.int .i64 k, .int .i64 d, .int .i64 wd, .int .i64 hi, .slice ca cn cc, .slice pa pn pc], .int .i64 1048576] w fun e w' => e = .returned (.int .i64 (1048576 - (cn : Int) - (pn : Int))) ∧ Below w.heap.size w w' := by
  have bel : Below w.heap.size w (w.alloc (.cells #[.int .i64 k, .int .i64 d, .int .i64 wd, .int .i64 hi, .slice ca cn cc, .slice pa pn pc] 24)) := (Below.refl _ _).alloc (Nat.le_refl _) _
  have H1 : Hid (∀ w : World, Calls Tryd.prog 9 #[.slice ca cn cc, .int .i64 1048576] w fun e w' => e = .returned (.int .i64 (1048576 - (cn : Int))) ∧ w' = w) := by
    intro w
    have := szInts_any ca cn cc 1048576 w (by omega) (by omega)
    rw [if_pos (by omega)] at this; exact this
  have H2 : Hid (∀ w : World, Calls Tryd.prog 9 #[.slice pa pn pc, .int .i64 (1048576 - (cn : Int))] w fun e w' => e = .returned (.int .i64 (1048576 - (cn : Int) - (pn : Int))) ∧ w' = w) := by
    intro w
    have := szInts_any pa pn pc (1048576 - (cn : Int)) w (by omega) (by omega)
    rw [if_pos (by omega)] at this; exact this
  have d1 : decide (1048576 - (cn : Int) < 0) = false := by simp; omega
  have d2 : decide (1048576 - (cn : Int) - (pn : Int) < 0) = false := by simp; omega
  go_enter Tryd.func4, Tryd.ntmps4
  go_wp2_with fail
  refine (H1.out _).mono ?_
  rintro e w1 ⟨rfl, hw1⟩
  subst hw1
  go_wp2_with fail
  refine (H2.out _).mono ?_
  rintro e w1 ⟨rfl, hw1⟩
  subst hw1
  go_wp2_with fail
  go_ret
  exact ⟨rfl, bel⟩

set_option maxHeartbeats 400000 in
theorem szImage_big (k d wd hi : Int) (ca : Option Addr) (cn cc : Nat) (pa : Option Addr) (pn pc : Nat) (w : World) (hc : cn ≤ 9223372036854775807) (hp : pn ≤ 9223372036854775807) (h : 1048576 < cn + pn) :
    Calls Tryd.prog 4 #[.agg #[.int .i64 k, .int .i64 d, .int .i64 wd, .int .i64 hi, .slice ca cn cc, .slice pa pn pc], .int .i64 1048576] w fun e w' => e = .returned (.int .i64 (-1)) ∧ Below w.heap.size w w' := by
  have bel : Below w.heap.size w (w.alloc (.cells #[.int .i64 k, .int .i64 d, .int .i64 wd, .int .i64 hi, .slice ca cn cc, .slice pa pn pc] 24)) := (Below.refl _ _).alloc (Nat.le_refl _) _
  by_cases hcb : cn ≤ 1048576
  · have H1 : Hid (∀ w : World, Calls Tryd.prog 9 #[.slice ca cn cc, .int .i64 1048576] w fun e w' => e = .returned (.int .i64 (1048576 - (cn : Int))) ∧ w' = w) := by
      intro w
      have := szInts_any ca cn cc 1048576 w (by omega) (by omega)
      rw [if_pos (by omega)] at this; exact this
    have H2 : Hid (∀ w : World, Calls Tryd.prog 9 #[.slice pa pn pc, .int .i64 (1048576 - (cn : Int))] w fun e w' => e = .returned (.int .i64 (-1)) ∧ w' = w) := by
      intro w
      have := szInts_any pa pn pc (1048576 - (cn : Int)) w (by omega) (by omega)
      rw [if_neg (by omega)] at this; exact this
    have d1 : decide (1048576 - (cn : Int) < 0) = false := by simp; omega
    go_enter Tryd.func4, Tryd.ntmps4
    go_wp2_with fail
    refine (H1.out _).mono ?_
    rintro e w1 ⟨rfl, hw1⟩
    subst hw1
    go_wp2_with fail
    refine (H2.out _).mono ?_
    rintro e w1 ⟨rfl, hw1⟩
    subst hw1
    go_wp2_with fail
    go_ret
    exact ⟨rfl, bel⟩
  · have H1 : Hid (∀ w : World, Calls Tryd.prog 9 #[.slice ca cn cc, .int .i64 1048576] w fun e w' => e = .returned (.int .i64 (-1)) ∧ w' = w) := by
      intro w
      have := szInts_any ca cn cc 1048576 w (by omega) (by omega)
      rw [if_neg (by omega)] at this; exact this
    go_enter Tryd.func4, Tryd.ntmps4
    go_wp2_with fail
    refine (H1.out _).mono ?_
    rintro e w1 ⟨rfl, hw1⟩
    subst hw1
    go_wp2_with fail
    go_ret
    exact ⟨rfl, bel⟩

/-- the blocks that a copy lays -/
def toW (w : World) (k d wd hi : Int) (ca : Option Addr) (cn cc : Nat) (pa : Option Addr) (pn pc : Nat) (cs ps : List Int) : World :=
  ((((w.alloc (.cells #[.int .i64 k, .int .i64 d, .int .i64 wd, .int .i64 hi, .slice ca cn cc, .slice pa pn pc] 24)).alloc
    (.cells #[.int .i64 k, .int .i64 d, .int .i64 wd, .int .i64 hi, .slice (some ⟨w.heap.size + 1 + 1 + 1, 0, none⟩) cn cn, .slice (some ⟨w.heap.size + 1 + 1 + 1 + 1, 0, none⟩) pn pn] 27)).alloc
    (.cells #[.int .i64 k, .int .i64 d, .int .i64 wd, .int .i64 hi, .slice (some ⟨w.heap.size + 1 + 1 + 1, 0, none⟩) cn cn, .slice (some ⟨w.heap.size + 1 + 1 + 1 + 1, 0, none⟩) pn pn] 27)).alloc
    (.cells (cp cs cn) 3)).alloc (.cells (cp ps pn) 3)

set_option maxHeartbeats 2000000 in
set_option maxRecDepth 20000 in
theorem toImage_exact (k d wd hi : Int) (ca : Option Addr) (cn cc : Nat) (pa : Option Addr) (pn pc : Nat) (cs ps : List Int) (w : World) (hc : Ints w ca cs) (hcn : cs.length = cn) (hcl : cn ≤ 1048576) (hp : Ints w pa ps) (hpn : ps.length = pn) (hpl : pn ≤ 1048576) :
    Calls Tryd.prog 6 #[.agg #[.int .i64 k, .int .i64 d, .int .i64 wd, .int .i64 hi, .slice ca cn cc, .slice pa pn pc]] w fun e w' => e = .returned (.agg #[.int .i64 k, .int .i64 d, .int .i64 wd, .int .i64 hi, .slice (some ⟨w.heap.size + 1 + 1 + 1, 0, none⟩) cn cn, .slice (some ⟨w.heap.size + 1 + 1 + 1 + 1, 0, none⟩) pn pn]) ∧ w' = toW w k d wd hi ca cn cc pa pn pc cs ps := by
  have H1 : Hid (∀ w' : World, Below w.heap.size w w' → Calls Tryd.prog 13 #[.slice ca cn cc] w' fun e w'' => e = .returned (.slice (some ⟨w'.heap.size, 0, none⟩) cn cn) ∧ w'' = w'.alloc (.cells (cp cs cn) 3)) := fun w' b => toInts_exact ca cn cc cs w' (hc.kept b) hcn (by omega)
  have H2 : Hid (∀ w' : World, Below w.heap.size w w' → Calls Tryd.prog 13 #[.slice pa pn pc] w' fun e w'' => e = .returned (.slice (some ⟨w'.heap.size, 0, none⟩) pn pn) ∧ w'' = w'.alloc (.cells (cp ps pn) 3)) := fun w' b => toInts_exact pa pn pc ps w' (hp.kept b) hpn (by omega)
  have HT : Hid (∀ w', w' = toW w k d wd hi ca cn cc pa pn pc cs ps → w' = toW w k d wd hi ca cn cc pa pn pc cs ps) := fun w' h => h
  clear hc hp hcn hpn
  generalize hA : cp cs cn = A at *
  generalize hB : cp ps pn = B at *
  have HA : Hid (cp cs cn = A) := hA
  have HB : Hid (cp ps pn = B) := hB
  clear hA hB
  go_enter Tryd.func6, Tryd.ntmps6
  go_wp2_with fail
  refine (H1.out _ ((((Below.refl w.heap.size w).alloc (Nat.le_refl _) _).alloc (by simp) _).alloc (by simp; omega) _)).mono ?_
  rintro e w1 ⟨rfl, hw1⟩
  subst hw1
  go_wp2_with fail
  refine (H2.out _ (((((Below.refl w.heap.size w).alloc (Nat.le_refl _) _).alloc (by simp) _).alloc (by simp; omega) _).alloc (by simp; omega) _)).mono ?_
  rintro e w1 ⟨rfl, hw1⟩
  subst hw1
  go_wp2_with fail
  refine bodyPost_ret (v := .agg #[.int .i64 k, .int .i64 d, .int .i64 wd, .int .i64 hi, .slice (some ⟨w.heap.size + 1 + 1 + 1, 0, none⟩) cn cn, .slice (some ⟨w.heap.size + 1 + 1 + 1 + 1, 0, none⟩) pn pn]) (by simp [results, Tryd.results6, go_sem]) rfl ⟨rfl, ?_⟩
  unfold toW
  rw [HA.out, HB.out]

theorem toW_below (w : World) (k d wd hi : Int) (ca : Option Addr) (cn cc : Nat) (pa : Option Addr) (pn pc : Nat) (cs ps : List Int) : Below w.heap.size w (toW w k d wd hi ca cn cc pa pn pc cs ps) :=
  (((((Below.refl w.heap.size w).alloc (Nat.le_refl _) _).alloc (by simp) _).alloc (by simp; omega) _).alloc (by simp; omega) _).alloc (by simp; omega) _

set_option maxHeartbeats 1000000 in
set_option maxRecDepth 20000 in
theorem eqImage_same (k d wd hi : Int) (ca : Option Addr) (cc : Nat) (pa : Option Addr) (pc : Nat) (cb : Option Addr) (cd : Nat) (pb : Option Addr) (pd cn pn : Nat) (cs ps : List Int) (w : World) (hc : Ints w ca cs) (hp : Ints w pa ps) (hcb : Ints w cb cs) (hpb : Ints w pb ps) (hcn : cs.length = cn) (hcl : cn ≤ 1048576) (hpn : ps.length = pn) (hpl : pn ≤ 1048576) :
    Calls Tryd.prog 8 #[.agg #[.int .i64 k, .int .i64 d, .int .i64 wd, .int .i64 hi, .slice ca cn cc, .slice pa pn pc], .agg #[.int .i64 k, .int .i64 d, .int .i64 wd, .int .i64 hi, .slice cb cn cd, .slice pb pn pd]] w fun e w' => e = .returned (.bool true) ∧ Below w.heap.size w w' := by
  obtain ⟨W, hW⟩ : ∃ W, W = (w.alloc (.cells #[.int .i64 k, .int .i64 d, .int .i64 wd, .int .i64 hi, .slice ca cn cc, .slice pa pn pc] 27)).alloc (.cells #[.int .i64 k, .int .i64 d, .int .i64 wd, .int .i64 hi, .slice cb cn cd, .slice pb pn pd] 27) := ⟨_, rfl⟩
  have hB : Below w.heap.size w W := by rw [hW]; exact ((Below.refl _ _).alloc (Nat.le_refl _) _).alloc (by simp) _
  have H1 : Hid (∀ m : Nat, Calls Tryd.prog 23 #[.slice ca cn cc, .slice cb cn cd] (W.drewN m) fun e w' => e = .returned (.bool true) ∧ ∃ m', w' = (W.drewN m).drewN m') := fun m => eqInts_same ca cc cb cd cn cs _ ((hc.kept hB).kept (drewN_below _ _)) ((hcb.kept hB).kept (drewN_below _ _)) hcn (by omega)
  have H2 : Hid (∀ m : Nat, Calls Tryd.prog 23 #[.slice pa pn pc, .slice pb pn pd] (W.drewN m) fun e w' => e = .returned (.bool true) ∧ ∃ m', w' = (W.drewN m).drewN m') := fun m => eqInts_same pa pc pb pd pn ps _ ((hp.kept hB).kept (drewN_below _ _)) ((hpb.kept hB).kept (drewN_below _ _)) hpn (by omega)
  have HB : Hid (∀ m, Below w.heap.size w (W.drewN m)) := fun m => below_drewN hB m
  rw [hW] at H1 H2 HB
  clear hc hp hcb hpb hcn hpn hB hW
  go_enter Tryd.func8, Tryd.ntmps8
  go_wp2_with fail
  refine (H1.out 0).mono ?_
  rintro e w1 ⟨rfl, m1, hw1⟩
  rw [World.drewN_drewN] at hw1
  subst hw1
  go_wp2_with fail
  refine (H2.out _).mono ?_
  rintro e w1 ⟨rfl, m2, hw1⟩
  rw [World.drewN_drewN] at hw1
  subst hw1
  go_wp2_with fail
  go_ret
  exact ⟨rfl, HB.out _⟩
end Go.Proofs.YtbfeonhokagdjaaDoor

/- A slice of ints that came in is a list of ints in memory. -/
namespace Go.Proofs.YtbfeonhokagdjaaDoor
open Go.RowKit

/-- what the walks are told of a list of ints that came in -/
def Row64 (w : World) (a : Option Addr) (len cap : Nat) : Prop := len ≤ cap ∧ len ≤ maxLen ∧ ∃ zs : List Int, zs.length = len ∧ Ints w a zs ∧ ∀ z ∈ zs, (Lit.int .i64 z).wf = true

theorem addr_add64 (b off i : Nat) : (⟨b, off, none⟩ : Addr).add i = ⟨b, off + i, none⟩ := by
  simp [Addr.add]; try omega

theorem row64_of {w : World} {a : Option Addr} {len cap : Nat} {zs : List Int}
    (h : (a = none ∧ len = 0 ∧ cap = 0 ∧ zs = []) ∨ ∃ x, a = some x ∧ len ≤ cap ∧ cap ≤ maxLen ∧ zs.length = cap ∧ (∀ i, i < zs.length → w.cell? (x.add i) = some (.int .i64 (zs.getD i 0))) ∧ ∀ n ∈ zs, (Lit.int .i64 n).wf = true) :
    Row64 w a len cap := by
  rcases h with ⟨rfl, rfl, rfl, rfl⟩ | ⟨x, rfl, hl, hm, hz, hcell, hwz⟩
  · exact ⟨Nat.le_refl _, Nat.zero_le _, [], rfl, .inl rfl, fun z h => by cases h⟩
  · refine ⟨hl, Nat.le_trans hl hm, zs.take len, by rw [List.length_take]; omega, ?_, fun z h => hwz z (List.mem_of_mem_take h)⟩
    by_cases h0 : len = 0
    · left; rw [h0]; rfl
    · obtain ⟨b, off, spot⟩ := x
      have hc := hcell 0 (by omega)
      have hspot : spot = none := by simpa [Addr.add] using World.cell?_spot hc
      subst hspot
      rw [addr_add64] at hc
      refine .inr ⟨b, off, rfl, World.block_lt_of_cell? _ _ hc, fun i hi => ?_⟩
      rw [List.length_take] at hi
      have h1 := hcell i (by omega)
      rw [addr_add64] at h1
      rw [h1, List.getElem_take, List.getD_eq_getElem?_getD, List.getElem?_eq_getElem (by omega)]
      rfl
end Go.Proofs.YtbfeonhokagdjaaDoor

/- For the laws over pictures that are made: boxes that stay, and a copy that is its own. -/
namespace Go.Proofs.YtbfeonhokagdjaaDoor
open Go.RowKit

/-- six cells of a block -/
def Bx (w : World) (B : Nat) (v0 v1 v2 v3 v4 v5 : Value) : Prop := B < w.heap.size ∧ w.cell? ⟨B, 0, none⟩ = some v0 ∧ w.cell? ⟨B, 1, none⟩ = some v1 ∧ w.cell? ⟨B, 2, none⟩ = some v2 ∧ w.cell? ⟨B, 3, none⟩ = some v3 ∧ w.cell? ⟨B, 4, none⟩ = some v4 ∧ w.cell? ⟨B, 5, none⟩ = some v5
theorem bx_new (w : World) (v0 v1 v2 v3 v4 v5 : Value) (T : TypeId) : Bx (w.alloc (.cells #[v0, v1, v2, v3, v4, v5] T)) w.heap.size v0 v1 v2 v3 v4 v5 := ⟨by simp, box_new w v0 v1 v2 v3 v4 v5 T⟩
theorem Bx.kept {w w' : World} {B : Nat} {v0 v1 v2 v3 v4 v5 : Value} (h : Bx w B v0 v1 v2 v3 v4 v5) (b : Below w.heap.size w w') : Bx w' B v0 v1 v2 v3 v4 v5 := ⟨Nat.lt_of_lt_of_le h.1 b.size, box_kept h.2 b h.1⟩
theorem Bx.out {w w' : World} {B lo hi : Nat} {v0 v1 v2 v3 v4 v5 : Value} (h : Bx w B v0 v1 v2 v3 v4 v5) (o : Outside lo hi w w') (hB : B < lo ∨ hi ≤ B) : Bx w' B v0 v1 v2 v3 v4 v5 := by
  have hb := o.rest B h.1 hB
  exact ⟨Nat.lt_of_lt_of_le h.1 o.size, (World.cell?_of_block (w := w) (a := ⟨B, 0, none⟩) hb).trans h.2.1, (World.cell?_of_block (w := w) (a := ⟨B, 1, none⟩) hb).trans h.2.2.1, (World.cell?_of_block (w := w) (a := ⟨B, 2, none⟩) hb).trans h.2.2.2.1, (World.cell?_of_block (w := w) (a := ⟨B, 3, none⟩) hb).trans h.2.2.2.2.1, (World.cell?_of_block (w := w) (a := ⟨B, 4, none⟩) hb).trans h.2.2.2.2.2.1, (World.cell?_of_block (w := w) (a := ⟨B, 5, none⟩) hb).trans h.2.2.2.2.2.2⟩

/-- two lists of the call's own in blocks of a stretch, apart -/
def Two (w : World) (lo hi : Nat) (x : Option Addr) (cs : List Int) (y : Option Addr) (ps : List Int) : Prop := ∃ mid, lo ≤ mid ∧ mid ≤ hi ∧ hi ≤ w.heap.size ∧ OwnsIn w lo mid x cs ∧ OwnsIn w mid hi y ps
theorem Two.kept {w w' : World} {lo hi : Nat} {x y : Option Addr} {cs ps : List Int} (h : Two w lo hi x cs y ps) (b : Below w.heap.size w w') : Two w' lo hi x cs y ps := by
  obtain ⟨m, h1, h2, h3, h4, h5⟩ := h
  exact ⟨m, h1, h2, Nat.le_trans h3 b.size, h4.kept b, h5.kept b⟩
theorem Two.out {w w' : World} {lo hi lo' hi' : Nat} {x y : Option Addr} {cs ps : List Int} (h : Two w lo hi x cs y ps) (o : Outside lo' hi' w w') (ho : hi ≤ lo' ∨ hi' ≤ lo) : Two w' lo hi x cs y ps := by
  obtain ⟨m, h1, h2, h3, h4, h5⟩ := h
  exact ⟨m, h1, h2, Nat.le_trans h3 o.size, h4.out o (by omega), h5.out o (by omega)⟩
theorem Two.ints {w : World} {lo hi : Nat} {x y : Option Addr} {cs ps : List Int} (h : Two w lo hi x cs y ps) : Ints w x cs ∧ Ints w y ps := by
  obtain ⟨m, h1, h2, h3, h4, h5⟩ := h
  exact ⟨h4.ints, h5.ints⟩
theorem Pair2.two {w : World} {lo : Nat} {x y : Option Addr} {cs ps : List Int} (h : Pair2 w lo x cs y ps) (hlo : lo ≤ w.heap.size) : Two w lo w.heap.size x cs y ps := by
  obtain ⟨m, h1, h2, h3, h4⟩ := h
  by_cases hm : m ≤ w.heap.size
  · refine ⟨m, h1, hm, Nat.le_refl _, ?_, h4.inn⟩
    rcases h3 with e | ⟨b, rfl, hb⟩
    · exact .inl e
    · rcases h2 with e | ⟨b', e, h5, h6, h7⟩
      · exact .inl e
      · cases e; exact .inr ⟨b, rfl, h5, hb, own_of rfl h6 h7⟩
  · have hps : ps = [] := by
      rcases h4 with e | ⟨b, rfl, hb, hb2, _⟩
      · exact e
      · omega
    exact ⟨w.heap.size, hlo, Nat.le_refl _, Nat.le_refl _, h2.inn, .inl hps⟩

theorem toImage_two (k d wd hi : Int) (ca : Option Addr) (cn cc : Nat) (pa : Option Addr) (pn pc : Nat) (cs ps : List Int) (w : World) (hc : Ints w ca cs) (hcn : cs.length = cn) (hcl : cn ≤ 1048576) (hp : Ints w pa ps) (hpn : ps.length = pn) (hpl : pn ≤ 1048576) :
    Calls Tryd.prog 6 #[.agg #[.int .i64 k, .int .i64 d, .int .i64 wd, .int .i64 hi, .slice ca cn cc, .slice pa pn pc]] w fun e w' => (∃ x y, e = .returned (.agg #[.int .i64 k, .int .i64 d, .int .i64 wd, .int .i64 hi, .slice x cn cn, .slice y pn pn]) ∧ Two w' w.heap.size w'.heap.size x cs y ps) ∧ Below w.heap.size w w' := by
  refine (toImage_exact k d wd hi ca cn cc pa pn pc cs ps w hc hcn hcl hp hpn hpl).mono ?_
  rintro e w' ⟨rfl, rfl⟩
  refine ⟨⟨_, _, rfl, ?_⟩, toW_below _ _ _ _ _ _ _ _ _ _ _ _ _⟩
  unfold toW
  generalize hW : ((w.alloc (.cells #[.int .i64 k, .int .i64 d, .int .i64 wd, .int .i64 hi, .slice ca cn cc, .slice pa pn pc] 24)).alloc (.cells #[.int .i64 k, .int .i64 d, .int .i64 wd, .int .i64 hi, .slice (some ⟨w.heap.size + 1 + 1 + 1, 0, none⟩) cn cn, .slice (some ⟨w.heap.size + 1 + 1 + 1 + 1, 0, none⟩) pn pn] 27)).alloc (.cells #[.int .i64 k, .int .i64 d, .int .i64 wd, .int .i64 hi, .slice (some ⟨w.heap.size + 1 + 1 + 1, 0, none⟩) cn cn, .slice (some ⟨w.heap.size + 1 + 1 + 1 + 1, 0, none⟩) pn pn] 27) = W
  have hs : W.heap.size = w.heap.size + 1 + 1 + 1 := by rw [← hW]; simp
  rw [← hs]
  have h1 := own_cp W cs cn hcn
  have h2 := own_cp (W.alloc (.cells (cp cs cn) 3)) ps pn hpn
  rw [World.size_alloc] at h2
  refine ⟨W.heap.size + 1, by omega, by simp, Nat.le_refl _, .inr ⟨W.heap.size, rfl, by omega, by omega, ?_⟩, .inr ⟨W.heap.size + 1, rfl, Nat.le_refl _, by simp, ?_⟩⟩
  · rw [hcn]; exact h1.kept ((Below.refl _ _).alloc (Nat.le_refl _) _)
  · rw [hpn]; exact h2

end Go.Proofs.YtbfeonhokagdjaaDoor

/- PNM: small parts of both sides. -/
namespace Go.Proofs.YtbfeonhokagdjaaDoor
open Go.RowKit

/-- the number of a PNM -/
def Pn.num (k d : Int) (plain : Bool) : Int := (if k = 2 then 3 else if d = 1 then 1 else 2) + (if plain then 0 else 3)
/-- the greatest number of a part of a point -/
def Pn.most (d : Int) : Int := if d = 1 then 1 else if d = 2 then 3 else if d = 4 then 15 else 255
/-- how many bits a point has in bytes -/
def Pn.bits (d : Int) : Int := if d = 1 then 1 else if d = 24 then 24 else 8
/-- a point in figures -/
def Pn.pt (k d : Int) (p : Nat) : List Int := if k = 2 then [((p / 65536 : Nat) : Int), ((p / 256 % 256 : Nat) : Int), ((p % 256 : Nat) : Int)] else if d = 1 then [1 - (p : Int)] else [(p : Int)]
set_option maxHeartbeats 1000000 in
theorem pnmBits_any (d : Int) (hd : d = 1 ∨ d = 2 ∨ d = 4 ∨ d = 8 ∨ d = 24) (w : World) : Calls Tryd.prog 21 #[.int .i64 d] w fun e w' => e = .returned (.int .i64 (Pn.bits d)) ∧ w' = w := by
  rcases hd with rfl | rfl | rfl | rfl | rfl
  all_goals
    go_enter Tryd.func21, Tryd.ntmps21
    go_wp2_with fail
    go_ret
    exact ⟨rfl, rfl⟩
set_option maxHeartbeats 1000000 in
theorem pnmGreatest_any (d : Int) (hd : d = 1 ∨ d = 2 ∨ d = 4 ∨ d = 8 ∨ d = 24) (w : World) : Calls Tryd.prog 36 #[.int .i64 d] w fun e w' => e = .returned (.int .i64 (Pn.most d)) ∧ w' = w := by
  rcases hd with rfl | rfl | rfl | rfl | rfl
  all_goals
    go_enter Tryd.func36, Tryd.ntmps36
    go_wp2_with fail
    go_ret
    exact ⟨rfl, rfl⟩
set_option maxHeartbeats 1000000 in
theorem l12Num_any (k d wd hi : Int) (ca : Option Addr) (cn cc : Nat) (pa : Option Addr) (pn pc : Nat) (plain : Bool) (w : World) :
    Calls Tryd.prog 29 #[.agg #[.int .i64 k, .int .i64 d, .int .i64 wd, .int .i64 hi, .slice ca cn cc, .slice pa pn pc], .bool plain] w fun e w' => e = .returned (.int .i64 (Pn.num k d plain)) ∧ Below w.heap.size w w' := by
  have HB0 : Hid (Below w.heap.size w (w.alloc (.cells #[.int .i64 k, .int .i64 d, .int .i64 wd, .int .i64 hi, .slice ca cn cc, .slice pa pn pc] 27))) := (Below.refl _ _).alloc (Nat.le_refl _) _
  obtain ⟨_, a0, a1, a2, a3, a4, a5⟩ := bx_new w (.int .i64 k) (.int .i64 d) (.int .i64 wd) (.int .i64 hi) (.slice ca cn cc) (.slice pa pn pc) 27
  by_cases h2 : k = 2
  · subst h2
    cases plain
    all_goals
      go_enter Tryd.func29, Tryd.ntmps29
      go_wp2_with fail
      go_ret
      exact ⟨ret_int rfl, HB0.out⟩
  · have g2 : (k == 2) = false := by rw [beq_eq_false_iff_ne]; exact h2
    by_cases h1 : d = 1
    · subst h1
      cases plain
      · have HE : Hid (Pn.num k 1 false = 4) := by show _ = _; unfold Pn.num; simp [h2]
        go_enter Tryd.func29, Tryd.ntmps29
        go_wp2_with fail
        go_ret
        exact ⟨ret_int (by rw [HE.out]), HB0.out⟩
      · have HE : Hid (Pn.num k 1 true = 1) := by show _ = _; unfold Pn.num; simp [h2]
        go_enter Tryd.func29, Tryd.ntmps29
        go_wp2_with fail
        go_ret
        exact ⟨ret_int (by rw [HE.out]), HB0.out⟩
    · have g1 : (d == 1) = false := by rw [beq_eq_false_iff_ne]; exact h1
      cases plain
      · have HE : Hid (Pn.num k d false = 5) := by show _ = _; unfold Pn.num; simp [h2, h1]
        go_enter Tryd.func29, Tryd.ntmps29
        go_wp2_with fail
        go_ret
        exact ⟨ret_int (by rw [HE.out]), HB0.out⟩
      · have HE : Hid (Pn.num k d true = 2) := by show _ = _; unfold Pn.num; simp [h2, h1]
        go_enter Tryd.func29, Tryd.ntmps29
        go_wp2_with fail
        go_ret
        exact ⟨ret_int (by rw [HE.out]), HB0.out⟩
/-- what a point is in figures -/
theorem figs_pt (a b c : List UInt8) : (((((ByteArray.mk #[32] ++ ByteArray.mk a.toArray) ++ ByteArray.mk #[32]) ++ ByteArray.mk b.toArray) ++ ByteArray.mk #[32]) ++ ByteArray.mk c.toArray) = ByteArray.mk ((32 :: a) ++ ((32 :: b) ++ (32 :: c))).toArray := by
  have e : (ByteArray.mk #[32]) = ByteArray.mk [32].toArray := rfl
  rw [e, str_two, str_two, str_two, str_two, str_two]
  simp
set_option linter.unusedVariables false in
set_option maxHeartbeats 2000000 in
theorem l12Plain_any (k d wd hi : Int) (ca : Option Addr) (cn cc : Nat) (pa : Option Addr) (pn pc : Nat) (p : Nat) (hp : p < 16777216) (hp1 : k ≠ 2 → d = 1 → p ≤ 1) (w : World) :
    Calls Tryd.prog 31 #[.agg #[.int .i64 k, .int .i64 d, .int .i64 wd, .int .i64 hi, .slice ca cn cc, .slice pa pn pc], .int .i64 (p : Int)] w fun e w' => e = .returned (.string ⟨(figs (Pn.pt k d p)).toArray⟩) ∧ Below w.heap.size w w' := by
  have HB0 : Hid (Below w.heap.size w (w.alloc (.cells #[.int .i64 k, .int .i64 d, .int .i64 wd, .int .i64 hi, .slice ca cn cc, .slice pa pn pc] 27))) := (Below.refl _ _).alloc (Nat.le_refl _) _
  obtain ⟨_, a0, a1, a2, a3, a4, a5⟩ := bx_new w (.int .i64 k) (.int .i64 d) (.int .i64 wd) (.int .i64 hi) (.slice ca cn cc) (.slice pa pn pc) 27
  by_cases h2 : k = 2
  · subst h2
    obtain ⟨x, hx⟩ : ∃ x, x = p / 65536 := ⟨_, rfl⟩
    obtain ⟨y, hy⟩ : ∃ y, y = p / 256 % 256 := ⟨_, rfl⟩
    obtain ⟨z, hz⟩ : ∃ z, z = p % 256 := ⟨_, rfl⟩
    have ex : (p : Int) / 65536 = (x : Int) := by omega
    have ey : (p : Int) / 256 % 256 = (y : Int) := by omega
    have ez : (p : Int) % 256 = (z : Int) := by omega
    obtain ⟨X, hX⟩ : ∃ X : ByteArray, X = ⟨(Lib.decDigits x).toArray⟩ := ⟨_, rfl⟩
    obtain ⟨Y, hY⟩ : ∃ Y : ByteArray, Y = ⟨(Lib.decDigits y).toArray⟩ := ⟨_, rfl⟩
    obtain ⟨Z, hZ⟩ : ∃ Z : ByteArray, Z = ⟨(Lib.decDigits z).toArray⟩ := ⟨_, rfl⟩
    have HX : Hid (∀ w, Calls Tryd.prog 28 #[.int .i64 (x : Int)] w fun e w' => e = .returned (.string X) ∧ Below w.heap.size w w') := fun w => by rw [hX]; exact l1Dec_any x (by omega) w
    have HY : Hid (∀ w, Calls Tryd.prog 28 #[.int .i64 (y : Int)] w fun e w' => e = .returned (.string Y) ∧ Below w.heap.size w w') := fun w => by rw [hY]; exact l1Dec_any y (by omega) w
    have HZ : Hid (∀ w, Calls Tryd.prog 28 #[.int .i64 (z : Int)] w fun e w' => e = .returned (.string Z) ∧ Below w.heap.size w w') := fun w => by rw [hZ]; exact l1Dec_any z (by omega) w
    have zX : X.size ≤ 10 := by rw [hX, str_size]; exact dec_short (by omega)
    have zY : Y.size ≤ 10 := by rw [hY, str_size]; exact dec_short (by omega)
    have zZ : Z.size ≤ 10 := by rw [hZ, str_size]; exact dec_short (by omega)
    have HE : Hid (ByteArray.mk (figs (Pn.pt 2 d p)).toArray = (((((ByteArray.mk #[32] ++ X) ++ ByteArray.mk #[32]) ++ Y) ++ ByteArray.mk #[32]) ++ Z)) := by
      show _ = _
      have e : Pn.pt 2 d p = [(x : Int), (y : Int), (z : Int)] := by unfold Pn.pt; rw [if_pos rfl, hx, hy, hz]
      rw [hX, hY, hZ, figs_pt, e]
      simp [figs]
    clear hX hY hZ hx hy hz
    go_enter Tryd.func31, Tryd.ntmps31
    go_wp2_with fail
    refine (HX.out _).mono ?_
    rintro e w1 ⟨rfl, b1⟩
    have HB1 : Hid (Below w.heap.size w w1) := HB0.out.trans (b1.mono HB0.out.size)
    clear b1 HX a0 a1 a2 a3 a4 a5 HB0
    go_wp2_with fail
    refine (HY.out _).mono ?_
    rintro e w2 ⟨rfl, b2⟩
    have HB2 : Hid (Below w.heap.size w w2) := HB1.out.trans (b2.mono HB1.out.size)
    clear b2 HY HB1
    go_wp2_with fail
    refine (HZ.out _).mono ?_
    rintro e w3 ⟨rfl, b3⟩
    have HB3 : Hid (Below w.heap.size w w3) := HB2.out.trans (b3.mono HB2.out.size)
    clear b3 HZ HB2
    go_wp2_with fail
    go_ret
    exact ⟨ret_str HE.out.symm, HB3.out⟩
  · have g2 : (k == 2) = false := by rw [beq_eq_false_iff_ne]; exact h2
    obtain ⟨x, hx⟩ : ∃ x : Nat, x = if d = 1 then 1 - p else p := ⟨_, rfl⟩
    obtain ⟨X, hX⟩ : ∃ X : ByteArray, X = ⟨(Lib.decDigits x).toArray⟩ := ⟨_, rfl⟩
    have hxb : x ≤ 4294967295 := by rw [hx]; split <;> omega
    have HX : Hid (∀ w, Calls Tryd.prog 28 #[.int .i64 (x : Int)] w fun e w' => e = .returned (.string X) ∧ Below w.heap.size w w') := fun w => by rw [hX]; exact l1Dec_any x hxb w
    have zX : X.size ≤ 10 := by rw [hX, str_size]; exact dec_short hxb
    by_cases h1 : d = 1
    · have hpp := hp1 h2 h1
      subst h1
      rw [if_pos rfl] at hx
      have ex : 1 - (p : Int) = (x : Int) := by omega
      have HE : Hid (ByteArray.mk (figs (Pn.pt k 1 p)).toArray = ByteArray.mk #[32] ++ X) := by
        show _ = _
        rw [hX, show (ByteArray.mk #[32]) = ByteArray.mk [32].toArray from rfl, str_two]
        simp [figs, Pn.pt, h2, ex]
      clear hX hx hp1
      go_enter Tryd.func31, Tryd.ntmps31
      go_wp2_with fail
      refine (HX.out _).mono ?_
      rintro e w1 ⟨rfl, b1⟩
      have HB1 : Hid (Below w.heap.size w w1) := HB0.out.trans (b1.mono HB0.out.size)
      clear b1 HX a0 a1 a2 a3 a4 a5 HB0
      go_wp2_with fail
      go_ret
      exact ⟨ret_str HE.out.symm, HB1.out⟩
    · have g1 : (d == 1) = false := by rw [beq_eq_false_iff_ne]; exact h1
      rw [if_neg h1] at hx
      subst hx
      have HE : Hid (ByteArray.mk (figs (Pn.pt k d x)).toArray = ByteArray.mk #[32] ++ X) := by
        show _ = _
        rw [hX, show (ByteArray.mk #[32]) = ByteArray.mk [32].toArray from rfl, str_two]
        simp [figs, Pn.pt, h2, h1]
      clear hX hp1
      go_enter Tryd.func31, Tryd.ntmps31
      go_wp2_with fail
      refine (HX.out _).mono ?_
      rintro e w1 ⟨rfl, b1⟩
      have HB1 : Hid (Below w.heap.size w w1) := HB0.out.trans (b1.mono HB0.out.size)
      clear b1 HX a0 a1 a2 a3 a4 a5 HB0
      go_wp2_with fail
      go_ret
      exact ⟨ret_str HE.out.symm, HB1.out⟩
end Go.Proofs.YtbfeonhokagdjaaDoor

/- A list of bits (a number and a size each) in memory. -/
namespace Go.Proofs.YtbfeonhokagdjaaDoor
open Go.RowKit

/-- the slice's cells read as the list: two cells an element -/
def Bits2 (w : World) (a : Option Addr) (l : List (Int × Int)) : Prop :=
  l = [] ∨ ∃ b off, a = some ⟨b, off, none⟩ ∧ b < w.heap.size ∧ ∀ i (h : i < l.length), w.cell? ⟨b, off + i * 2, none⟩ = some (.int .i64 (l[i]).1) ∧ w.cell? ⟨b, off + i * 2 + 1, none⟩ = some (.int .i64 (l[i]).2)

theorem Bits2.kept {w w' : World} {a : Option Addr} {l : List (Int × Int)} (h : Bits2 w a l) (hb : Below w.heap.size w w') : Bits2 w' a l := by
  rcases h with h | ⟨b, off, rfl, hbB, hc⟩
  · exact .inl h
  · exact .inr ⟨b, off, rfl, Nat.lt_of_lt_of_le hbB hb.size, fun i hi => ⟨(hb.cell (p := ⟨b, off + i * 2, none⟩) hbB).trans (hc i hi).1, (hb.cell (p := ⟨b, off + i * 2 + 1, none⟩) hbB).trans (hc i hi).2⟩⟩

/-- what a place of a row of bits holds -/
theorem Bits2.at {w : World} {a : Option Addr} {l : List (Int × Int)} (h : Bits2 w a l) {i : Nat} (hi : i < l.length) :
    ∃ b off, a = some ⟨b, off, none⟩ ∧ b < w.heap.size ∧ w.cell? ⟨b, off + i * 2, none⟩ = some (.int .i64 (l[i]).1) ∧ w.cell? ⟨b, off + i * 2 + 1, none⟩ = some (.int .i64 (l[i]).2) := by
  rcases h with h | ⟨b, off, rfl, hbB, hc⟩
  · rw [h] at hi; simp at hi
  · exact ⟨b, off, rfl, hbB, hc i hi⟩
end Go.Proofs.YtbfeonhokagdjaaDoor

/- A list of bits that a call gathers in a row of its own. -/
namespace Go.Proofs.YtbfeonhokagdjaaDoor
open Go.RowKit

theorem info_bit : (Tryd.prog.info? 86).map (fun i => (i.zero, i.size, i.bytes)) = some (some (.agg #[.int .i64 0, .int .i64 0]), 2, 16) := by kernel_rfl

/-- bits as they lie in memory -/
def cellsOf : List (Int × Int) → List Value
  | [] => []
  | p :: l => .int .i64 p.1 :: .int .i64 p.2 :: cellsOf l

theorem cellsOf_len : ∀ l : List (Int × Int), (cellsOf l).length = l.length * 2
  | [] => rfl
  | p :: l => by simp only [cellsOf, List.length_cons, cellsOf_len l]; omega
theorem cellsOf_get : ∀ (l : List (Int × Int)) (i : Nat) (h : i < l.length), (cellsOf l)[i * 2]? = some (.int .i64 (l[i]).1) ∧ (cellsOf l)[i * 2 + 1]? = some (.int .i64 (l[i]).2)
  | [], i, h => by simp at h
  | p :: l, 0, h => by simp [cellsOf]
  | p :: l, i + 1, h => by
    have := cellsOf_get l i (by simpa using h)
    rw [show (i + 1) * 2 = i * 2 + 1 + 1 by omega, show i * 2 + 1 + 1 + 1 = i * 2 + 1 + 1 + 1 from rfl]
    simp only [cellsOf, List.getElem?_cons_succ, List.getElem_cons_succ]
    exact this
theorem cellsOf_snoc : ∀ (l : List (Int × Int)) (v s : Int), cellsOf l ++ [.int .i64 v, .int .i64 s] = cellsOf (l ++ [(v, s)])
  | [], v, s => rfl
  | p :: l, v, s => by simp only [cellsOf, List.cons_append, cellsOf_snoc l v s]
theorem cellsOf_put (p : Int × Int) (l : List (Int × Int)) (v s : Int) : ((cellsOf (p :: l)).set 0 (.int .i64 v)).set 1 (.int .i64 s) = cellsOf ((v, s) :: l) := by simp [cellsOf]

/-- the slice v owns the bits l, n of them -/
def OwnP (w : World) (B : Nat) (v : Value) (n : Nat) (l : List (Int × Int)) : Prop := w.ownsRow B 86 2 v n (cellsOf l)

theorem OwnP.len {w : World} {B n : Nat} {v : Value} {l : List (Int × Int)} (h : OwnP w B v n l) : l.length = n := by
  have := h.1
  rw [cellsOf_len] at this; omega

theorem OwnP.bits {w : World} {B n : Nat} {v : Value} {l : List (Int × Int)} (h : OwnP w B v n l) : ∃ ao cap, v = .slice ao n cap ∧ Bits2 w ao l := by
  have hl := h.len
  rcases h.2 with ⟨rfl, h0⟩ | ⟨g, cap, cur, rfl, _, hg, _, _, _, ht⟩
  · subst h0
    exact ⟨none, 0, rfl, .inl (List.eq_nil_of_length_eq_zero hl)⟩
  · refine ⟨some ⟨g, 0, none⟩, cap, rfl, .inr ⟨g, 0, rfl, ?_, fun i hi => ?_⟩⟩
    · rcases Nat.lt_or_ge g w.heap.size with hlt | hge
      · exact hlt
      · rw [Array.getElem?_eq_none hge] at hg; cases hg
    · obtain ⟨c1, c2⟩ := cellsOf_get l i hi
      rw [Nat.zero_add]
      exact ⟨(World.ownsRow.cellAt h (i * 2) (by omega)).trans c1, (World.ownsRow.cellAt h (i * 2 + 1) (by omega)).trans c2⟩

theorem OwnP.more {w : World} {B n g cap : Nat} {l : List (Int × Int)} {v s : Int} (h : w.ownsRow B 86 2 (.slice (some ⟨g, 0, none⟩) (n + 1) cap) (n + 1) (cellsOf l ++ [.int .i64 v, .int .i64 s])) :
    OwnP w B (.slice (some ⟨g, 0, none⟩) (n + 1) cap) (n + 1) (l ++ [(v, s)]) := by
  rw [cellsOf_snoc] at h; exact h

/-- the row stays where only other blocks turn -/
theorem OwnP.same {w w' : World} {B n : Nat} {v : Value} {l : List (Int × Int)} (h : OwnP w B v n l) (hk : ∀ k, k < w.heap.size → B ≤ k → w'.heap[k]? = w.heap[k]?) : OwnP w' B v n l := by
  refine ⟨h.1, ?_⟩
  rcases h.2 with h2 | ⟨g, cap, cur, hv, hg, hh, r⟩
  · exact .inl h2
  · have hlt : g < w.heap.size := by
      rcases Nat.lt_or_ge g w.heap.size with hlt | hge
      · exact hlt
      · rw [Array.getElem?_eq_none hge] at hh; cases hh
    exact .inr ⟨g, cap, cur, hv, hg, by rw [hk g hlt hg]; exact hh, r⟩

/-- the first is another one -/
theorem OwnP.first {w : World} {B n g cap : Nat} {p : Int × Int} {l : List (Int × Int)} (h : OwnP w B (.slice (some ⟨g, 0, none⟩) n cap) n (p :: l)) (v s : Int) :
    OwnP ((w.setCell ⟨g, 0, none⟩ (.int .i64 v)).setCell ⟨g, 1, none⟩ (.int .i64 s)) B (.slice (some ⟨g, 0, none⟩) n cap) n ((v, s) :: l) := by
  have h1 := (World.ownsRow.stored h 0 (.int .i64 v)).1
  have h2 := (World.ownsRow.stored h1 1 (.int .i64 s)).1
  rw [cellsOf_put] at h2
  exact h2

theorem own_none (w : World) : OwnP (w.alloc (.cells #[] 86)) w.heap.size (.slice (some ⟨w.heap.size, 0, none⟩) 0 0) 0 [] :=
  World.ownsRow_lit w #[] 0 (Nat.le_refl _) (by decide) rfl
end Go.Proofs.YtbfeonhokagdjaaDoor

/- Whether a number is within limits. -/
namespace Go.Proofs.YtbfeonhokagdjaaDoor
open Go.RowKit

set_option maxHeartbeats 400000 in
theorem l1In_yes (n lo hi : Int) (w : World) (h1 : lo ≤ n) (h2 : n ≤ hi) :
    Calls Tryd.prog 25 #[.int .i64 n, .int .i64 lo, .int .i64 hi] w fun e w' => e = .returned (.bool true) ∧ w' = w := by
  have hd : decide (n ≤ hi) = true := by simp; omega
  go_enter Tryd.func25, Tryd.ntmps25
  go_wp2
  go_ret
  exact ⟨rfl, rfl⟩

set_option maxHeartbeats 400000 in
theorem l1In_no (n lo hi : Int) (w : World) (h : ¬ (lo ≤ n ∧ n ≤ hi)) :
    Calls Tryd.prog 25 #[.int .i64 n, .int .i64 lo, .int .i64 hi] w fun e w' => e = .returned (.bool false) ∧ w' = w := by
  by_cases h1 : lo ≤ n
  · have hd : decide (n ≤ hi) = false := by simp; omega
    clear h
    go_enter Tryd.func25, Tryd.ntmps25
    go_wp2
    go_ret
    exact ⟨rfl, rfl⟩
  · have hd : decide (lo ≤ n) = false := by simp; omega
    clear h
    go_enter Tryd.func25, Tryd.ntmps25
    go_wp2
    go_ret
    exact ⟨rfl, rfl⟩

end Go.Proofs.YtbfeonhokagdjaaDoor

/- Two to the power of a number. -/
namespace Go.Proofs.YtbfeonhokagdjaaDoor
open Go.RowKit

set_option maxHeartbeats 400000 in
theorem l1Pow_any (n : Nat) (w : World) (hn : n ≤ 60) :
    Calls Tryd.prog 27 #[.int .i64 n] w fun e w' => e = .returned (.int .i64 ((2 ^ n : Nat) : Int)) ∧ w' = w := by
  go_enter Tryd.func27, Tryd.ntmps27
  go_wp2_with fail
  go_loop [3, 4] (fun x i => ∃ k y : Nat, k ≤ n ∧ i = .int .i64 k ∧ y = 2 ^ k ∧ x = .int .i64 y) (fun _ i => n - (intOf i).toNat)
  case atStart => exact ⟨0, 1, Nat.zero_le _, rfl, rfl, rfl⟩
  case round =>
    obtain ⟨k, y, hk, rfl, hy, rfl⟩ := hrel
    have hp : 2 ^ k ≤ 2 ^ 60 := Nat.pow_le_pow_right (by omega) (by omega)
    have hyb : y ≤ 1152921504606846976 := by omega
    have HY : Hid (y = 2 ^ k) := hy
    clear hy hp
    by_cases hlt : k < n
    · go_wp2_with fail
      go_round
      case rel => exact ⟨k + 1, y * 2, by omega, by go_num, by rw [HY.out, Nat.pow_succ], by go_num⟩
      case measure => simp [intOf]; omega
    · have hk' : k = n := by omega
      subst hk'
      go_wp2_with fail
      go_ret
      exact ⟨ret_int (by rw [HY.out]; simp), rfl⟩

end Go.Proofs.YtbfeonhokagdjaaDoor

/- Bytes that a call gathers in a row of its own, bit by bit. -/
namespace Go.Proofs.YtbfeonhokagdjaaDoor
open Go.RowKit

theorem info_u8 : (Tryd.prog.info? 5).map (fun i => (i.zero, i.size, i.bytes)) = some (some (.int .u8 0), 1, 1) := by kernel_rfl

/-- bytes as they lie in memory -/
def bytesV (o : List Nat) : List Value := o.map fun x : Nat => Value.int .u8 (x : Int)
theorem bytesV_len (o : List Nat) : (bytesV o).length = o.length := by simp [bytesV]
theorem bytesV_get (o : List Nat) (j : Nat) (h : j < o.length) : (bytesV o)[j]? = some (.int .u8 ((o.getD j 0 : Nat) : Int)) := by
  simp [bytesV, h]
theorem bytesV_set (o : List Nat) (j x : Nat) : (bytesV o).set j (.int .u8 (x : Int)) = bytesV (o.set j x) := by simp [bytesV, List.map_set]
theorem bytesV_snoc (o : List Nat) : bytesV o ++ [.int .u8 0] = bytesV (o ++ [0]) := by simp [bytesV]

/-- the slice v owns the bytes o, L of them -/
def OwnB (w : World) (B : Nat) (v : Value) (L : Nat) (o : List Nat) : Prop := w.ownsRow B 5 1 v L (bytesV o)

theorem OwnB.len {w : World} {B L : Nat} {v : Value} {o : List Nat} (h : OwnB w B v L o) : o.length = L := by
  have := h.1
  rw [bytesV_len] at this; omega

theorem own_room {w : World} {B L g cap : Nat} {o : List Nat} {N : Nat} (h8 : N % 8 = 0) (h : w.ownsRow B 5 1 (.slice (some ⟨g, 0, none⟩) (L + 1) cap) (L + 1) (bytesV o ++ [.int .u8 0])) : OwnB w B (.slice (some ⟨g, 0, none⟩) (L + 1) cap) (L + 1) (Bp.room N o) := by
  unfold OwnB Bp.room
  rw [if_pos h8, ← bytesV_snoc]
  exact h

/-- the byte that the next bit goes into -/
theorem OwnB.cell {w : World} {B g j L cap : Nat} {o : List Nat} (h : OwnB w B (.slice (some ⟨g, 0, none⟩) L cap) L o) (hj : j < L) : w.cell? ⟨g, j, none⟩ = some (.int .u8 ((o.getD j 0 : Nat) : Int)) := by
  have := World.ownsRow.cellAt h j (by omega)
  rw [this, bytesV_get _ _ (by rw [h.len]; omega)]

theorem OwnB.free {w : World} {B g L cap : Nat} {o : List Nat} (h : OwnB w B (.slice (some ⟨g, 0, none⟩) L cap) L o) (j : Nat) : w.frozen? ⟨g, j, none⟩ = false := World.ownsRow.frozenAt h j

theorem OwnB.put {w : World} {B g L cap : Nat} {o : List Nat} (h : OwnB w B (.slice (some ⟨g, 0, none⟩) L cap) L o) (j y : Nat) : OwnB (w.setCell ⟨g, j, none⟩ (.int .u8 (y : Int))) B (.slice (some ⟨g, 0, none⟩) L cap) L (o.set j y) := by
  have := (World.ownsRow.stored h j (.int .u8 (y : Int))).1
  rw [bytesV_set] at this
  exact this

theorem OwnB.drew {w : World} {B L : Nat} {v : Value} {o : List Nat} (h : OwnB w B v L o) : OwnB w.drew B v L o := h

/-- one bit more -/
theorem OwnB.step {w : World} {B g j L cap N : Nat} {hi : Bool} {f : Nat → Nat} (h : OwnB w B (.slice (some ⟨g, 0, none⟩) L cap) L (Bp.room N (Bp.pack hi f N))) (hj : j = N / 8) {y : Nat} (hy : y = (Bp.room N (Bp.pack hi f N)).getD j 0 + f N * 2 ^ Bg.spot hi N) :
    OwnB (w.setCell ⟨g, j, none⟩ (.int .u8 (y : Int))) B (.slice (some ⟨g, 0, none⟩) L cap) L (Bp.pack hi f (N + 1)) := by
  have := h.put j y
  rw [hy, hj] at this
  rw [hy, hj]
  exact this

theorem text_nil (w : World) : Sem.run Tryd.prog (convert 35 9 (.slice none 0 0)) w = .ok (.string ⟨#[]⟩) w := by kernel_rfl

/-- the text of all -/
theorem OwnB.text {w : World} {B L : Nat} {v : Value} {o : List Nat} (h : OwnB w B v L o) : ∃ cap, ∃ ao, v = .slice ao L cap ∧
    Sem.run Tryd.prog (convert 35 9 (.slice ao L cap)) w = .ok (.string ⟨(o.map UInt8.ofNat).toArray⟩) w := by
  have hl := h.len
  rcases h.2 with ⟨rfl, h0⟩ | ⟨g, cap, cur, rfl, _, hg, _, _, _, ht⟩
  · subst h0
    refine ⟨0, none, rfl, ?_⟩
    have : o = [] := List.eq_nil_of_length_eq_zero hl
    subst this
    exact text_nil w
  · refine ⟨cap, some ⟨g, 0, none⟩, rfl, ?_⟩
    subst hl
    refine run_text w ⟨g, 0, none⟩ cap o ?_
    intro j v hj
    have := (World.ownsRow.cells h rfl) j v hj
    exact this

/-- an empty row, just laid -/
theorem own_empty (w : World) : OwnB (w.alloc (.cells #[] 5)) w.heap.size (.slice (some ⟨w.heap.size, 0, none⟩) 0 0) 0 [] :=
  World.ownsRow_lit w #[] 0 (Nat.le_refl _) (by decide) rfl
end Go.Proofs.YtbfeonhokagdjaaDoor

/- Which comes first: the two closures, and who makes them. -/
namespace Go.Proofs.YtbfeonhokagdjaaDoor
open Go.RowKit

set_option maxHeartbeats 400000 in
theorem order_high (i size : Int) (w : World) (h0 : 0 ≤ i) (h1 : i ≤ size) (h2 : size ≤ 1000) :
    Calls Tryd.prog 53 #[.int .i64 i, .int .i64 size] w fun e w' => e = .returned (.int .i64 (size - 1 - i)) ∧ w' = w := by
  go_enter Tryd.func53, Tryd.ntmps53
  go_wp2
  go_ret
  exact ⟨rfl, rfl⟩

set_option maxHeartbeats 400000 in
theorem order_low (i size : Int) (w : World) :
    Calls Tryd.prog 54 #[.int .i64 i, .int .i64 size] w fun e w' => e = .returned (.int .i64 i) ∧ w' = w := by
  go_enter Tryd.func54, Tryd.ntmps54
  go_wp2
  go_ret
  exact ⟨rfl, rfl⟩

set_option maxHeartbeats 400000 in
theorem orderOf_high (w : World) :
    Calls Tryd.prog 42 #[.bool true] w fun e w' => e = .returned (.func (.func 53) #[] #[]) ∧ w' = w := by
  go_enter Tryd.func42, Tryd.ntmps42
  go_wp2
  go_ret
  exact ⟨rfl, rfl⟩

end Go.Proofs.YtbfeonhokagdjaaDoor

/- One int appended to a row of the call's own. -/
namespace Go.Proofs.YtbfeonhokagdjaaDoor
open Go.RowKit

/-- the world behind an append: only v's own row has turned, and new blocks came -/
structure Grew (base : Nat) (w0 w' : World) (v : Value) (g : Nat) : Prop where
  os : w'.os = w0.os
  tape : w'.tape = w0.tape
  output : w'.output = w0.output
  size : w0.heap.size ≤ w'.heap.size
  own : ∀ k, v.ownBlock = some k → base ≤ k ∧ k < w0.heap.size
  block : ∀ k, k < w0.heap.size → some k ≠ v.ownBlock → w'.heap[k]? = w0.heap[k]?
  at_ : v.ownBlock = some g ∨ w0.heap.size ≤ g
  lt : g < w'.heap.size

theorem Grew.below {base g B : Nat} {w0 w' W : World} {v : Value} (h : Grew base w0 w' v g) (hb : Below B W w0) (hB : B ≤ base) (hs : B ≤ w0.heap.size) : Below B W w' :=
  hb.trans ⟨h.os, h.tape, h.output, h.size, fun k hk => h.block k (by omega) (fun e => by have := (h.own k e.symm).1; omega)⟩
theorem Grew.cell {base g : Nat} {w0 w' : World} {v : Value} (h : Grew base w0 w' v g) {a : Addr} (ha : a.block < w0.heap.size) (hf : v.ownBlock ≠ some a.block) : w'.cell? a = w0.cell? a :=
  World.cell?_of_block (w := w0) (h.block a.block ha (fun e => hf e.symm))
theorem Grew.far {base g b cap n : Nat} {w0 w' : World} {v : Value} (h : Grew base w0 w' v g) (hb : b < w0.heap.size) (hf : v.ownBlock ≠ some b) : (Value.slice (some ⟨g, 0, none⟩) n cap).ownBlock ≠ some b := by
  show some g ≠ some b
  intro e
  cases e
  rcases h.at_ with e | e
  · exact hf e
  · omega

theorem Grew.of {base g e size n : Nat} {w0 w' : World} {v : Value} {xs : List Value} {o : Obj} (hown : w0.ownsRow base e size v n xs) (hg : (w0.alloc o).grownBy w' v.ownBlock) (hat : v.ownBlock = some g ∨ g = (w0.alloc o).heap.size) (hlt : g < w'.heap.size) : Grew base w0 w' v g := by
  have hs := hg.size
  rw [World.size_alloc] at hs
  refine ⟨hg.os, hg.tape, hg.output, by omega, fun k hk => World.ownsRow.lt hown k hk, fun k hk hne => ?_, ?_, hlt⟩
  · rw [hg.block k (by rw [World.size_alloc]; omega) hne]; exact Below.heap_alloc _ _ _ hk
  · rcases hat with e | e
    · exact .inl e
    · rw [World.size_alloc] at e; exact .inr (by omega)

theorem OwnI.alloc {w : World} {B n : Nat} {v : Value} {l : List Int} (h : OwnI w B v n l) (o : Obj) : OwnI (w.alloc o) B v n l := World.ownsRow.alloc (show World.ownsRow _ _ _ _ _ _ _ from h) o
theorem OwnI.far {w : World} {B n : Nat} {v : Value} {l : List Int} (h : OwnI w B v n l) {b : Nat} (hb : w.heap.size ≤ b) : v.ownBlock ≠ some b := fun e => by have := (World.ownsRow.lt h b e).2; omega
theorem ownI_nil (w : World) (B : Nat) : OwnI w B (.slice none 0 0) 0 [] := World.ownsRow_nil _ _ _ _

end Go.Proofs.YtbfeonhokagdjaaDoor

/- Contracts of the library of Go, laid by the kit (its one application each). -/
namespace Go.Proofs
open Go.Shelf
def Tryd.lays169_ren : Go.Shelf.Ren := ⟨fun | 169 => 22 | n => n, fun | 70 => 34 | 9 => 9 | 0 => 0 | 72 => 37 | 37 => 35 | 127 => 76 | 3 => 3 | 5 => 5 | n => n, fun | n => n⟩
theorem Tryd.lays169 : Go.Proofs.Lays.n169 Tryd.prog Tryd.lays169_ren := {
  mixed := by kernel_rfl
  f169 := Tryd.func22.trans (congrArg some (by kernel_rfl))
  t0 := Tryd.underlying0
  a0 := Tryd.isAgg0
  z0 := Tryd.sizeOf0
  v0 := Tryd.zeroValue0
  t3 := Tryd.underlying3
  a3 := Tryd.isAgg3
  z3 := Tryd.sizeOf3
  v3 := Tryd.zeroValue3
  t9 := Tryd.underlying9
  a9 := Tryd.isAgg9
  z9 := Tryd.sizeOf9
  v9 := Tryd.zeroValue9
  t37 := Tryd.underlying35
  a37 := Tryd.isAgg35
  z37 := Tryd.sizeOf35
  v37 := Tryd.zeroValue35
  t70 := Tryd.underlying34
  a70 := Tryd.isAgg34
  z70 := Tryd.sizeOf34
  v70 := Tryd.zeroValue34
  t72 := Tryd.underlying37
  a72 := Tryd.isAgg37
  z72 := Tryd.sizeOf37
  v72 := Tryd.zeroValue37
  t127 := Tryd.underlying76
  a127 := Tryd.isAgg76
  z127 := Tryd.sizeOf76
  v127 := Tryd.zeroValue76 }
theorem Tryd.Builder_Extra_169 : Builder.Extra Tryd.prog Tryd.lays169_ren := {
  sizeBuilder := by kernel_rfl
  liesBuilder := by kernel_rfl
  t5 := Tryd.underlying5
  a5 := Tryd.isAgg5
  z5 := Tryd.sizeOf5
  v5 := Tryd.zeroValue5
  infoByte := by kernel_rfl
  cellsByte := by kernel_rfl
  sizeByte := by kernel_rfl
  neB5 := by decide }
open Go.RowKit in
theorem Tryd.Builder_String_any (B b : Nat) (l : List UInt8) (w : World) (h : Lib.IsBuilder 37 5 B b (Lib.byteCells l) w) (hBw : B ≤ w.heap.size) :
    Calls Tryd.prog 22 #[.pointer (some ⟨b, 0, none⟩)] w fun e w' => e = .returned (.string ⟨l.toArray⟩) ∧ Below B w w' := Any.Builder_String_any Tryd.lays169 Tryd.Builder_Extra_169 B b l w h hBw
def Tryd.laysM171_ren : Go.Shelf.Ren := ⟨fun | 171 => 35 | 243 => 52 | 246 => 60 | 283 => 62 | 284 => 63 | 285 => 64 | 286 => 65 | 129 => 67 | 317 => 66 | 318 => 68 | 319 => 69 | 320 => 70 | 337 => 71 | 338 => 72 | n => n, fun | 3 => 3 | 9 => 9 | 2 => 2 | 4 => 4 | 171 => 91 | 0 => 0 | 53 => 92 | 37 => 35 | 5 => 5 | 173 => 95 | 212 => 98 | 51 => 99 | 20 => 20 | 213 => 100 | 46 => 66 | 232 => 103 | 233 => 104 | n => n, fun | 17 => 0 | 18 => 1 | 19 => 2 | n => n⟩
theorem Tryd.laysM171 : Go.Proofs.LaysM.n171 Tryd.prog Tryd.laysM171_ren := {
  mixed := by kernel_rfl
  f129 := Tryd.func67.trans (congrArg some (by kernel_rfl))
  f171 := Tryd.func35.trans (congrArg some (by kernel_rfl))
  f243 := Tryd.func52.trans (congrArg some (by kernel_rfl))
  f246 := Tryd.func60.trans (congrArg some (by kernel_rfl))
  f283 := Tryd.func62.trans (congrArg some (by kernel_rfl))
  f284 := Tryd.func63.trans (congrArg some (by kernel_rfl))
  f285 := Tryd.func64.trans (congrArg some (by kernel_rfl))
  f286 := Tryd.func65.trans (congrArg some (by kernel_rfl))
  f317 := Tryd.func66.trans (congrArg some (by kernel_rfl))
  f318 := Tryd.func68.trans (congrArg some (by kernel_rfl))
  f319 := Tryd.func69.trans (congrArg some (by kernel_rfl))
  f320 := Tryd.func70.trans (congrArg some (by kernel_rfl))
  f337 := Tryd.func71.trans (congrArg some (by kernel_rfl))
  f338 := Tryd.func72.trans (congrArg some (by kernel_rfl))
  t0 := Tryd.underlying0
  a0 := Tryd.isAgg0
  z0 := Tryd.sizeOf0
  v0 := Tryd.zeroValue0
  t2 := Tryd.underlying2
  a2 := Tryd.isAgg2
  z2 := Tryd.sizeOf2
  v2 := Tryd.zeroValue2
  t3 := Tryd.underlying3
  a3 := Tryd.isAgg3
  z3 := Tryd.sizeOf3
  v3 := Tryd.zeroValue3
  t4 := Tryd.underlying4
  a4 := Tryd.isAgg4
  z4 := Tryd.sizeOf4
  v4 := Tryd.zeroValue4
  t5 := Tryd.underlying5
  a5 := Tryd.isAgg5
  z5 := Tryd.sizeOf5
  v5 := Tryd.zeroValue5
  t9 := Tryd.underlying9
  a9 := Tryd.isAgg9
  z9 := Tryd.sizeOf9
  v9 := Tryd.zeroValue9
  t20 := Tryd.underlying20
  a20 := Tryd.isAgg20
  z20 := Tryd.sizeOf20
  v20 := Tryd.zeroValue20
  t37 := Tryd.underlying35
  a37 := Tryd.isAgg35
  z37 := Tryd.sizeOf35
  v37 := Tryd.zeroValue35
  t46 := Tryd.underlying66
  a46 := Tryd.isAgg66
  z46 := Tryd.sizeOf66
  v46 := Tryd.zeroValue66
  t51 := Tryd.underlying99
  a51 := Tryd.isAgg99
  z51 := Tryd.sizeOf99
  v51 := Tryd.zeroValue99
  t53 := Tryd.underlying92
  a53 := Tryd.isAgg92
  z53 := Tryd.sizeOf92
  v53 := Tryd.zeroValue92
  t171 := Tryd.underlying91
  a171 := Tryd.isAgg91
  z171 := Tryd.sizeOf91
  v171 := Tryd.zeroValue91
  t173 := Tryd.underlying95
  a173 := Tryd.isAgg95
  z173 := Tryd.sizeOf95
  v173 := Tryd.zeroValue95
  t212 := Tryd.underlying98
  a212 := Tryd.isAgg98
  z212 := Tryd.sizeOf98
  v212 := Tryd.zeroValue98
  t213 := Tryd.underlying100
  a213 := Tryd.isAgg100
  z213 := Tryd.sizeOf100
  t232 := Tryd.underlying103
  a232 := Tryd.isAgg103
  z232 := Tryd.sizeOf103
  v232 := Tryd.zeroValue103
  t233 := Tryd.underlying104
  a233 := Tryd.isAgg104
  z233 := Tryd.sizeOf104
  v233 := Tryd.zeroValue104
  g17 := by kernel_rfl
  g18 := by kernel_rfl
  g19 := by kernel_rfl
  i0 := by kernel_rfl
  i2 := by kernel_rfl
  i3 := by kernel_rfl
  i4 := by kernel_rfl
  i5 := by kernel_rfl
  i9 := by kernel_rfl
  i20 := by kernel_rfl
  i37 := by kernel_rfl
  i46 := by kernel_rfl
  i51 := by kernel_rfl
  i53 := by kernel_rfl
  i171 := by kernel_rfl
  i173 := by kernel_rfl
  i212 := by kernel_rfl
  i232 := by kernel_rfl
  i233 := by kernel_rfl
  m17 := by kernel_rfl
  m18 := by kernel_rfl
  m19 := by kernel_rfl }
open Go.RowKit Go.Sort Go.Lib in
theorem Tryd.strconv_Itoa (n : Int) (h0 : -9223372036854775808 ≤ n) (h1 : n ≤ 9223372036854775807) (w : World) (htab : Lib.TabIs Tryd.prog w "internal/strconv.uint64pow10" .u64 Lib.pow10Tab) :
    Calls Tryd.prog 35 #[.int .i64 n] w fun e w' => e = .returned (.string ⟨(Lib.itoa n).toArray⟩) ∧ ∃ k os, w' = grow (w.drewN k) os := Any.strconv_Itoa Tryd.laysM171 n h0 h1 w htab
end Go.Proofs

/- A strings.Builder that is written: a text goes behind what it holds. -/
namespace Go.Proofs.YtbfeonhokagdjaaDoor
open Go.RowKit

theorem bld_size : (Tryd.prog.info? 37).map (·.size) = some 2 := by kernel_rfl
theorem bld_lies : liesAt Tryd.prog Tryd.prog.depth 37 (2 / Tryd.prog.cellsOf 37) 0 37 1 = true := by kernel_rfl
theorem bld_byte : (Tryd.prog.info? 5).map (fun i => (i.zero, i.size, i.bytes)) = some (some (.int .u8 0), 1, 1) := by kernel_rfl
/-- a builder at b, from B on, that holds these bytes -/
def Bld (B b : Nat) (bs : List Value) (w : World) : Prop := Lib.IsBuilder 37 5 B b bs w
set_option maxHeartbeats 1000000 in
set_option maxRecDepth 100000 in
theorem copyCheck_any (B b : Nat) (bs : List Value) (w : World) (h : Bld B b bs w) :
    Calls Tryd.prog 34 #[.pointer (some ⟨b, 0, none⟩)] w fun e w' => e = .returned (.tuple #[]) ∧ Lib.BuilderAt 37 5 B b (.pointer (some ⟨b, 0, none⟩)) bs w' ∧ Below B w w' := by
  rcases h with h | h
  · obtain ⟨j, hj, hjs⟩ := Option.map_eq_some_iff.1 bld_size
    have c0 := h.cell0
    have f0 := h.frozen0
    have sh := h.shape
    have HE : Hid (Lib.BuilderAt 37 5 B b (.pointer (some ⟨b, 0, none⟩)) bs (w.setCell ⟨b, 0, none⟩ (.pointer (some ⟨b, 0, none⟩))) ∧ Below B w (w.setCell ⟨b, 0, none⟩ (.pointer (some ⟨b, 0, none⟩)))) := ⟨h.used _, (Below.refl B w).setCell (p := ⟨b, 0, none⟩) h.1 _⟩
    clear h
    go_enter Tryd.func34, Tryd.ntmps34
    go_wp2_with fail
    rw [Lib.run_to_unsafe w ⟨b, 0, none⟩ Tryd.underlying34 Tryd.underlying78 hj (by rw [hjs]; decide) sh (Nat.zero_lt_succ 1)]
    simp only [Result.andThen]
    rw [Oper.upon_value]
    go_wp2
    rw [run_callFunc_extern Tryd.func51 (by kernel_rfl) (by kernel_rfl) (by kernel_rfl) (e := Extern.AbiNoEscape.same) (by kernel_rfl)]
    rw [Lib.run_noEscape]
    simp only [Result.andThen]
    rw [Oper.upon_value]
    go_wp2
    rw [Lib.run_from_unsafe w ⟨b, 0, none⟩ Tryd.underlying78 Tryd.underlying34 hj sh bld_lies]
    simp only [Result.andThen]
    rw [Oper.upon_value]
    go_wp2
    go_end0
    exact ⟨rfl, HE.out⟩
  · obtain ⟨j, hj, _⟩ := Option.map_eq_some_iff.1 bld_size
    have c0 := h.cell0
    have HE : Hid (Lib.BuilderAt 37 5 B b (.pointer (some ⟨b, 0, none⟩)) bs w ∧ Below B w w) := ⟨h, Below.refl B _⟩
    clear h
    go_enter Tryd.func34, Tryd.ntmps34
    go_wp2_with fail
    rw [Lib.run_neq_ptr_same w _ Tryd.underlying34 hj]
    go_wp2
    go_end0
    exact ⟨rfl, HE.out⟩
set_option maxHeartbeats 2000000 in
set_option maxRecDepth 100000 in
theorem writeString_any (B b : Nat) (bs : List Value) (s : ByteArray) (w : World) (h : Bld B b bs w) (hlen : bs.length + s.size ≤ 140737488355328) (hBw : B ≤ w.heap.size) :
    Calls Tryd.prog 15 #[.pointer (some ⟨b, 0, none⟩), .string s] w fun e w' => (∃ r, e = .returned r) ∧ Bld B b (bs ++ Lib.strCells s) w' ∧ Below B w w' := by
  obtain ⟨i0, hi, hz0, hz1, hz2⟩ := info_parts bld_byte
  have HC : Hid (Calls Tryd.prog 34 #[.pointer (some ⟨b, 0, none⟩)] w fun e w' => e = .returned (.tuple #[]) ∧ Lib.BuilderAt 37 5 B b (.pointer (some ⟨b, 0, none⟩)) bs w' ∧ Below B w w') := copyCheck_any B b bs w h
  clear h
  go_enter Tryd.func15, Tryd.ntmps15
  go_wp2_with fail
  refine HC.out.mono ?_
  rintro e w1 ⟨rfl, ⟨hB, v, hbk, hown, hne⟩, hb1⟩
  have c1 : w1.cell? ⟨b, 1, none⟩ = some v := by rw [Lib.cell_of_heap hbk]; rfl
  have hlt : b < w1.heap.size := (Array.getElem?_eq_some_iff.1 hbk).1
  have HH : Hid (B ≤ b ∧ w1.heap[b]? = some (.cells #[.pointer (some ⟨b, 0, none⟩), v] 37 (0, 0)) ∧ w1.ownsRow B 5 1 v bs.length bs ∧ v.ownBlock ≠ some b ∧ Below B w w1) := ⟨hB, hbk, hown, hne, hb1⟩
  clear HC hB hbk hown hne hb1
  go_wp2_with (at_builtin; refine Lib.wpList_append_own_string _ rfl _ _ 35 9 rfl B 5 i0 Tryd.underlying35 Tryd.underlying9 hi hz0 hz1 hz2 _ _ _ rfl HH.out.2.2.1 s rfl (by unfold maxLen; omega) (by omega) (by have := HH.out.2.2.2.2.size; omega) ?_)
  intro v' w2 hown' hg _
  have hb2 : w2.heap[b]? = some (.cells #[.pointer (some ⟨b, 0, none⟩), v] 37 (0, 0)) := (hg.block b hlt (fun e => HH.out.2.2.2.1 e.symm)).trans HH.out.2.1
  have d1 : w2.cell? ⟨b, 1, none⟩ = some v := by rw [Lib.cell_of_heap hb2]; rfl
  have f1 : w2.frozen? ⟨b, 1, none⟩ = false := Lib.frozen_of_heap hb2 1
  obtain ⟨ao, n', cap, rfl⟩ : ∃ ao n' cap, v' = .slice ao n' cap := by
    rcases hown'.2 with ⟨hv, _⟩ | ⟨g, cap, cur, hv, _⟩
    · exact ⟨_, _, _, hv⟩
    · exact ⟨_, _, _, hv⟩
  have HF : Hid (Bld B b (bs ++ Lib.strCells s) (w2.setCell ⟨b, 1, none⟩ (.slice ao n' cap)) ∧ Below B w (w2.setCell ⟨b, 1, none⟩ (.slice ao n' cap))) := by
    refine ⟨.inr ?_, ?_⟩
    · exact Lib.BuilderAt.put (T := 37) (e := 5) HH.out.1 hb2 (bs' := bs ++ Lib.strCells s) (by simpa [Lib.strCells_length] using hown') (by decide)
    · exact (HH.out.2.2.2.2.grown hg (by have := HH.out.2.2.2.2.size; omega) (fun k hk => (HH.out.2.2.1.lt k hk).1)).setCell (p := ⟨b, 1, none⟩) HH.out.1 _
  clear hown' hg hb2 HH
  go_wp2
  go_ret2
  exact ⟨⟨_, rfl⟩, HF.out⟩
theorem bld_new (w : World) : Bld w.heap.size w.heap.size [] (w.alloc (.cells #[.pointer none, .slice none 0 0] 37)) := Lib.fresh_isBuilder _ _ w
theorem below_grow (w : World) (k : Nat) (os : Array Obj) : Below w.heap.size w (Sort.grow (w.drewN k) os) := by
  refine ⟨rfl, by simp [Sort.grow, World.drewN], rfl, by simp [Sort.grow], fun i hi => ?_⟩
  simp only [Sort.grow]
  rw [Array.getElem?_append_left (by simpa using hi)]
  simp
theorem Bld.below {B b : Nat} {bs : List Value} {w w' : World} (h : Bld B b bs w) (k : Below w.heap.size w w') : Bld B b bs w' := by
  have key : ∀ p, Lib.BuilderAt 37 5 B b p bs w → Lib.BuilderAt 37 5 B b p bs w' := fun p hp => by
    obtain ⟨h1, v, h2, h3, h4⟩ := hp
    refine ⟨h1, v, (k.block b (Array.getElem?_eq_some_iff.1 h2).1).trans h2, ?_, h4⟩
    refine World.ownsRow.kept h3 (row := none) ⟨k.os, k.tape, k.output, k.size, fun i hi _ => k.block i hi⟩ ?_
    cases v.ownBlock with
    | none => exact .inl rfl
    | some j => exact .inr (by simp)
  rcases h with h | h
  · exact .inl (key _ h)
  · exact .inr (key _ h)
end Go.Proofs.YtbfeonhokagdjaaDoor

/- Numbers in figures, as the program writes them. -/
namespace Go.Proofs.YtbfeonhokagdjaaDoor
open Go.RowKit

/-- the table of powers of ten, that the library of Go lays -/
def Tens (w : World) : Prop := Lib.TabIs Tryd.prog w "internal/strconv.uint64pow10" .u64 Lib.pow10Tab
theorem Tens.below {w w' : World} (h : Tens w) (b : Below w.heap.size w w') : Tens w' := by
  unfold Tens Lib.TabIs World.var? at *
  obtain ⟨g, hg, h2⟩ := Option.bind_eq_some_iff.1 h
  have hlt : g < w.heap.size := by
    rcases Nat.lt_or_ge g w.heap.size with h3 | h3
    · exact h3
    · rw [Array.getElem?_eq_none h3] at h2
      cases h2
  rw [hg]
  show (match w'.heap[g]? with | some (.cells cs _ _) => some cs | _ => none) = _
  rw [b.block g hlt]
  exact h2
theorem itoa_any (n : Nat) (w : World) (hn : n ≤ 4294967295) (ht : Tens w) : Calls Tryd.prog 35 #[.int .i64 (n : Int)] w fun e w' => e = .returned (.string ⟨(Lib.decDigits n).toArray⟩) ∧ Below w.heap.size w w' := by
  refine (Tryd.strconv_Itoa (n : Int) (by omega) (by omega) w ht).mono ?_
  rintro e w' ⟨rfl, k, os, rfl⟩
  refine ⟨?_, below_grow w k os⟩
  have e : Lib.itoa (n : Int) = Lib.decDigits n := by
    unfold Lib.itoa
    rw [if_neg (by omega)]
    rfl
  rw [e]
set_option maxHeartbeats 4000000 in
set_option maxRecDepth 20000 in
theorem listFigures_any (a : Option Addr) (N c : Nat) (l : List Int) (w : World) (h : Ints w a l) (hN : l.length = N) (hNb : N ≤ 1048576) (hf : Figs l) (ht : Tens w) : Calls Tryd.prog 39 #[.slice a N c] w fun e w' => e = .returned (.string ⟨(figs l).toArray⟩) ∧ Below w.heap.size w w' := by
  have HI : Hid (Ints w a l ∧ l.length = N ∧ Figs l ∧ Tens w) := ⟨h, hN, hf, ht⟩
  obtain ⟨W0, hW0⟩ : ∃ W0, W0 = w.alloc (.cells #[.pointer none, .slice none 0 0] 37) := ⟨_, rfl⟩
  obtain ⟨b, hb⟩ : ∃ b, b = w.heap.size := ⟨_, rfl⟩
  have HB0 : Hid (Bld b b (Lib.byteCells (figs (l.take 0))) W0 ∧ Below w.heap.size w W0) := by
    rw [hW0, hb]
    exact ⟨bld_new w, (Below.refl _ _).alloc (Nat.le_refl _) _⟩
  have HBB : Hid (b = w.heap.size) := hb
  clear h hN hf ht
  go_enter Tryd.func39, Tryd.ntmps39
  go_wp2_with fail
  rw [← hW0, ← hb]
  clear hW0 hb
  go_loopw [8] (fun i wr => ∃ k : Nat, k ≤ N ∧ i = .int .i64 (k : Int) ∧ Hid (Bld b b (Lib.byteCells (figs (l.take k))) wr ∧ Below w.heap.size w wr)) (fun i _ => N - (intOf i).toNat)
  case atStart => exact ⟨0, Nat.zero_le _, rfl, HB0⟩
  case round =>
    obtain ⟨k, hk, rfl, HR⟩ := hrel
    clear HB0
    by_cases hlt : k < N
    · have hki : (k : Int) < (N : Int) := by omega
      have hkl : k < l.length := by rw [HI.out.2.1]; exact hlt
      obtain ⟨b1, off, rfl, hb1, hcell⟩ := (HI.out.1.kept HR.out.2).cellAt hkl
      have hfk := HI.out.2.2.1 _ (List.getElem_mem hkl)
      obtain ⟨z, hz⟩ := Int.eq_ofNat_of_zero_le hfk.1
      have HT : Hid (figs (l.take (k + 1)) = figs (l.take k) ++ (32 :: Lib.decDigits z)) := by
        show _ = _
        rw [List.take_succ_eq_append_getElem hkl, figs_snoc, hz]
        rfl
      rw [hz] at hcell hfk
      have hfl := figs_len (l := l.take k) (fun m hm => HI.out.2.2.1 m (List.mem_of_mem_take hm))
      have hlk : (l.take k).length ≤ k := List.length_take_le _ _
      have hzl := dec_short (n := z) (by omega)
      have hcl : (Lib.byteCells (figs (l.take k))).length = (figs (l.take k)).length := by simp [Lib.byteCells]
      have HSZ : Hid (b ≤ wr.heap.size) := by show _ ≤ _; rw [HBB.out]; exact HR.out.2.size
      have HW1 : Hid (Calls Tryd.prog 15 #[.pointer (some ⟨b, 0, none⟩), .string ⟨#[32]⟩] wr fun e w' => (∃ r, e = .returned r) ∧ Bld b b (Lib.byteCells (figs (l.take k)) ++ Lib.strCells ⟨#[32]⟩) w' ∧ Below b wr w') := writeString_any b b _ ⟨#[32]⟩ wr HR.out.1 (by rw [hcl]; show (figs (l.take k)).length + 1 ≤ _; omega) HSZ.out
      clear hz
      go_wp2_with fail
      refine HW1.out.mono ?_
      rintro e w1 ⟨⟨r1, rfl⟩, hB1, b1⟩
      have b1' : Below w.heap.size wr w1 := by rw [← HBB.out]; exact b1
      have HB1 : Hid (Bld b b (Lib.byteCells (figs (l.take k)) ++ Lib.strCells ⟨#[32]⟩) w1 ∧ Below w.heap.size w w1 ∧ b ≤ w1.heap.size) := ⟨hB1, HR.out.2.trans b1', Nat.le_trans HSZ.out b1.size⟩
      have HIT : Hid (Calls Tryd.prog 35 #[.int .i64 (z : Int)] w1 fun e w' => e = .returned (.string ⟨(Lib.decDigits z).toArray⟩) ∧ Below w1.heap.size w1 w') := itoa_any z w1 (by omega) (HI.out.2.2.2.below HB1.out.2.1)
      clear hB1 b1 b1' HW1 HR
      go_wp2_with fail
      refine HIT.out.mono ?_
      rintro e w2 ⟨rfl, b2⟩
      have HB2 : Hid (Bld b b (Lib.byteCells (figs (l.take k)) ++ Lib.strCells ⟨#[32]⟩) w2 ∧ Below w.heap.size w w2 ∧ b ≤ w2.heap.size) := ⟨HB1.out.1.below b2, HB1.out.2.1.trans (b2.mono HB1.out.2.1.size), Nat.le_trans HB1.out.2.2 b2.size⟩
      have HW2 : Hid (Calls Tryd.prog 15 #[.pointer (some ⟨b, 0, none⟩), .string ⟨(Lib.decDigits z).toArray⟩] w2 fun e w' => (∃ r, e = .returned r) ∧ Bld b b (Lib.byteCells (figs (l.take k)) ++ Lib.strCells ⟨#[32]⟩ ++ Lib.strCells ⟨(Lib.decDigits z).toArray⟩) w' ∧ Below b w2 w') := writeString_any b b _ ⟨(Lib.decDigits z).toArray⟩ w2 HB2.out.1 (by rw [List.length_append, hcl, show (Lib.strCells ⟨#[32]⟩).length = 1 from rfl, str_size (Lib.decDigits z)]; omega) HB2.out.2.2
      clear b2 HIT HB1
      go_wp2_with fail
      refine HW2.out.mono ?_
      rintro e w3 ⟨⟨r3, rfl⟩, hB3, b3⟩
      have HF : Hid (Bld b b (Lib.byteCells (figs (l.take (k + 1)))) w3 ∧ Below w.heap.size w w3) := by
        refine ⟨?_, HB2.out.2.1.trans (by rw [← HBB.out]; exact b3)⟩
        rw [HT.out]
        have e : Lib.byteCells (figs (l.take k) ++ (32 :: Lib.decDigits z)) = Lib.byteCells (figs (l.take k)) ++ Lib.strCells ⟨#[32]⟩ ++ Lib.strCells ⟨(Lib.decDigits z).toArray⟩ := by
          rw [Lib.strCells_toArray]
          show _ = Lib.byteCells (figs (l.take k)) ++ Lib.byteCells [32] ++ _
          simp [Lib.byteCells]
          rfl
        rw [e]
        exact hB3
      clear hB3 b3 HW2 HB2 HT hfl hcl
      go_wp2_with fail
      go_roundw
      case rel => exact ⟨k + 1, by omega, by go_num, HF⟩
      case measure => simp [intOf]; omega
    · have hki : ¬ (k : Int) < (N : Int) := by omega
      have hkN : k = N := by omega
      have HS : Hid (Calls Tryd.prog 22 #[.pointer (some ⟨b, 0, none⟩)] wr fun e w' => e = .returned (.string ⟨(figs l).toArray⟩) ∧ Below b wr w') := by
        have h := HR.out.1
        rw [List.take_of_length_le (by rw [HI.out.2.1, hkN]; exact Nat.le_refl _)] at h
        exact Tryd.Builder_String_any b b (figs l) wr h (by rw [HBB.out]; exact HR.out.2.size)
      go_wp2_with fail
      refine HS.out.mono ?_
      rintro e w1 ⟨rfl, b1⟩
      have HE : Hid (Below w.heap.size w w1) := HR.out.2.trans (by rw [← HBB.out]; exact b1)
      clear b1 HS HR
      go_wp2_with fail
      go_ret
      exact ⟨ret_str rfl, HE.out⟩
end Go.Proofs.YtbfeonhokagdjaaDoor

/- What each format can hold: both sides. -/
namespace Go.Proofs.YtbfeonhokagdjaaDoor
open Go.RowKit

/-- the number of a kind in a TGA -/
def Tg.sort (k d : Int) : Int := if k = 4 ∧ d = 8 then 1 else if k = 2 ∨ k = 3 then 2 else if k = 1 ∧ d = 8 then 3 else 0
def Bm.hold (k d : Int) : Bool := decide (k = 2) || (decide (k = 4) && decide (d = 8))

def Bm.rep (k d : Int) (runs : Bool) : Bool := (decide (k = 2) && !runs) || (decide (k = 4) && decide (d = 8))
def Pn.sort (k d : Int) : Int := if k = 1 then (if d = 1 then 1 else 2) else if k = 2 then 3 else 0
set_option maxHeartbeats 1000000 in
theorem pnmSort_any (k d : Int) (w : World) : Calls Tryd.prog 33 #[.int .i64 k, .int .i64 d] w fun e w' => e = .returned (.int .i64 (Pn.sort k d)) ∧ w' = w := by
  by_cases h1 : k = 1
  · subst h1
    by_cases hd : d = 1
    · subst hd
      have HV : Hid (Pn.sort 1 1 = 1) := rfl
      go_enter Tryd.func33, Tryd.ntmps33
      go_wp2_with fail
      go_ret
      exact ⟨ret_int (by rw [HV.out]), rfl⟩
    · have f1 : (d == 1) = false := by rw [beq_eq_false_iff_ne]; exact hd
      have f2 : decide (d = 1) = false := by simpa using hd
      have HV : Hid (Pn.sort 1 d = 2) := by show _ = _; unfold Pn.sort; simp [hd]
      go_enter Tryd.func33, Tryd.ntmps33
      go_wp2_with fail
      go_ret
      exact ⟨ret_int (by rw [HV.out]), rfl⟩
  · by_cases h2 : k = 2
    · subst h2
      have HV : Hid (Pn.sort 2 d = 3) := by show _ = _; unfold Pn.sort; simp
      go_enter Tryd.func33, Tryd.ntmps33
      go_wp2_with fail
      go_ret
      exact ⟨ret_int (by rw [HV.out]), rfl⟩
    · have g1 : (k == 1) = false := by rw [beq_eq_false_iff_ne]; exact h1
      have g2 : (k == 2) = false := by rw [beq_eq_false_iff_ne]; exact h2
      have HV : Hid (Pn.sort k d = 0) := by show _ = _; unfold Pn.sort; simp [h1, h2]
      go_enter Tryd.func33, Tryd.ntmps33
      go_wp2_with fail
      go_ret
      exact ⟨ret_int (by rw [HV.out]), rfl⟩
set_option maxHeartbeats 1000000 in
theorem pnmHolds_any (k d wd hi : Int) (ca : Option Addr) (cn cc : Nat) (pa : Option Addr) (pn pc : Nat) (ok : Bool) (w : World)
    (hO : ∀ w', Below w.heap.size w w' → Calls Tryd.prog 32 #[.agg #[.int .i64 k, .int .i64 d, .int .i64 wd, .int .i64 hi, .slice ca cn cc, .slice pa pn pc]] w' fun e w'' => e = .returned (.bool ok) ∧ Below w'.heap.size w' w'') :
    Calls Tryd.prog 14 #[.agg #[.int .i64 k, .int .i64 d, .int .i64 wd, .int .i64 hi, .slice ca cn cc, .slice pa pn pc]] w fun e w' => e = .returned (.bool (ok && (Pn.sort k d != 0))) ∧ Below w.heap.size w w' := by
  have hB0 : Below w.heap.size w (w.alloc (.cells #[.int .i64 k, .int .i64 d, .int .i64 wd, .int .i64 hi, .slice ca cn cc, .slice pa pn pc] 27)) := (Below.refl _ _).alloc (Nat.le_refl _) _
  have A0 := bx_new w (.int .i64 k) (.int .i64 d) (.int .i64 wd) (.int .i64 hi) (.slice ca cn cc) (.slice pa pn pc) 27
  have HO : Hid (∀ w', Below w.heap.size w w' → Calls Tryd.prog 32 #[.agg #[.int .i64 k, .int .i64 d, .int .i64 wd, .int .i64 hi, .slice ca cn cc, .slice pa pn pc]] w' fun e w'' => e = .returned (.bool ok) ∧ Below w'.heap.size w' w'') := hO
  have HS : Hid (∀ w' : World, Calls Tryd.prog 33 #[.int .i64 k, .int .i64 d] w' fun e w'' => e = .returned (.int .i64 (Pn.sort k d)) ∧ w'' = w') := fun w' => pnmSort_any k d w'
  clear hO
  generalize Pn.sort k d = srt at *
  have HA : Hid (Bx (w.alloc (.cells #[.int .i64 k, .int .i64 d, .int .i64 wd, .int .i64 hi, .slice ca cn cc, .slice pa pn pc] 27)) w.heap.size (.int .i64 k) (.int .i64 d) (.int .i64 wd) (.int .i64 hi) (.slice ca cn cc) (.slice pa pn pc)) := A0
  clear A0
  go_enter Tryd.func14, Tryd.ntmps14
  go_wp2_with fail
  refine (HO.out _ hB0).mono ?_
  rintro e w1 ⟨rfl, b1⟩
  have bel1 := hB0.trans (b1.mono hB0.size)
  obtain ⟨_, a0, a1, a2, a3, a4, a5⟩ := HA.out.kept b1
  clear b1 hB0 HA HO
  cases ok with
  | false =>
    go_wp2_with fail
    go_ret
    exact ⟨rfl, bel1⟩
  | true =>
    go_wp2_with fail
    refine (HS.out _).mono ?_
    rintro e w2 ⟨rfl, rfl⟩
    go_wp2_with fail
    go_ret
    exact ⟨by simp, bel1⟩

def Pn.rep (k : Int) : Bool := decide (k = 1) || decide (k = 2)
set_option maxHeartbeats 1000000 in
theorem l12Rep_any (k d wd hi : Int) (ca : Option Addr) (cn cc : Nat) (pa : Option Addr) (pn pc : Nat) (w : World) :
    Calls Tryd.prog 11 #[.agg #[.int .i64 k, .int .i64 d, .int .i64 wd, .int .i64 hi, .slice ca cn cc, .slice pa pn pc]] w fun e w' => e = .returned (.bool (Pn.rep k)) ∧ Below w.heap.size w w' := by
  have hB0 : Below w.heap.size w (w.alloc (.cells #[.int .i64 k, .int .i64 d, .int .i64 wd, .int .i64 hi, .slice ca cn cc, .slice pa pn pc] 27)) := (Below.refl _ _).alloc (Nat.le_refl _) _
  obtain ⟨_, a0, a1, a2, a3, a4, a5⟩ := bx_new w (.int .i64 k) (.int .i64 d) (.int .i64 wd) (.int .i64 hi) (.slice ca cn cc) (.slice pa pn pc) 27
  by_cases h1 : k = 1
  · have HE : Hid (Pn.rep k = true) := by show _ = _; unfold Pn.rep; simp [h1]
    subst h1
    go_enter Tryd.func11, Tryd.ntmps11
    go_wp2_with fail
    go_ret
    exact ⟨by rw [HE.out]; rfl, hB0⟩
  · have g1 : (k == 1) = false := by rw [beq_eq_false_iff_ne]; exact h1
    by_cases h2 : k = 2
    · have HE : Hid (Pn.rep k = true) := by show _ = _; unfold Pn.rep; simp [h2]
      subst h2
      go_enter Tryd.func11, Tryd.ntmps11
      go_wp2_with fail
      go_ret
      exact ⟨by rw [HE.out]; rfl, hB0⟩
    · have HE : Hid (Pn.rep k = false) := by show _ = _; unfold Pn.rep; simp [h1, h2]
      have g2 : (k == 2) = false := by rw [beq_eq_false_iff_ne]; exact h2
      go_enter Tryd.func11, Tryd.ntmps11
      go_wp2_with fail
      go_ret
      exact ⟨by rw [HE.out]; rfl, hB0⟩
end Go.Proofs.YtbfeonhokagdjaaDoor

/- A stretch of a list of ints in memory. -/
namespace Go.Proofs.YtbfeonhokagdjaaDoor
open Go.RowKit

/-- so many of a list, from one on -/
def seg (ps : List Int) (P n : Nat) : List Int := (List.range n).map (fun t => ps.getD (P + t) 0)
theorem seg_len (ps : List Int) (P n : Nat) : (seg ps P n).length = n := by simp [seg]
theorem seg_ints {w : World} {b off : Nat} {ps : List Int} {P n : Nat} (h : Ints w (some ⟨b, off, none⟩) ps) (hn : P + n ≤ ps.length) : Ints w (some ⟨b, off + P, none⟩) (seg ps P n) := by
  rcases h with e | ⟨c, o, e, hc, hcell⟩
  · rw [e] at hn; simp at hn; left; rw [show n = 0 by omega]; rfl
  · cases e
    refine .inr ⟨b, off + P, rfl, hc, fun i hi => ?_⟩
    rw [seg_len] at hi
    have := hcell (P + i) (by omega)
    rw [Nat.add_assoc, this]
    simp [seg, List.getElem?_eq_getElem (show P + i < ps.length by omega)]
end Go.Proofs.YtbfeonhokagdjaaDoor

/- A range over a func whose iterator hands out what lies in memory: a law of its own (the iterator makes new memory between the rounds, and nothing else). -/
namespace Go.Proofs.YtbfeonhokagdjaaDoor
open Go.RowKit Go.Shelf

/-- the iterator's word: what comes lies in memory when it comes; between the rounds only new memory is made -/
def Brings {α : Type} (n : Nat) (gf : Nat) (lb : Array Value) (encs : α → Array Value) (Mem : α → World → Prop) (n₀ : Nat) (S : List α → Prop) (N : Nat) (w : World) : Prop :=
  ∀ (l : Nat) (J : List α → World → Prop) (W : World), Below n₀ w W → n₀ ≤ W.heap.size →
    (∀ pre X Y, J pre X → Below X.heap.size X Y → J pre Y) →
    (∀ pre x W1, J pre W1 → Mem x W1 → W.heap.size ≤ W1.heap.size → pre.length < N → YieldAt Fence.wide (n - 1) Tryd.prog l (encs x) W1 fun e W' => e = .returned (.bool true) ∧ J (pre ++ [x]) W' ∧ Below n₀ W1 W') →
    J [] W →
    CallsIn Fence.wide n Tryd.prog gf (#[.func (.yield l) #[] #[]] ++ lb) W fun e W' => (∃ v, e = .returned v) ∧ ∃ xs, S xs ∧ J xs W'

/-- how a round must be left -/
def memPost {α : Type} (B n₀ : Nat) (I : List α → World → Prop) (xs : List α) (W : World) : Exit → Act → World → Prop
  | .normal, _, W' => KeepsFrom B W W' ∧ Below n₀ W W' ∧ I xs W'
  | _, _, _ => False

theorem below_putObj {n₀ l : Nat} (W : World) (o' : Obj) (h : n₀ ≤ l) : Below n₀ W (W.putObj l o') :=
  ⟨rfl, rfl, rfl, by simp, fun k hk => World.putObj_heap_other (by omega)⟩

end Go.Proofs.YtbfeonhokagdjaaDoor

/- The rows of a view, one behind the other: each is made anew. -/
namespace Go.Proofs.YtbfeonhokagdjaaDoor
open Go.RowKit Go.Shelf

/-- a row of numbers fills a block -/
def RowAt (W : World) (b : Nat) (l : List Int) : Prop := W.heap[b]? = some (.cells (l.map (Value.int .i64)).toArray 3 (0, 0))
theorem RowAt.kept {W W' : World} {b : Nat} {l : List Int} (h : RowAt W b l) (hb : W'.heap[b]? = W.heap[b]?) : RowAt W' b l := hb.trans h
theorem RowAt.lt {W : World} {b : Nat} {l : List Int} (h : RowAt W b l) : b < W.heap.size := (Array.getElem?_eq_some_iff.1 h).1
theorem RowAt.cell {W : World} {b : Nat} {l : List Int} (h : RowAt W b l) (i : Nat) (hi : i < l.length) : W.cell? ⟨b, i, none⟩ = some (.int .i64 l[i]) := by
  unfold World.cell?
  rw [show W.heap[b]? = _ from h]
  simp [hi]
/-- a row of which the first so many cells are written -/
def rowTo (wd : Nat) (f : Nat → Int) (k : Nat) : List Int := (List.range wd).map fun i => if i < k then f i else 0
theorem rowTo_zero (wd : Nat) (f : Nat → Int) : rowTo wd f 0 = List.replicate wd 0 := by
  unfold rowTo
  refine List.ext_getElem (by simp) (fun i h1 h2 => by simp)
theorem rowTo_all (wd : Nat) (f : Nat → Int) : rowTo wd f wd = (List.range wd).map f := by
  unfold rowTo
  refine List.map_congr_left (fun i hi => by rw [if_pos (List.mem_range.1 hi)])
theorem rowTo_len (wd : Nat) (f : Nat → Int) (k : Nat) : (rowTo wd f k).length = wd := by simp [rowTo]
theorem rowTo_set (wd : Nat) (f : Nat → Int) (k : Nat) (_h : k < wd) : (rowTo wd f k).set k (f k) = rowTo wd f (k + 1) := by
  refine List.ext_getElem (by simp [rowTo]) (fun i h1 h2 => ?_)
  simp only [rowTo, List.getElem_set, List.getElem_map, List.getElem_range]
  by_cases e : k = i
  · subst e; simp
  · rw [if_neg e]
    by_cases h3 : i < k
    · rw [if_pos h3, if_pos (by omega)]
    · rw [if_neg h3, if_neg (by omega)]
theorem RowAt.set {W : World} {b : Nat} {l : List Int} (h : RowAt W b l) (k : Nat) (v : Int) : RowAt (W.setCell ⟨b, k, none⟩ (.int .i64 v)) b (l.set k v) := by
  unfold RowAt at *
  rw [setCell_eq_setRow W b k _ _ _ _ h, setRow_heap W b _ _ _ _ h]
  simp [List.map_set]
/-- the rows of a view -/
def rowsF (wd hi : Nat) (f : Nat → Nat → Int) : List (List Int) := (List.range hi).map fun y => (List.range wd).map fun x => f x y
theorem rowsF_len (wd hi : Nat) (f : Nat → Nat → Int) : (rowsF wd hi f).length = hi := by simp [rowsF]
theorem rowsF_succ (wd k : Nat) (f : Nat → Nat → Int) : rowsF wd (k + 1) f = rowsF wd k f ++ [(List.range wd).map fun x => f x k] := by
  unfold rowsF; rw [List.range_succ, List.map_append]; rfl
/-- what comes: a block, and what fills it -/
def rowV (wd : Nat) (x : Nat × List Int) : Array Value := #[.slice (some ⟨x.1, 0, none⟩) wd wd]
def RowM (wd n₀ : Nat) (R : List Int → Prop) (x : Nat × List Int) (W : World) : Prop := (RowAt W x.1 x.2 ∧ x.2.length = wd ∧ n₀ ≤ x.1) ∧ R x.2

theorem cp_zero (n : Nat) : cp (List.replicate n (0 : Int)) 0 = ((List.replicate n (0 : Int)).map (Value.int .i64)).toArray := by
  unfold cp
  congr 1
  refine List.ext_getElem (by simp) (fun i h1 h2 => by simp)
theorem make_rowB (n : Nat) (hn : n ≤ 20) (w : World) : (Instr.makeSlice 22 (.int .i64 (n : Int)) (.int .i64 (n : Int))).run Tryd.prog w = .ok (.slice (some ⟨w.heap.size, 0, none⟩) n n) (w.alloc (.cells ((List.replicate n (0 : Int)).map (Value.int .i64)).toArray 3)) := by
  have h := make_ints (List.replicate n 0) n (by simp) (by omega) w
  rw [cp_zero] at h
  exact h
theorem RowAt.free {W : World} {b : Nat} {l : List Int} (h : RowAt W b l) (i : Nat) : W.frozen? ⟨b, i, none⟩ = false := by
  unfold World.frozen?
  rw [show W.heap[b]? = _ from h]
  simp

set_option maxHeartbeats 400000 in
theorem rowsOf_any (T : TypeId) (V : Value) (w : World) :
    Calls Tryd.prog 17 #[.iface T V] w fun e w' => e = .returned (.func (.func 37) #[] #[.pointer (some ⟨w.heap.size, 0, none⟩)]) ∧ w' = w.alloc (.cells #[.iface T V] 46) := by
  go_enter Tryd.func17, Tryd.ntmps17
  go_wp2_with fail
  go_ret
  exact ⟨rfl, rfl⟩

end Go.Proofs.YtbfeonhokagdjaaDoor

/- The rows of a view, taken by one that writes into memory older than the rows. -/
namespace Go.Proofs.YtbfeonhokagdjaaDoor
open Go.RowKit

/-- as Brings; what is known of each world helps to bring -/
def BringsC {α : Type} (n : Nat) (gf : Nat) (lb : Array Value) (encs : α → Array Value) (Mem : α → World → Prop) (n₀ : Nat) (S : List α → Prop) (N : Nat) (Obs : World → Prop) (w : World) : Prop :=
  ∀ (l : Nat) (J : List α → World → Prop) (W : World), Below n₀ w W → n₀ ≤ W.heap.size →
    (∀ pre X Y, J pre X → Below X.heap.size X Y → J pre Y) →
    (∀ pre X, J pre X → Obs X) →
    (∀ pre x W1, J pre W1 → Mem x W1 → W.heap.size ≤ W1.heap.size → pre.length < N → YieldAt Fence.wide (n - 1) Tryd.prog l (encs x) W1 fun e W' => e = .returned (.bool true) ∧ J (pre ++ [x]) W' ∧ Below n₀ W1 W') →
    J [] W →
    CallsIn Fence.wide n Tryd.prog gf (#[.func (.yield l) #[] #[]] ++ lb) W fun e W' => (∃ v, e = .returned v) ∧ ∃ xs, S xs ∧ J xs W'

set_option maxHeartbeats 1000000 in
theorem rangeMemC {α : Type} {g : Operand} {ps : Array Tmp} {assign body : Code} {Q : Exit → Act → World → Prop} {a : Act} {w : World} {n : Nat}
    (h1 : 1 ≤ n) {gf : Nat} {lb : Array Value} (hg : a.eval g = .func (.func gf) #[] lb) (eg : ∀ args w, (callFunc gf args).run Tryd.prog w = .ok (.enter gf args) w)
    {encs : α → Array Value} {Mem : α → World → Prop} {n₀ : Nat} {S : List α → Prop} {N : Nat} {w0 : World} {Obs : World → Prop} (hseq : BringsC (n - 1) gf lb encs Mem n₀ S N Obs w0)
    (hb0 : Below n₀ w0 w) (hn₀ : n₀ ≤ w.heap.size) (hps : ∀ x, (encs x).size = ps.size)
    (hMem : ∀ (x : α) (W : World) (l : Nat) (o o' : Obj), Mem x W → W.heap[l]? = some o → o.isCells = false → Mem x (W.putObj l o'))
    (I : List α → World → Prop) (hI : OwnFrom w.heap.size I) (hObs : ∀ pre W, I pre W → Obs W) (h0 : I [] w) (a₁ : α → Act)
    (hassign : ∀ (l : Nat) (x : α) (W : World) (K : Act → World → Prop), K (a₁ x) W →
      assign.wpIn (Fence.wide.inRound l) (n - 1 - 1) Tryd.prog (Exit.then K (fun _ _ _ => False)) { tmps := (ps.zip (encs x)).foldl (fun t (p, v) => t.setIfInBounds p v) a.tmps, defers := [] } W)
    (hbody : ∀ (l : Nat) (pre : List α) (x : α) (W : World), I pre W → Mem x W → w.heap.size + 2 ≤ W.heap.size → pre.length < N → body.wpIn (Fence.wide.inRound l) (n - 1 - 1) Tryd.prog (memPost w.heap.size n₀ I (pre ++ [x]) W) (a₁ x) W)
    (hdone : ∀ (D : Nat) (xs : List α) (W : World), w.heap.size ≤ D → S xs → I xs W → W.heap[D]? = some (.deferred (some [])) → Q .normal { a with defers := { target := .collected D, args := #[] } :: a.defers } W) :
    (Code.rangeFunc g ps assign body).wpIn Fence.wide n Tryd.prog Q a w := by
  have hro : Fence.wide.round = none := rfl
  refine wpIn_rangeFunc ?_
  intro fn hfn
  rw [hro]
  obtain ⟨rec, hrec⟩ : ∃ rec : LoopState → Option Code → Loop, rec = fun st pe => { state := st, pending := pe, fn, tmps := a.tmps, params := ps, assign, body, defers := w.heap.size } := ⟨_, rfl⟩
  obtain ⟨W1, hW1⟩ : ∃ W1, (w.alloc (.deferred (some []))).alloc (.loop (rec .ready none)) = W1 := ⟨_, rfl⟩
  have hL1 : W1.heap[w.heap.size + 1]? = some (.loop (rec .ready none)) := by
    rw [← hW1]; have := heap_alloc_new (w.alloc (.deferred (some []))) (.loop (rec .ready none)); rwa [World.size_alloc] at this
  have hK1 : W1.heap[w.heap.size]? = some (.deferred (some [])) := by
    rw [← hW1]; exact (Below.heap_alloc _ _ _ (by simp)).trans (heap_alloc_new w _)
  have hs1 : W1.heap.size = w.heap.size + 2 := by rw [← hW1, World.size_alloc, World.size_alloc]
  have hI1 : I [] W1 := by rw [← hW1]; exact hI.alloc _ (hI.alloc _ h0)
  have hb1 : Below n₀ w0 W1 := by
    rw [← hW1]; exact hb0.trans ((((Below.refl _ w).alloc (Nat.le_refl _) _).alloc (by simp) _).mono hn₀)
  refine ⟨w.heap.size + 1, [{ target := .collected w.heap.size, args := #[] }], W1, { target := .fn (.func gf) lb, args := #[.func (.yield (w.heap.size + 1)) #[] #[]] }, W1, gf,
    #[.func (.yield (w.heap.size + 1)) #[] #[]] ++ lb, W1, ?_, ?_, ?_, ?_, fun _ => h1, ?_⟩
  · rw [← hW1, hrec]; exact run_enterLoop_outer _ _ _ _ _
  · simp only [resolve, hg]
    simp [go_sem]
  · intro f' hf'; simp [Target.leads] at hf'; subst hf'; trivial
  · simp [invoke, go_sem, eg]
  · refine (hseq (w.heap.size + 1)
      (fun pre W => I pre W ∧ W.heap[w.heap.size + 1]? = some (.loop (rec .ready none)) ∧ W.heap[w.heap.size]? = some (.deferred (some [])))
      W1 hb1 (by omega) ?_ (fun pre X h => hObs _ _ h.1) ?_ ⟨hI1, hL1, hK1⟩).mono ?_
    · rintro pre X Y ⟨k1, k3, k4⟩ hb
      exact ⟨hI _ _ _ none k1 (grown_of_below hb) (fun r e => by cases e), (hb.block _ (Array.getElem?_eq_some_iff.1 k3).1).trans k3, (hb.block _ (Array.getElem?_eq_some_iff.1 k4).1).trans k4⟩
    · rintro pre x W ⟨hi, hl, hk⟩ hm hsW hlen
      have hlt : w.heap.size + 1 < W.heap.size := (Array.getElem?_eq_some_iff.1 hl).1
      have hy := run_yield (P := Tryd.prog) (args := encs x) hl (by rw [hrec]; exact hps x)
      rw [hrec] at hy
      refine ⟨fn, _, assign, body, hy, roundIn_of_wpIn hfn (hassign _ x W _ ⟨_, run_beginRound hl (by rw [hrec]), ?_⟩)⟩
      have hl2 : (W.putObj (w.heap.size + 1) (.loop { rec .ready none with state := .busy })).heap[w.heap.size + 1]? = some (.loop { rec .ready none with state := .busy }) := World.putObj_heap_same hlt
      have hk2 : (W.putObj (w.heap.size + 1) (.loop { rec .ready none with state := .busy })).heap[w.heap.size]? = some (.deferred (some [])) := (World.putObj_heap_other (by omega)).trans hk
      have hw2 : Below n₀ W (W.putObj (w.heap.size + 1) (.loop { rec .ready none with state := .busy })) := below_putObj _ _ (by omega)
      refine wpIn_mono (hbody _ pre x _ (hI.putObj _ hi (by omega) hl rfl) (hMem x W _ _ _ hm hl rfl) (by simp; omega) hlen) ?_
      rintro e a3 W3 hp
      cases e with
      | normal =>
        obtain ⟨hk3, hb3, hi3⟩ := hp
        have hl3 := hk3.same _ _ (by omega) hl2 rfl
        have hr := run_endRound (P := Tryd.prog) none hl3
        have hr' : (Instr.endRound (w.heap.size + 1) none).run Tryd.prog W3 = .ok (.bool true) (W3.putObj (w.heap.size + 1) (.loop (rec .ready none))) := by rw [hrec] at hr ⊢; exact hr
        refine ⟨_, _, hr', rfl, ⟨hI.putObj _ hi3 (by omega) hl3 rfl, World.putObj_heap_same (Array.getElem?_eq_some_iff.1 hl3).1, (World.putObj_heap_other (by omega)).trans (hk3.same _ _ (Nat.le_refl _) hk2 rfl)⟩, ?_⟩
        exact (hw2.trans hb3).trans (below_putObj _ _ (by omega))
      | ret => exact hp.elim
      | exit id => exact hp.elim
      | goto t => exact hp.elim
      | panic ch => exact hp.elim
      | outgrown => exact hp.elim
    · rintro e W2 ⟨⟨v, rfl⟩, xs, hS, hi, hl, hk⟩
      exact ⟨none, _, by have := run_endLoop (P := Tryd.prog) hl (by rw [hrec]; simp); rw [hrec] at this; exact this, hdone _ xs _ (Nat.le_refl _) hS (hI.putObj _ hi (by omega) hl rfl) ((World.putObj_heap_other (by omega)).trans hk)⟩
set_option maxRecDepth 100000 in
set_option maxHeartbeats 4000000 in
theorem rows1_bringsC (n : Nat) (hn : 1 ≤ n) (T : TypeId) (V : Value) (fs : Nat) (rs : Value) (fa : Nat) (ra : Value) (wd hi : Nat) (f : Nat → Nat → Int) (hwd : wd ≤ 20) (hhi : hi ≤ 20) (w wA : World) (hA : Below wA.heap.size wA w) (S : Seen T V fs rs fa ra wd hi f wA.heap.size wA) :
    BringsC n 37 #[.pointer (some ⟨w.heap.size, 0, none⟩)] (rowV wd) (RowM wd wA.heap.size (fun l => l ∈ rowsF wd hi f)) wA.heap.size (fun xs => xs.map (·.2) = rowsF wd hi f) hi (fun X => w.heap.size < X.heap.size ∧ X.cell? ⟨w.heap.size, 0, none⟩ = some (.iface T V)) (w.alloc (.cells #[.iface T V] 46)) := by
  intro l J W hW hn₀ hJ hO hY h0
  have hc := (hO _ _ h0).2
  obtain ⟨n₀, hn0⟩ : ∃ n₀, n₀ = wA.heap.size := ⟨_, rfl⟩
  have hS : ∀ w', Below n₀ W w' → Below wA.heap.size wA w' := fun w' b => (hA.trans (((Below.refl _ _).alloc hA.size _).trans hW)).trans (b.mono (by omega))
  rw [← hn0] at hn₀ hY
  have HN0 : Hid (n₀ = wA.heap.size) := hn0
  generalize w.heap.size = Bv at *
  clear hn0 hW
  have hro : Fence.wide.round = none := rfl
  have ms := S.ms
  have ns := S.ns
  have ma := S.ma
  have na := S.na
  have es := S.es
  have ea := S.ea
  have hmk := fun w => make_rowB wd hwd w
  show CallsIn Fence.wide n Tryd.prog 37 #[.func (.yield l) #[] #[], .pointer (some ⟨Bv, 0, none⟩)] W _
  refine callsIn_of_wp Tryd.func37 rfl trivial ?_ hro
  simp only [Tryd.ntmps37, List.size_toArray, List.length_cons, List.length_nil, Nat.reduceAdd, Nat.reduceSub, Array.replicate_succ, Array.replicate_zero, List.push_toArray, List.append_toArray, List.nil_append, List.cons_append]
  gi_wp2
  refine ⟨trivial, ?_⟩
  gi_wp2
  refine (callsIn_wide.2 (S.size W (hS W (Below.refl _ _)))).mono ?_
  rintro e W1 ⟨rfl, b1⟩
  have h01 : J [] W1 := hJ [] W W1 h0 b1
  have hW1 : Below n₀ W W1 := b1.mono hn₀
  have hs1 : W.heap.size ≤ W1.heap.size := b1.size
  clear b1 h0
  gi_wp2
  gi_loopw [14] (fun i wr => ∃ (k : Nat) (xs : List (Nat × List Int)), k ≤ hi ∧ i = .int .i64 (k : Int) ∧ Hid (xs.map (·.2) = rowsF wd k f) ∧ J xs wr ∧ Below n₀ W wr ∧ W.heap.size ≤ wr.heap.size)
    (fun i _ => hi - (intOf i).toNat)
  case atStart => exact ⟨0, [], Nat.zero_le _, rfl, rfl, h01, hW1, hs1⟩
  case round =>
    obtain ⟨k, xs, hk, rfl, HX, hJk, hWk, hsk⟩ := hrel
    generalize wr = ow at *
    by_cases hlt : k < hi
    · obtain ⟨B, hB⟩ : ∃ B, ow.heap.size = B := ⟨_, rfl⟩
      have hnB : n₀ ≤ B := by omega
      have HR0 : Hid (RowAt (ow.alloc (.cells ((List.replicate wd (0 : Int)).map (Value.int .i64)).toArray 3)) B (rowTo wd (fun x => f x k) 0) ∧ Below B ow (ow.alloc (.cells ((List.replicate wd (0 : Int)).map (Value.int .i64)).toArray 3)) ∧ B < (ow.alloc (.cells ((List.replicate wd (0 : Int)).map (Value.int .i64)).toArray 3)).heap.size) := by
        refine ⟨?_, (Below.refl _ _).alloc (by omega) _, by simp; omega⟩
        rw [rowTo_zero, ← hB]
        exact heap_alloc_new _ _
      have hmk2 := hmk ow
      rw [hB] at hmk2
      generalize hWm : ow.alloc (.cells ((List.replicate wd (0 : Int)).map (Value.int .i64)).toArray 3) = Wm at *
      have HJ0 : Hid (J xs ow ∧ Below n₀ W ow ∧ ow.heap.size = B ∧ Bv < B ∧ ow.cell? ⟨Bv, 0, none⟩ = some (.iface T V)) := ⟨hJk, hWk, hB, by rw [← hB]; exact (hO _ _ hJk).1, (hO _ _ hJk).2⟩
      clear hJk hWk hB hWm hmk
      gi_wp2
      gi_loopw [21] (fun i wr => ∃ x : Nat, x ≤ wd ∧ i = .int .i64 (x : Int) ∧ Hid (RowAt wr B (rowTo wd (fun x => f x k) x) ∧ Below B ow wr ∧ B < wr.heap.size))
        (fun i _ => wd - (intOf i).toNat)
      case atStart => exact ⟨0, Nat.zero_le _, rfl, HR0⟩
      case round =>
        obtain ⟨x, hx, rfl, HR⟩ := hrel
        have hWy : Below n₀ W wr := HJ0.out.2.1.trans (HR.out.2.1.mono hnB)
        have hcy : wr.cell? ⟨Bv, 0, none⟩ = some (.iface T V) := (HR.out.2.1.cell (p := ⟨Bv, 0, none⟩) HJ0.out.2.2.2.1).trans HJ0.out.2.2.2.2
        by_cases hxl : x < wd
        · gi_wp2
          refine ⟨trivial, ?_⟩
          gi_wp2
          refine (callsIn_wide.2 (S.at' wr x k hxl hlt (hS wr hWy))).mono ?_
          rintro e W2 ⟨rfl, b2⟩
          have hR2 := HR.out.1.kept (b2.block _ HR.out.2.2)
          have hB2 := HR.out.2.1.trans (b2.mono (by have := HR.out.2.2; omega))
          have hl2 : B < W2.heap.size := Nat.lt_of_lt_of_le HR.out.2.2 b2.size
          have hcs := hR2.cell x (by rw [rowTo_len]; exact hxl)
          have hfs := hR2.free x
          have hset := hR2.set x (f x k)
          rw [rowTo_set wd (fun x => f x k) x hxl] at hset
          have HR3 : Hid (RowAt (W2.setCell ⟨B, x, none⟩ (.int .i64 (f x k))) B (rowTo wd (fun x => f x k) (x + 1)) ∧ Below B ow (W2.setCell ⟨B, x, none⟩ (.int .i64 (f x k))) ∧ B < (W2.setCell ⟨B, x, none⟩ (.int .i64 (f x k))).heap.size) := ⟨hset, hB2.setCell (p := ⟨B, x, none⟩) (Nat.le_refl _) _, by rw [World.size_setCell]; exact hl2⟩
          generalize (rowTo wd (fun x => f x k) x)[x]'(by rw [rowTo_len]; exact hxl) = u at hcs
          clear hR2 hB2 hset b2 HR hcy hWy
          gi_wp2
          go_roundw
          case rel => exact ⟨x + 1, by omega, by simp, HR3⟩
          case measure => simp [intOf]; omega
        · obtain rfl : x = wd := by omega
          have hbel := HR.out.2.1
          have hJy : J xs wr := hJ xs ow wr HJ0.out.1 (by rw [HJ0.out.2.2.1]; exact hbel)
          have hrow := HR.out.1
          rw [rowTo_all] at hrow
          have hxs : xs.length < hi := by
            have := congrArg List.length HX.out
            rw [List.length_map, rowsF_len] at this
            omega
          obtain ⟨fn, tmps, assign, body, hy, hRo⟩ := hY xs (B, (List.range x).map (fun i => f i k)) wr hJy ⟨⟨hrow, by simp, by show n₀ ≤ B; exact hnB⟩, List.mem_map.2 ⟨k, List.mem_range.2 hlt, rfl⟩⟩ (by have := hbel.size; have := HR.out.2.2; have := HJ0.out.2.2.1; omega) hxs
          have hy' : (Instr.yield l #[.slice (some ⟨B, 0, none⟩) x x]).run Tryd.prog wr = .ok (.round l fn tmps assign body) wr := hy
          have HX2 : Hid ((xs ++ [(B, (List.range x).map (fun i => f i k))]).map (·.2) = rowsF x (k + 1) f) := by
            show _ = _
            rw [List.map_append, HX.out, rowsF_succ]
            rfl
          have hsy : W.heap.size ≤ wr.heap.size := by have := hbel.size; have := HJ0.out.2.2.1; omega
          clear hJy hrow hbel hy HR HX HJ0 hcy
          gi_wp2
          refine hRo.mono ?_
          rintro e W3 ⟨rfl, hJ3, hk3⟩
          gi_wp2
          exact ⟨⟨k + 1, _, by omega, by simp, HX2, hJ3, hWy.trans hk3, Nat.le_trans hsy hk3.size⟩, by simp [intOf]; omega⟩
    · obtain rfl : k = hi := by omega
      gi_wp2
      go_end0
      exact ⟨⟨_, rfl⟩, xs, HX.out, hJk⟩

theorem rows1_fitC (n : Nat) (hn : 1 ≤ n) (R : List Int → Prop) (T : TypeId) (V : Value) (fs : Nat) (rs : Value) (fa : Nat) (ra : Value) (wd hi : Nat) (f : Nat → Nat → Int) (hwd : wd ≤ 20) (hhi : hi ≤ 20) (w wA : World) (hA : Below wA.heap.size wA w) (S : Seen T V fs rs fa ra wd hi f wA.heap.size wA) (hR : ∀ l ∈ rowsF wd hi f, R l) :
    BringsC n 37 #[.pointer (some ⟨w.heap.size, 0, none⟩)] (rowV wd) (RowM wd wA.heap.size R) wA.heap.size (fun xs => xs.map (·.2) = rowsF wd hi f) hi (fun X => w.heap.size < X.heap.size ∧ X.cell? ⟨w.heap.size, 0, none⟩ = some (.iface T V)) (w.alloc (.cells #[.iface T V] 46)) :=
  fun l J W h1 h2 h3 h4 h5 h6 => rows1_bringsC n hn T V fs rs fa ra wd hi f hwd hhi w wA hA S l J W h1 h2 h3 h4 (fun pre x W1 a b c d => h5 pre x W1 a ⟨b.1, hR _ b.2⟩ c d) h6
end Go.Proofs.YtbfeonhokagdjaaDoor

/- A strings.Builder that is written: what is neither the builder nor bytes stays as it was. -/
namespace Go.Proofs.YtbfeonhokagdjaaDoor
open Go.RowKit

/-- what is neither b nor bytes is as it was -/
def Far (b : Nat) (w w' : World) : Prop := w.heap.size ≤ w'.heap.size ∧ ∀ (k : Nat) (o : Obj), w.heap[k]? = some o → k ≠ b → (∀ cs fr, o ≠ .cells cs 5 fr) → w'.heap[k]? = some o
theorem Far.refl (b : Nat) (w : World) : Far b w w := ⟨Nat.le_refl _, fun _ _ h _ _ => h⟩
theorem Far.trans {b : Nat} {u v w : World} (h : Far b u v) (k : Far b v w) : Far b u w := ⟨Nat.le_trans h.1 k.1, fun i o h1 h2 h3 => k.2 i o (h.2 i o h1 h2 h3) h2 h3⟩
theorem far_set (w : World) (b i : Nat) (v : Value) : Far b w (w.setCell ⟨b, i, none⟩ v) := ⟨by simp, fun k o h1 h2 _ => (Below.heap_setCell w ⟨b, i, none⟩ v k (by show k ≠ b; exact h2)).trans h1⟩
theorem far_grown {w w' : World} (b : Nat) {B n : Nat} {v : Value} {xs : List Value} (hrow : w.ownsRow B 5 1 v n xs) (hg : w.grownBy w' v.ownBlock) : Far b w w' := by
  refine ⟨hg.size, fun k o h1 _ h3 => ?_⟩
  refine (hg.block k (Array.getElem?_eq_some_iff.1 h1).1 (fun e => ?_)).trans h1
  rcases hrow.2 with ⟨rfl, _⟩ | ⟨g, cap, cur, rfl, _, hgb, _⟩
  · simp [Value.ownBlock] at e
  · obtain rfl : k = g := by simpa [Value.ownBlock] using e
    rw [h1] at hgb
    cases hgb
    exact h3 _ _ rfl
theorem Far.keeps {b : Nat} {w w' : World} {cs : Array Value} {T : TypeId} {fr : Nat × Nat} (h : Far b w w') (hb : w.heap[b]? = some (.cells cs T fr)) : KeepsOthers w w' :=
  ⟨h.1, fun k o h1 h2 => h.2 k o h1 (fun e => by subst e; rw [hb] at h1; cases h1; cases h2) (fun cs fr e => by subst e; cases h2)⟩
set_option maxHeartbeats 1000000 in
set_option maxRecDepth 100000 in
theorem copyCheck_far (B b : Nat) (bs : List Value) (w : World) (h : Bld B b bs w) :
    Calls Tryd.prog 34 #[.pointer (some ⟨b, 0, none⟩)] w fun e w' => e = .returned (.tuple #[]) ∧ Lib.BuilderAt 37 5 B b (.pointer (some ⟨b, 0, none⟩)) bs w' ∧ Below B w w' ∧ Far b w w' := by
  rcases h with h | h
  · obtain ⟨j, hj, hjs⟩ := Option.map_eq_some_iff.1 bld_size
    have c0 := h.cell0
    have f0 := h.frozen0
    have sh := h.shape
    have HE : Hid (Lib.BuilderAt 37 5 B b (.pointer (some ⟨b, 0, none⟩)) bs (w.setCell ⟨b, 0, none⟩ (.pointer (some ⟨b, 0, none⟩))) ∧ Below B w (w.setCell ⟨b, 0, none⟩ (.pointer (some ⟨b, 0, none⟩))) ∧ Far b w (w.setCell ⟨b, 0, none⟩ (.pointer (some ⟨b, 0, none⟩)))) := ⟨h.used _, (Below.refl B w).setCell (p := ⟨b, 0, none⟩) h.1 _, far_set w b 0 _⟩
    clear h
    go_enter Tryd.func34, Tryd.ntmps34
    go_wp2_with fail
    rw [Lib.run_to_unsafe w ⟨b, 0, none⟩ Tryd.underlying34 Tryd.underlying78 hj (by rw [hjs]; decide) sh (Nat.zero_lt_succ 1)]
    simp only [Result.andThen]
    rw [Oper.upon_value]
    go_wp2
    rw [run_callFunc_extern Tryd.func51 (by kernel_rfl) (by kernel_rfl) (by kernel_rfl) (e := Extern.AbiNoEscape.same) (by kernel_rfl)]
    rw [Lib.run_noEscape]
    simp only [Result.andThen]
    rw [Oper.upon_value]
    go_wp2
    rw [Lib.run_from_unsafe w ⟨b, 0, none⟩ Tryd.underlying78 Tryd.underlying34 hj sh bld_lies]
    simp only [Result.andThen]
    rw [Oper.upon_value]
    go_wp2
    go_end0
    exact ⟨rfl, HE.out⟩
  · obtain ⟨j, hj, _⟩ := Option.map_eq_some_iff.1 bld_size
    have c0 := h.cell0
    have HE : Hid (Lib.BuilderAt 37 5 B b (.pointer (some ⟨b, 0, none⟩)) bs w ∧ Below B w w ∧ Far b w w) := ⟨h, Below.refl B _, Far.refl b w⟩
    clear h
    go_enter Tryd.func34, Tryd.ntmps34
    go_wp2_with fail
    rw [Lib.run_neq_ptr_same w _ Tryd.underlying34 hj]
    go_wp2
    go_end0
    exact ⟨rfl, HE.out⟩
set_option maxHeartbeats 2000000 in
set_option maxRecDepth 100000 in
theorem writeString_far (B b : Nat) (bs : List Value) (s : ByteArray) (w : World) (h : Bld B b bs w) (hlen : bs.length + s.size ≤ 140737488355328) (hBw : B ≤ w.heap.size) :
    Calls Tryd.prog 15 #[.pointer (some ⟨b, 0, none⟩), .string s] w fun e w' => (∃ r, e = .returned r) ∧ Bld B b (bs ++ Lib.strCells s) w' ∧ Below B w w' ∧ Far b w w' := by
  obtain ⟨i0, hi, hz0, hz1, hz2⟩ := info_parts bld_byte
  have HC : Hid (Calls Tryd.prog 34 #[.pointer (some ⟨b, 0, none⟩)] w fun e w' => e = .returned (.tuple #[]) ∧ Lib.BuilderAt 37 5 B b (.pointer (some ⟨b, 0, none⟩)) bs w' ∧ Below B w w' ∧ Far b w w') := copyCheck_far B b bs w h
  clear h
  go_enter Tryd.func15, Tryd.ntmps15
  go_wp2_with fail
  refine HC.out.mono ?_
  rintro e w1 ⟨rfl, ⟨hB, v, hbk, hown, hne⟩, hb1, hf1⟩
  have c1 : w1.cell? ⟨b, 1, none⟩ = some v := by rw [Lib.cell_of_heap hbk]; rfl
  have hlt : b < w1.heap.size := (Array.getElem?_eq_some_iff.1 hbk).1
  have HH : Hid (B ≤ b ∧ w1.heap[b]? = some (.cells #[.pointer (some ⟨b, 0, none⟩), v] 37 (0, 0)) ∧ w1.ownsRow B 5 1 v bs.length bs ∧ v.ownBlock ≠ some b ∧ Below B w w1 ∧ Far b w w1) := ⟨hB, hbk, hown, hne, hb1, hf1⟩
  clear HC hB hbk hown hne hb1 hf1
  go_wp2_with (at_builtin; refine Lib.wpList_append_own_string _ rfl _ _ 35 9 rfl B 5 i0 Tryd.underlying35 Tryd.underlying9 hi hz0 hz1 hz2 _ _ _ rfl HH.out.2.2.1 s rfl (by unfold maxLen; omega) (by omega) (by have := HH.out.2.2.2.2.1.size; omega) ?_)
  intro v' w2 hown' hg _
  have hb2 : w2.heap[b]? = some (.cells #[.pointer (some ⟨b, 0, none⟩), v] 37 (0, 0)) := (hg.block b hlt (fun e => HH.out.2.2.2.1 e.symm)).trans HH.out.2.1
  have d1 : w2.cell? ⟨b, 1, none⟩ = some v := by rw [Lib.cell_of_heap hb2]; rfl
  have f1 : w2.frozen? ⟨b, 1, none⟩ = false := Lib.frozen_of_heap hb2 1
  obtain ⟨ao, n', cap, rfl⟩ : ∃ ao n' cap, v' = .slice ao n' cap := by
    rcases hown'.2 with ⟨hv, _⟩ | ⟨g, cap, cur, hv, _⟩
    · exact ⟨_, _, _, hv⟩
    · exact ⟨_, _, _, hv⟩
  have HF : Hid (Bld B b (bs ++ Lib.strCells s) (w2.setCell ⟨b, 1, none⟩ (.slice ao n' cap)) ∧ Below B w (w2.setCell ⟨b, 1, none⟩ (.slice ao n' cap)) ∧ Far b w (w2.setCell ⟨b, 1, none⟩ (.slice ao n' cap))) := by
    refine ⟨.inr ?_, ?_, (HH.out.2.2.2.2.2.trans (far_grown b HH.out.2.2.1 hg)).trans (far_set w2 b 1 _)⟩
    · exact Lib.BuilderAt.put (T := 37) (e := 5) HH.out.1 hb2 (bs' := bs ++ Lib.strCells s) (by simpa [Lib.strCells_length] using hown') (by decide)
    · exact (HH.out.2.2.2.2.1.grown hg (by have := HH.out.2.2.2.2.1.size; omega) (fun k hk => (HH.out.2.2.1.lt k hk).1)).setCell (p := ⟨b, 1, none⟩) HH.out.1 _
  clear hown' hg hb2 HH
  go_wp2
  go_ret2
  exact ⟨⟨_, rfl⟩, HF.out⟩
end Go.Proofs.YtbfeonhokagdjaaDoor

/- pnmView of the program. -/
namespace Go.Proofs.YtbfeonhokagdjaaDoor
open Go.RowKit

set_option maxHeartbeats 1000000 in
theorem pnmTurn_any (p : Nat) (hp : p ≤ 1) (w : World) : Calls Tryd.prog 38 #[.int .i64 (p : Int)] w fun e w' => e = .returned (.int .i64 (1 - (p : Int))) ∧ w' = w := by
  rcases (by omega : p = 0 ∨ p = 1) with rfl | rfl
  all_goals
    go_enter Tryd.func38, Tryd.ntmps38
    go_wp2_with fail
    go_ret
    exact ⟨ret_int rfl, rfl⟩
set_option maxHeartbeats 1000000 in
theorem pnmView_any (k d wd hi : Int) (ca : Option Addr) (cn cc : Nat) (pa : Option Addr) (pn pc : Nat) (w : World) :
    Calls Tryd.prog 18 #[.agg #[.int .i64 k, .int .i64 d, .int .i64 wd, .int .i64 hi, .slice ca cn cc, .slice pa pn pc]] w fun e w' =>
      e = .returned (if d = 1 then .iface 64 (.agg #[.iface 62 (.agg #[.int .i64 k, .int .i64 d, .int .i64 wd, .int .i64 hi, .slice ca cn cc, .slice pa pn pc]), .func (.func 38) #[] #[]])
        else .iface 62 (.agg #[.int .i64 k, .int .i64 d, .int .i64 wd, .int .i64 hi, .slice ca cn cc, .slice pa pn pc])) ∧ Below w.heap.size w w' := by
  have HB0 : Hid (Below w.heap.size w (w.alloc (.cells #[.int .i64 k, .int .i64 d, .int .i64 wd, .int .i64 hi, .slice ca cn cc, .slice pa pn pc] 27))) := (Below.refl _ _).alloc (Nat.le_refl _) _
  obtain ⟨_, a0, a1, a2, a3, a4, a5⟩ := bx_new w (.int .i64 k) (.int .i64 d) (.int .i64 wd) (.int .i64 hi) (.slice ca cn cc) (.slice pa pn pc) 27
  by_cases h1 : d = 1
  · subst h1
    rw [if_pos rfl]
    go_enter Tryd.func18, Tryd.ntmps18
    go_wp2_with fail
    go_ret
    exact ⟨rfl, HB0.out⟩
  · rw [if_neg h1]
    have g1 : (d == 1) = false := by rw [beq_eq_false_iff_ne]; exact h1
    have g2 : (d != 1) = true := by rw [bne, g1]; rfl
    go_enter Tryd.func18, Tryd.ntmps18
    go_wp2_with fail
    go_ret
    exact ⟨rfl, HB0.out⟩
end Go.Proofs.YtbfeonhokagdjaaDoor

/- Whether all numbers of a list are within bounds, by a closure. -/
namespace Go.Proofs.YtbfeonhokagdjaaDoor
open Go.RowKit

/-- all numbers are in 0 to m -/
def Within (m : Int) (zs : List Int) : Prop := ∀ z ∈ zs, 0 ≤ z ∧ z ≤ m
def withinB (m : Int) (zs : List Int) : Bool := zs.all fun z => decide (0 ≤ z ∧ z ≤ m)
theorem withinB_iff (m : Int) (zs : List Int) : withinB m zs = true ↔ Within m zs := by simp [withinB, Within]
theorem withinB_yes {m : Int} {zs : List Int} (h : Within m zs) : withinB m zs = true := (withinB_iff m zs).2 h
theorem withinB_no {m : Int} {zs : List Int} (h : ¬ Within m zs) : withinB m zs = false := by
  cases g : withinB m zs
  · rfl
  · exact absurd ((withinB_iff m zs).1 g) h

/-- one number is not in 0 to m -/
def beyB (z m : Int) : Bool := !decide (0 ≤ z ∧ z ≤ m)
theorem beyB_yes {z m : Int} (h : ¬ (0 ≤ z ∧ z ≤ m)) : beyB z m = true := by unfold beyB; rw [decide_eq_false h]; rfl
theorem beyB_no {z m : Int} (h : 0 ≤ z ∧ z ≤ m) : beyB z m = false := by unfold beyB; rw [decide_eq_true h]; rfl

set_option maxHeartbeats 400000 in
theorem beyond_any (B : Nat) (z m : Int) (w : World) (h : w.cell? ⟨B, 0, none⟩ = some (.int .i64 m)) :
    Calls Tryd.prog 59 #[.int .i64 z, .pointer (some ⟨B, 0, none⟩)] w fun e w' => e = .returned (.bool (beyB z m)) ∧ w' = w := by
  by_cases h0 : z < 0
  · have d0 : decide (z < 0) = true := by simpa using h0
    have HD : Hid (beyB z m = true) := beyB_yes (by omega)
    go_enter Tryd.func59, Tryd.ntmps59
    go_wp2_with fail
    go_ret
    exact ⟨by rw [HD.out]; rfl, rfl⟩
  · have d0 : decide (z < 0) = false := by simpa using h0
    by_cases h1 : m < z
    · have d1 : decide (m < z) = true := by simpa using h1
      have HD : Hid (beyB z m = true) := beyB_yes (by omega)
      go_enter Tryd.func59, Tryd.ntmps59
      go_wp2_with fail
      go_ret
      exact ⟨by rw [HD.out]; rfl, rfl⟩
    · have d1 : decide (m < z) = false := by simpa using h1
      have HD : Hid (beyB z m = false) := beyB_no (by omega)
      go_enter Tryd.func59, Tryd.ntmps59
      go_wp2_with fail
      go_ret
      exact ⟨by rw [HD.out]; rfl, rfl⟩

set_option maxHeartbeats 400000 in
theorem indexFunc_any (a : Option Addr) (n cap B : Nat) (zs : List Int) (m : Int) (w : World) (h : Ints w a zs) (hn : zs.length = n) (hl : n ≤ 2000000) (hB : w.cell? ⟨B, 0, none⟩ = some (.int .i64 m)) :
    Calls Tryd.prog 61 #[.slice a n cap, .func (.func 59) #[] #[.pointer (some ⟨B, 0, none⟩)]] w fun e w' => (∃ r : Int, e = .returned (.int .i64 r) ∧ decide (0 ≤ r) = !withinB m zs) ∧ w' = w := by
  have HI : Hid (Ints w a zs) := h
  have hzg : n ≤ zs.length := by omega
  have HN : Hid (zs.length = n) := hn
  have HBY : Hid (∀ z : Int, Calls Tryd.prog 59 #[.int .i64 z, .pointer (some ⟨B, 0, none⟩)] w fun e w' => e = .returned (.bool (beyB z m)) ∧ w' = w) := fun z => beyond_any B z m w hB
  clear h hn hB
  go_enter Tryd.func61, Tryd.ntmps61
  go_wp2_with fail
  go_loop [8] (fun i => ∃ k : Nat, k ≤ n ∧ i = .int .i64 k ∧ ∀ j (hj : j < zs.length), j < k → 0 ≤ zs[j] ∧ zs[j] ≤ m) (fun i => n - (intOf i).toNat)
  case atStart => exact ⟨0, Nat.zero_le _, rfl, fun j hj h0 => absurd h0 (by omega)⟩
  case round =>
    obtain ⟨k, hk, rfl, hall⟩ := hrel
    have HA : Hid (∀ j (hj : j < zs.length), j < k → 0 ≤ zs[j] ∧ zs[j] ≤ m) := hall
    clear hall
    by_cases hlt : k < n
    · have hkz : k < zs.length := by omega
      rcases HI.out with h | ⟨b, off, rfl, hbB, hc⟩
      · rw [h] at hkz; simp at hkz
      · have hck := hc k hkz
        have hki : (k : Int) < (n : Int) := by omega
        clear hc
        obtain ⟨x, hx⟩ : ∃ x, x = zs[k] := ⟨_, rfl⟩
        rw [← hx] at hck
        have HX : Hid (x = zs[k]) := hx
        clear hx
        go_wp2_with fail
        refine (HBY.out x).mono ?_
        rintro e w1 ⟨rfl, hw1⟩
        subst hw1
        by_cases he : 0 ≤ x ∧ x ≤ m
        · have HE : Hid (0 ≤ x ∧ x ≤ m) := he
          rw [beyB_no he]
          clear he
          go_wp2_with fail
          go_round
          case rel =>
            refine ⟨k + 1, by omega, by go_num, fun j hj h1 => ?_⟩
            by_cases e : j < k
            · exact HA.out j hj e
            · have : j = k := by omega
              subst this
              rw [← HX.out]; exact HE.out
          case measure => simp [intOf]; omega
        · have HW : Hid (withinB m zs = false) := withinB_no (fun g => he (by have := g zs[k] (List.getElem_mem hkz); rw [← HX.out] at this; exact this))
          rw [beyB_yes he]
          clear he
          go_wp2_with fail
          go_ret
          refine ⟨⟨_, rfl, ?_⟩, rfl⟩
          first | (rw [HW.out]; simp) | simp [HW.out]
    · have HW : Hid (withinB m zs = true) := withinB_yes (fun z hz => by
        obtain ⟨j, hj, rfl⟩ := List.getElem_of_mem hz
        exact HA.out j hj (by have := HN.out; omega))
      have hlt' : ¬ (k : Int) < (n : Int) := by omega
      clear HA
      go_wp2_with fail
      go_ret
      refine ⟨⟨_, rfl, ?_⟩, rfl⟩
      first | (rw [HW.out]; simp) | simp [HW.out]

set_option maxHeartbeats 400000 in
theorem allWithin_any (a : Option Addr) (n cap : Nat) (zs : List Int) (m : Int) (w : World) (h : Ints w a zs) (hn : zs.length = n) (hl : n ≤ 2000000) :
    Calls Tryd.prog 50 #[.slice a n cap, .int .i64 m] w fun e w' => e = .returned (.bool (withinB m zs)) ∧ Below w.heap.size w w' := by
  have bel : Below w.heap.size w (w.alloc (.cells #[.int .i64 m] 3)) := (Below.refl _ _).alloc (Nat.le_refl _) _
  have hI := h.kept bel
  have HC : Hid (Calls Tryd.prog 61 #[.slice a n cap, .func (.func 59) #[] #[.pointer (some ⟨w.heap.size, 0, none⟩)]] (w.alloc (.cells #[.int .i64 m] 3)) fun e w' => (∃ r : Int, e = .returned (.int .i64 r) ∧ decide (0 ≤ r) = !withinB m zs) ∧ w' = w.alloc (.cells #[.int .i64 m] 3)) :=
    indexFunc_any a n cap w.heap.size zs m _ hI hn hl (by rw [World.cell?_alloc_at _ _ _ _ rfl]; rfl)
  have HF : Hid (Calls Tryd.prog 58 #[.slice a n cap, .func (.func 59) #[] #[.pointer (some ⟨w.heap.size, 0, none⟩)]] (w.alloc (.cells #[.int .i64 m] 3)) fun e w' => e = .returned (.bool (!withinB m zs)) ∧ w' = w.alloc (.cells #[.int .i64 m] 3)) := by
    show Calls _ _ _ _ _
    clear h hI
    go_enter Tryd.func58, Tryd.ntmps58
    go_wp2_with fail
    refine HC.out.mono ?_
    rintro e w1 ⟨⟨r, rfl, hr⟩, hw1⟩
    have HR : Hid (decide (0 ≤ r) = !withinB m zs) := hr
    clear hr HC
    go_wp2_with fail
    go_ret
    exact ⟨by rw [← HR.out]; rfl, by first | exact hw1 | rfl⟩
  clear h hI HC
  go_enter Tryd.func50, Tryd.ntmps50
  go_wp2_with fail
  refine HF.out.mono ?_
  rintro e w1 ⟨rfl, hw1⟩
  have b1 : Below w.heap.size w w1 := by rw [hw1]; exact bel
  clear hw1 bel HF
  go_wp2_with fail
  go_ret
  exact ⟨by simp, b1⟩
end Go.Proofs.YtbfeonhokagdjaaDoor

/- A picture: what it holds, and when it is ok. -/
namespace Go.Proofs.YtbfeonhokagdjaaDoor
open Go.RowKit
namespace Im

/-- colours that a picture of that kind and depth can have -/
def ColOk (k d : Int) (cs : List Int) : Prop := (k ≠ 4 → cs.length = 0) ∧ (k = 4 → 1 ≤ cs.length ∧ cs.length ≤ 2 ^ d.toNat ∧ Within 16777215 cs)
/-- the greatest point -/
def most (k d : Int) (cs : List Int) : Int := if k = 4 then (cs.length : Int) - 1 else ((2 ^ d.toNat : Nat) : Int) - 1
/-- a picture that is ok -/
def Ok (k d wd hi : Int) (cs ps : List Int) : Prop := d ∈ depL k ∧ (1 ≤ wd ∧ wd ≤ 20) ∧ (1 ≤ hi ∧ hi ≤ 20) ∧ ColOk k d cs ∧ (ps.length : Int) = wd * hi ∧ Within (most k d cs) ps
open Classical in
noncomputable def okB (k d wd hi : Int) (cs ps : List Int) : Bool := decide (Ok k d wd hi cs ps)
theorem okB_yes {k d wd hi : Int} {cs ps : List Int} (h : Ok k d wd hi cs ps) : okB k d wd hi cs ps = true := @decide_eq_true _ (Classical.propDecidable _) h
theorem okB_no {k d wd hi : Int} {cs ps : List Int} (h : ¬ Ok k d wd hi cs ps) : okB k d wd hi cs ps = false := @decide_eq_false _ (Classical.propDecidable _) h
open Classical in
noncomputable def colB (k d : Int) (cs : List Int) : Bool := decide (ColOk k d cs)
theorem colB_yes {k d : Int} {cs : List Int} (h : ColOk k d cs) : colB k d cs = true := @decide_eq_true _ (Classical.propDecidable _) h
theorem colB_no {k d : Int} {cs : List Int} (h : ¬ ColOk k d cs) : colB k d cs = false := @decide_eq_false _ (Classical.propDecidable _) h

theorem dep4 {d : Int} (h : d ∈ depL 4) : d = 1 ∨ d = 2 ∨ d = 4 ∨ d = 8 := by simpa [depL] using h
theorem dep_all {k d : Int} (h : d ∈ depL k) : ∃ D : Nat, d = (D : Int) ∧ D ≤ 32 ∧ (D = 1 ∨ D = 2 ∨ D = 4 ∨ D = 8 ∨ D = 24 ∨ D = 32) := by
  unfold depL at h
  split at h
  · simp at h; exact ⟨d.toNat, by omega, by omega, by omega⟩
  · split at h
    · simp at h; exact ⟨d.toNat, by omega, by omega, by omega⟩
    · split at h
      · simp at h; exact ⟨d.toNat, by omega, by omega, by omega⟩
      · simp at h
end Im

end Go.Proofs.YtbfeonhokagdjaaDoor

/- The colours of a picture, as the program looks at them. -/
namespace Go.Proofs.YtbfeonhokagdjaaDoor
open Go.RowKit

set_option maxHeartbeats 400000 in
theorem sizeOk_any (z : Int) (w : World) :
    Calls Tryd.prog 48 #[.int .i64 z] w fun e w' => e = .returned (.bool (!beyB (z - 1) 19)) ∧ w' = w := by
  by_cases h1 : 1 ≤ z
  · have d1 : decide (1 ≤ z) = true := by simpa using h1
    by_cases h2 : z ≤ 20
    · have d2 : decide (z ≤ 20) = true := by simpa using h2
      have HB : Hid (beyB (z - 1) 19 = false) := beyB_no (by omega)
      go_enter Tryd.func48, Tryd.ntmps48
      go_wp2_with fail
      go_ret
      exact ⟨by rw [HB.out]; rfl, rfl⟩
    · have d2 : decide (z ≤ 20) = false := by simpa using h2
      have HB : Hid (beyB (z - 1) 19 = true) := beyB_yes (by omega)
      go_enter Tryd.func48, Tryd.ntmps48
      go_wp2_with fail
      go_ret
      exact ⟨by rw [HB.out]; rfl, rfl⟩
  · have d1 : decide (1 ≤ z) = false := by simpa using h1
    have HB : Hid (beyB (z - 1) 19 = true) := beyB_yes (by omega)
    go_enter Tryd.func48, Tryd.ntmps48
    go_wp2_with fail
    go_ret
    exact ⟨by rw [HB.out]; rfl, rfl⟩

set_option maxHeartbeats 1000000 in
theorem colorsOk_four (D : Nat) (wd hi : Int) (ca : Option Addr) (cn cc : Nat) (pa : Option Addr) (pn pc : Nat) (cs : List Int) (w : World) (h : Ints w ca cs) (hn : cs.length = cn) (hl : cn ≤ 1048576) (hD : D = 1 ∨ D = 2 ∨ D = 4 ∨ D = 8) :
    Calls Tryd.prog 49 #[.agg #[.int .i64 4, .int .i64 (D : Int), .int .i64 wd, .int .i64 hi, .slice ca cn cc, .slice pa pn pc]] w fun e w' => e = .returned (.bool (Im.colB 4 (D : Int) cs)) ∧ Below w.heap.size w w' := by
  have bel : Below w.heap.size w (w.alloc (.cells #[.int .i64 4, .int .i64 (D : Int), .int .i64 wd, .int .i64 hi, .slice ca cn cc, .slice pa pn pc] 27)) := (Below.refl _ _).alloc (Nat.le_refl _) _
  by_cases h1 : 1 ≤ cn
  · by_cases h2 : cn ≤ 2 ^ D
    · have HI : Hid (∀ w', Below w.heap.size w w' → Ints w' ca cs) := fun w' b => h.kept b
      have HN : Hid (cs.length = cn) := hn
      have HC : Hid (Im.colB 4 (D : Int) cs = withinB 16777215 cs) := by
        show _ = _
        by_cases g : Within 16777215 cs
        · rw [withinB_yes g]; exact Im.colB_yes ⟨fun e => absurd rfl e, fun _ => ⟨by omega, by rw [Int.toNat_natCast]; omega, g⟩⟩
        · rw [withinB_no g]; exact Im.colB_no (fun q => g (q.2 rfl).2.2)
      have HW : Hid (∀ w' : World, Ints w' ca cs → Calls Tryd.prog 50 #[.slice ca cn cc, .int .i64 16777215] w' fun e w'' => e = .returned (.bool (withinB 16777215 cs)) ∧ Below w'.heap.size w' w'') := fun w' hI => allWithin_any ca cn cc cs 16777215 w' hI HN.out (by omega)
      have d1 : decide ((1 : Int) ≤ (cn : Int)) = true := by simp; omega
      clear h hn
      generalize withinB 16777215 cs = bb at *
      rcases hD with rfl | rfl | rfl | rfl
      · have d2 : decide ((cn : Int) ≤ 2) = true := by simp; omega
        have d3 : decide ((cn : Int) ≤ IntKind.i64.wrap 2) = true := by rw [show IntKind.i64.wrap 2 = 2 from by decide]; exact d2
        go_enter Tryd.func49, Tryd.ntmps49
        go_wp2_with fail
        go_region_held3 (fun w' => w'.cell? ⟨w.heap.size, 4, none⟩ = some (.slice ca cn cc) ∧ w'.cell? ⟨w.heap.size, 1, none⟩ = some (.int .i64 1)) (go_keep) ((go_at_call 50; refine (HW.out _ (HI.out _ (((Below.refl _ _).alloc (Nat.le_refl _) _).drew))).mono ?_; rintro e w3 ⟨rfl, b3⟩; have k4 : w3.cell? ⟨w.heap.size, 4, none⟩ = some (.slice ca cn cc) := (b3.cell (p := ⟨w.heap.size, 4, none⟩) (by simp)).trans (by show (w.alloc _).cell? _ = _; rw [World.cell?_alloc_at _ _ _ _ rfl]; rfl); have k1 : w3.cell? ⟨w.heap.size, 1, none⟩ = some (.int .i64 1) := (b3.cell (p := ⟨w.heap.size, 1, none⟩) (by simp)).trans (by show (w.alloc _).cell? _ = _; rw [World.cell?_alloc_at _ _ _ _ rfl]; rfl)))
        all_goals
          have bel3 : Below w.heap.size w w3 := (((Below.refl w.heap.size w).alloc (Nat.le_refl _) _).drew).trans (b3.mono (by simp))
          clear b3
          go_wp2_with fail
          go_ret
          exact ⟨by rw [HC.out]; rfl, bel3⟩
      · have d2 : decide ((cn : Int) ≤ 4) = true := by simp; omega
        have d3 : decide ((cn : Int) ≤ IntKind.i64.wrap 4) = true := by rw [show IntKind.i64.wrap 4 = 4 from by decide]; exact d2
        go_enter Tryd.func49, Tryd.ntmps49
        go_wp2_with fail
        go_region_held3 (fun w' => w'.cell? ⟨w.heap.size, 4, none⟩ = some (.slice ca cn cc) ∧ w'.cell? ⟨w.heap.size, 1, none⟩ = some (.int .i64 2)) (go_keep) ((go_at_call 50; refine (HW.out _ (HI.out _ (((Below.refl _ _).alloc (Nat.le_refl _) _).drew))).mono ?_; rintro e w3 ⟨rfl, b3⟩; have k4 : w3.cell? ⟨w.heap.size, 4, none⟩ = some (.slice ca cn cc) := (b3.cell (p := ⟨w.heap.size, 4, none⟩) (by simp)).trans (by show (w.alloc _).cell? _ = _; rw [World.cell?_alloc_at _ _ _ _ rfl]; rfl); have k1 : w3.cell? ⟨w.heap.size, 1, none⟩ = some (.int .i64 2) := (b3.cell (p := ⟨w.heap.size, 1, none⟩) (by simp)).trans (by show (w.alloc _).cell? _ = _; rw [World.cell?_alloc_at _ _ _ _ rfl]; rfl)))
        all_goals
          have bel3 : Below w.heap.size w w3 := (((Below.refl w.heap.size w).alloc (Nat.le_refl _) _).drew).trans (b3.mono (by simp))
          clear b3
          go_wp2_with fail
          go_ret
          exact ⟨by rw [HC.out]; rfl, bel3⟩
      · have d2 : decide ((cn : Int) ≤ 16) = true := by simp; omega
        have d3 : decide ((cn : Int) ≤ IntKind.i64.wrap 16) = true := by rw [show IntKind.i64.wrap 16 = 16 from by decide]; exact d2
        go_enter Tryd.func49, Tryd.ntmps49
        go_wp2_with fail
        go_region_held3 (fun w' => w'.cell? ⟨w.heap.size, 4, none⟩ = some (.slice ca cn cc) ∧ w'.cell? ⟨w.heap.size, 1, none⟩ = some (.int .i64 4)) (go_keep) ((go_at_call 50; refine (HW.out _ (HI.out _ (((Below.refl _ _).alloc (Nat.le_refl _) _).drew))).mono ?_; rintro e w3 ⟨rfl, b3⟩; have k4 : w3.cell? ⟨w.heap.size, 4, none⟩ = some (.slice ca cn cc) := (b3.cell (p := ⟨w.heap.size, 4, none⟩) (by simp)).trans (by show (w.alloc _).cell? _ = _; rw [World.cell?_alloc_at _ _ _ _ rfl]; rfl); have k1 : w3.cell? ⟨w.heap.size, 1, none⟩ = some (.int .i64 4) := (b3.cell (p := ⟨w.heap.size, 1, none⟩) (by simp)).trans (by show (w.alloc _).cell? _ = _; rw [World.cell?_alloc_at _ _ _ _ rfl]; rfl)))
        all_goals
          have bel3 : Below w.heap.size w w3 := (((Below.refl w.heap.size w).alloc (Nat.le_refl _) _).drew).trans (b3.mono (by simp))
          clear b3
          go_wp2_with fail
          go_ret
          exact ⟨by rw [HC.out]; rfl, bel3⟩
      · have d2 : decide ((cn : Int) ≤ 256) = true := by simp; omega
        have d3 : decide ((cn : Int) ≤ IntKind.i64.wrap 256) = true := by rw [show IntKind.i64.wrap 256 = 256 from by decide]; exact d2
        go_enter Tryd.func49, Tryd.ntmps49
        go_wp2_with fail
        go_region_held3 (fun w' => w'.cell? ⟨w.heap.size, 4, none⟩ = some (.slice ca cn cc) ∧ w'.cell? ⟨w.heap.size, 1, none⟩ = some (.int .i64 8)) (go_keep) ((go_at_call 50; refine (HW.out _ (HI.out _ (((Below.refl _ _).alloc (Nat.le_refl _) _).drew))).mono ?_; rintro e w3 ⟨rfl, b3⟩; have k4 : w3.cell? ⟨w.heap.size, 4, none⟩ = some (.slice ca cn cc) := (b3.cell (p := ⟨w.heap.size, 4, none⟩) (by simp)).trans (by show (w.alloc _).cell? _ = _; rw [World.cell?_alloc_at _ _ _ _ rfl]; rfl); have k1 : w3.cell? ⟨w.heap.size, 1, none⟩ = some (.int .i64 8) := (b3.cell (p := ⟨w.heap.size, 1, none⟩) (by simp)).trans (by show (w.alloc _).cell? _ = _; rw [World.cell?_alloc_at _ _ _ _ rfl]; rfl)))
        all_goals
          have bel3 : Below w.heap.size w w3 := (((Below.refl w.heap.size w).alloc (Nat.le_refl _) _).drew).trans (b3.mono (by simp))
          clear b3
          go_wp2_with fail
          go_ret
          exact ⟨by rw [HC.out]; rfl, bel3⟩
    · have HC : Hid (Im.colB 4 (D : Int) cs = false) := Im.colB_no (fun g => h2 (by have := (g.2 rfl).2.1; rw [Int.toNat_natCast] at this; omega))
      have d1 : decide ((1 : Int) ≤ (cn : Int)) = true := by simp; omega
      rcases hD with rfl | rfl | rfl | rfl
      · have d2 : decide ((cn : Int) ≤ 2) = false := by simp; omega
        go_enter Tryd.func49, Tryd.ntmps49
        go_wp2_with fail
        go_quiet (fail)
        go_wp2_with fail
        go_ret
        exact ⟨by rw [HC.out]; rfl, below_drewN bel _⟩
      · have d2 : decide ((cn : Int) ≤ 4) = false := by simp; omega
        go_enter Tryd.func49, Tryd.ntmps49
        go_wp2_with fail
        go_quiet (fail)
        go_wp2_with fail
        go_ret
        exact ⟨by rw [HC.out]; rfl, below_drewN bel _⟩
      · have d2 : decide ((cn : Int) ≤ 16) = false := by simp; omega
        go_enter Tryd.func49, Tryd.ntmps49
        go_wp2_with fail
        go_quiet (fail)
        go_wp2_with fail
        go_ret
        exact ⟨by rw [HC.out]; rfl, below_drewN bel _⟩
      · have d2 : decide ((cn : Int) ≤ 256) = false := by simp; omega
        go_enter Tryd.func49, Tryd.ntmps49
        go_wp2_with fail
        go_quiet (fail)
        go_wp2_with fail
        go_ret
        exact ⟨by rw [HC.out]; rfl, below_drewN bel _⟩
  · have HC : Hid (Im.colB 4 (D : Int) cs = false) := Im.colB_no (fun g => h1 (by have := (g.2 rfl).1; omega))
    have d1 : decide ((1 : Int) ≤ (cn : Int)) = false := by simp; omega
    go_enter Tryd.func49, Tryd.ntmps49
    go_wp2_with fail
    go_quiet (fail)
    go_wp2_with fail
    go_ret
    exact ⟨by rw [HC.out]; rfl, below_drewN bel _⟩
end Go.Proofs.YtbfeonhokagdjaaDoor

/- ImageOk of the program. -/
namespace Go.Proofs.YtbfeonhokagdjaaDoor
open Go.RowKit

set_option maxHeartbeats 1000000 in
theorem colorsOk_other (k d wd hi : Int) (ca : Option Addr) (cn cc : Nat) (pa : Option Addr) (pn pc : Nat) (cs : List Int) (w : World) (hn : cs.length = cn) (hk : k ≠ 4) :
    Calls Tryd.prog 49 #[.agg #[.int .i64 k, .int .i64 d, .int .i64 wd, .int .i64 hi, .slice ca cn cc, .slice pa pn pc]] w fun e w' => e = .returned (.bool (Im.colB k d cs)) ∧ Below w.heap.size w w' := by
  have bel : Below w.heap.size w (w.alloc (.cells #[.int .i64 k, .int .i64 d, .int .i64 wd, .int .i64 hi, .slice ca cn cc, .slice pa pn pc] 27)) := (Below.refl _ _).alloc (Nat.le_refl _) _
  have hk' : (k == 4) = false := by simpa using hk
  by_cases h0 : cn = 0
  · have HC : Hid (Im.colB k d cs = true) := Im.colB_yes ⟨fun _ => by omega, fun e => absurd e hk⟩
    subst h0
    go_enter Tryd.func49, Tryd.ntmps49
    go_wp2_with fail
    go_ret
    exact ⟨by rw [HC.out]; rfl, bel⟩
  · have HC : Hid (Im.colB k d cs = false) := Im.colB_no (fun g => by have := g.1 hk; omega)
    have h0' : ((cn : Int) == 0) = false := by simp; omega
    go_enter Tryd.func49, Tryd.ntmps49
    go_wp2_with fail
    go_ret
    exact ⟨by rw [HC.out]; first | rfl | simp [h0'], bel⟩

theorem colorsOk_any (k d wd hi : Int) (ca : Option Addr) (cn cc : Nat) (pa : Option Addr) (pn pc : Nat) (cs : List Int) (w : World) (h : Ints w ca cs) (hn : cs.length = cn) (hl : cn ≤ 1048576) (hd : d ∈ depL k) :
    Calls Tryd.prog 49 #[.agg #[.int .i64 k, .int .i64 d, .int .i64 wd, .int .i64 hi, .slice ca cn cc, .slice pa pn pc]] w fun e w' => e = .returned (.bool (Im.colB k d cs)) ∧ Below w.heap.size w w' := by
  by_cases hk : k = 4
  · subst hk
    have h4 := Im.dep4 hd
    obtain ⟨D, rfl⟩ := Int.eq_ofNat_of_zero_le (show 0 ≤ d by omega)
    exact colorsOk_four D wd hi ca cn cc pa pn pc cs w h hn hl (by omega)
  · exact colorsOk_other k d wd hi ca cn cc pa pn pc cs w hn hk

set_option maxHeartbeats 2000000 in
set_option maxRecDepth 20000 in
theorem imageOk_a (k d wd hi : Int) (ca : Option Addr) (cn cc : Nat) (pa : Option Addr) (pn pc : Nat) (w : World) (hd : d ∉ depL k) :
    Calls Tryd.prog 32 #[.agg #[.int .i64 k, .int .i64 d, .int .i64 wd, .int .i64 hi, .slice ca cn cc, .slice pa pn pc]] w fun e w' => e = .returned (.bool false) ∧ Below w.heap.size w w' := by
  have HDS : Hid (∀ w : World, Calls Tryd.prog 47 #[.int .i64 k] w fun e w' => (∃ ao c, e = .returned (.slice ao (depL k).length c) ∧ Ints w' ao (depL k)) ∧ Below w.heap.size w w') := fun w => depthsOf_any k w
  have HCT : Hid (∀ (ao : Option Addr) (c : Nat) (w : World), Ints w ao (depL k) → Calls Tryd.prog 46 #[.slice ao (depL k).length c, .int .i64 d] w fun e w' => e = .returned (.bool false) ∧ w' = w) := by
    intro ao c w hI
    have := contains_any ao _ c (depL k) d w hI rfl (by have := depL_len k; omega)
    rw [decide_eq_false hd] at this; exact this
  clear hd
  generalize (depL k).length = L at *
  go_enter Tryd.func32, Tryd.ntmps32
  go_wp2_with fail
  first | go_region_with (first | (go_at_call 47; refine (HDS.out _).mono ?_; rintro e w2 ⟨⟨ao, c, rfl, hI⟩, b2⟩; have HI : Hid (Ints w2 ao (depL k)) := hI; clear hI; obtain ⟨k0, k1, k2, k3, k4, k5⟩ := box_kept (box_new w _ _ _ _ _ _ 27) (box_drew b2) (by simp)) | (go_at_call 46; refine (HCT.out _ _ _ HI.out).mono ?_; rintro e w3 ⟨rfl, hw3⟩; have hv3 := hw3.symm; subst hv3)) | fail
  all_goals
    have bel : Below w.heap.size w w2 := ((Below.refl w.heap.size w).alloc (Nat.le_refl _) _).trans ((box_drew b2).mono (by simp))
    clear b2
    go_wp2_with fail
    go_ret
    exact ⟨rfl, bel⟩

set_option maxHeartbeats 2000000 in
set_option maxRecDepth 20000 in
theorem imageOk_b (k d wd hi : Int) (ca : Option Addr) (cn cc : Nat) (pa : Option Addr) (pn pc : Nat) (w : World) (hd : d ∈ depL k) (hw : ¬ (1 ≤ wd ∧ wd ≤ 20)) :
    Calls Tryd.prog 32 #[.agg #[.int .i64 k, .int .i64 d, .int .i64 wd, .int .i64 hi, .slice ca cn cc, .slice pa pn pc]] w fun e w' => e = .returned (.bool false) ∧ Below w.heap.size w w' := by
  have HDS : Hid (∀ w : World, Calls Tryd.prog 47 #[.int .i64 k] w fun e w' => (∃ ao c, e = .returned (.slice ao (depL k).length c) ∧ Ints w' ao (depL k)) ∧ Below w.heap.size w w') := fun w => depthsOf_any k w
  have HCT : Hid (∀ (ao : Option Addr) (c : Nat) (w : World), Ints w ao (depL k) → Calls Tryd.prog 46 #[.slice ao (depL k).length c, .int .i64 d] w fun e w' => e = .returned (.bool true) ∧ w' = w) := by
    intro ao c w hI
    have := contains_any ao _ c (depL k) d w hI rfl (by have := depL_len k; omega)
    rw [decide_eq_true hd] at this; exact this
  have HSW : Hid (∀ w : World, Calls Tryd.prog 48 #[.int .i64 wd] w fun e w' => e = .returned (.bool false) ∧ w' = w) := by
    intro w
    have := sizeOk_any wd w
    rw [beyB_yes (by omega)] at this; exact this
  clear hd hw
  generalize (depL k).length = L at *
  go_enter Tryd.func32, Tryd.ntmps32
  go_wp2_with fail
  first | go_region_with (first | (go_at_call 47; refine (HDS.out _).mono ?_; rintro e w2 ⟨⟨ao, c, rfl, hI⟩, b2⟩; have HI : Hid (Ints w2 ao (depL k)) := hI; clear hI; obtain ⟨k0, k1, k2, k3, k4, k5⟩ := box_kept (box_new w _ _ _ _ _ _ 27) (box_drew b2) (by simp)) | (go_at_call 46; refine (HCT.out _ _ _ HI.out).mono ?_; rintro e w3 ⟨rfl, hw3⟩; have hv3 := hw3.symm; subst hv3) | (go_at_call_of 48 (Value.int IntKind.i64 wd); refine (HSW.out _).mono ?_; rintro e w4 ⟨rfl, hw4⟩; have hv4 := hw4.symm; subst hv4)) | fail
  all_goals
    have bel : Below w.heap.size w w2 := ((Below.refl w.heap.size w).alloc (Nat.le_refl _) _).trans ((box_drew b2).mono (by simp))
    clear b2
    go_wp2_with fail
    go_ret
    exact ⟨rfl, bel⟩

set_option maxHeartbeats 2000000 in
set_option maxRecDepth 20000 in
theorem imageOk_c (k d wd hi : Int) (ca : Option Addr) (cn cc : Nat) (pa : Option Addr) (pn pc : Nat) (w : World) (hd : d ∈ depL k) (hw : 1 ≤ wd ∧ wd ≤ 20) (hh : ¬ (1 ≤ hi ∧ hi ≤ 20)) :
    Calls Tryd.prog 32 #[.agg #[.int .i64 k, .int .i64 d, .int .i64 wd, .int .i64 hi, .slice ca cn cc, .slice pa pn pc]] w fun e w' => e = .returned (.bool false) ∧ Below w.heap.size w w' := by
  have HDS : Hid (∀ w : World, Calls Tryd.prog 47 #[.int .i64 k] w fun e w' => (∃ ao c, e = .returned (.slice ao (depL k).length c) ∧ Ints w' ao (depL k)) ∧ Below w.heap.size w w') := fun w => depthsOf_any k w
  have HCT : Hid (∀ (ao : Option Addr) (c : Nat) (w : World), Ints w ao (depL k) → Calls Tryd.prog 46 #[.slice ao (depL k).length c, .int .i64 d] w fun e w' => e = .returned (.bool true) ∧ w' = w) := by
    intro ao c w hI
    have := contains_any ao _ c (depL k) d w hI rfl (by have := depL_len k; omega)
    rw [decide_eq_true hd] at this; exact this
  have HSW : Hid (∀ w : World, Calls Tryd.prog 48 #[.int .i64 wd] w fun e w' => e = .returned (.bool true) ∧ w' = w) := by
    intro w
    have := sizeOk_any wd w
    rw [beyB_no (by omega)] at this; exact this
  have HSH : Hid (∀ w : World, Calls Tryd.prog 48 #[.int .i64 hi] w fun e w' => e = .returned (.bool false) ∧ w' = w) := by
    intro w
    have := sizeOk_any hi w
    rw [beyB_yes (by omega)] at this; exact this
  clear hd hw hh
  generalize (depL k).length = L at *
  go_enter Tryd.func32, Tryd.ntmps32
  go_wp2_with fail
  first | go_region_with (first | (go_at_call 47; refine (HDS.out _).mono ?_; rintro e w2 ⟨⟨ao, c, rfl, hI⟩, b2⟩; have HI : Hid (Ints w2 ao (depL k)) := hI; clear hI; obtain ⟨k0, k1, k2, k3, k4, k5⟩ := box_kept (box_new w _ _ _ _ _ _ 27) (box_drew b2) (by simp)) | (go_at_call 46; refine (HCT.out _ _ _ HI.out).mono ?_; rintro e w3 ⟨rfl, hw3⟩; have hv3 := hw3.symm; subst hv3) | (go_at_call_of 48 (Value.int IntKind.i64 wd); refine (HSW.out _).mono ?_; rintro e w4 ⟨rfl, hw4⟩; have hv4 := hw4.symm; subst hv4) | (go_at_call_of 48 (Value.int IntKind.i64 hi); refine (HSH.out _).mono ?_; rintro e w5 ⟨rfl, hw5⟩; have hv5 := hw5.symm; subst hv5)) | fail
  all_goals
    have bel : Below w.heap.size w w2 := ((Below.refl w.heap.size w).alloc (Nat.le_refl _) _).trans ((box_drew b2).mono (by simp))
    clear b2
    go_wp2_with fail
    go_ret
    exact ⟨rfl, bel⟩

end Go.Proofs.YtbfeonhokagdjaaDoor

/- ImageOk of the program: the colours are looked at. -/
namespace Go.Proofs.YtbfeonhokagdjaaDoor
open Go.RowKit

set_option maxHeartbeats 2000000 in
set_option maxRecDepth 20000 in
theorem imageOk_d (k d wd hi : Int) (ca : Option Addr) (cn cc : Nat) (pa : Option Addr) (pn pc : Nat) (w : World) (cs : List Int) (hc : Ints w ca cs) (hcn : cs.length = cn) (hcl : cn ≤ 1048576) (hd : d ∈ depL k) (hw : 1 ≤ wd ∧ wd ≤ 20) (hh : 1 ≤ hi ∧ hi ≤ 20) (hco : ¬ Im.ColOk k d cs) :
    Calls Tryd.prog 32 #[.agg #[.int .i64 k, .int .i64 d, .int .i64 wd, .int .i64 hi, .slice ca cn cc, .slice pa pn pc]] w fun e w' => e = .returned (.bool false) ∧ Below w.heap.size w w' := by
  have HDS : Hid (∀ w : World, Calls Tryd.prog 47 #[.int .i64 k] w fun e w' => (∃ ao c, e = .returned (.slice ao (depL k).length c) ∧ Ints w' ao (depL k)) ∧ Below w.heap.size w w') := fun w => depthsOf_any k w
  have HCT : Hid (∀ (ao : Option Addr) (c : Nat) (w : World), Ints w ao (depL k) → Calls Tryd.prog 46 #[.slice ao (depL k).length c, .int .i64 d] w fun e w' => e = .returned (.bool true) ∧ w' = w) := by
    intro ao c w hI
    have := contains_any ao _ c (depL k) d w hI rfl (by have := depL_len k; omega)
    rw [decide_eq_true hd] at this; exact this
  have HSW : Hid (∀ w : World, Calls Tryd.prog 48 #[.int .i64 wd] w fun e w' => e = .returned (.bool true) ∧ w' = w) := by
    intro w
    have := sizeOk_any wd w
    rw [beyB_no (by omega)] at this; exact this
  have HSH : Hid (∀ w : World, Calls Tryd.prog 48 #[.int .i64 hi] w fun e w' => e = .returned (.bool true) ∧ w' = w) := by
    intro w
    have := sizeOk_any hi w
    rw [beyB_no (by omega)] at this; exact this
  have HCO : Hid (∀ w' : World, Ints w' ca cs → Calls Tryd.prog 49 #[.agg #[.int .i64 k, .int .i64 d, .int .i64 wd, .int .i64 hi, .slice ca cn cc, .slice pa pn pc]] w' fun e w'' => e = .returned (.bool false) ∧ Below w'.heap.size w' w'') := by
    intro w' hI
    have := colorsOk_any k d wd hi ca cn cc pa pn pc cs w' hI hcn hcl hd
    rw [Im.colB_no hco] at this; exact this
  have HIC : Hid (∀ w', Below w.heap.size w w' → Ints w' ca cs) := fun w' b => hc.kept b
  clear hd hw hh hco hc hcn
  generalize (depL k).length = L at *
  go_enter Tryd.func32, Tryd.ntmps32
  go_wp2_with fail
  go_region_held3 (fun w' => w'.cell? ⟨w.heap.size, 0, none⟩ = some (.int .i64 k) ∧ w'.cell? ⟨w.heap.size, 1, none⟩ = some (.int .i64 d) ∧ w'.cell? ⟨w.heap.size, 2, none⟩ = some (.int .i64 wd) ∧ w'.cell? ⟨w.heap.size, 3, none⟩ = some (.int .i64 hi) ∧ w'.cell? ⟨w.heap.size, 4, none⟩ = some (.slice ca cn cc) ∧ w'.cell? ⟨w.heap.size, 5, none⟩ = some (.slice pa pn pc)) (go_keep) (first | (go_at_call 47; refine (HDS.out _).mono ?_; rintro e w2 ⟨⟨ao, c, rfl, hI⟩, b2⟩; have HI : Hid (Ints w2 ao (depL k)) := hI; clear hI; obtain ⟨k0, k1, k2, k3, k4, k5⟩ := box_kept (box_new w _ _ _ _ _ _ 27) (box_drew b2) (by simp); have bw2 : Below w.heap.size w w2 := ((Below.refl w.heap.size w).alloc (Nat.le_refl _) _).trans ((box_drew b2).mono (by simp))) | (go_at_call 46; refine (HCT.out _ _ _ HI.out).mono ?_; rintro e w3 ⟨rfl, hw3⟩; have hv3 := hw3.symm; subst hv3) | (go_at_call_of 48 (Value.int IntKind.i64 wd); refine (HSW.out _).mono ?_; rintro e w4 ⟨rfl, hw4⟩; have hv4 := hw4.symm; subst hv4) | (go_at_call_of 48 (Value.int IntKind.i64 hi); refine (HSH.out _).mono ?_; rintro e w5 ⟨rfl, hw5⟩; have hv5 := hw5.symm; subst hv5) | (go_at_call 49; refine (HCO.out _ (HIC.out _ bw2)).mono ?_; rintro e w6 ⟨rfl, b6⟩; obtain ⟨q0, q1, q2, q3, q4, q5⟩ := box_kept ⟨k0, k1, k2, k3, k4, k5⟩ b6 (Nat.lt_of_lt_of_le (by simp) b2.size)))
  all_goals
    have bel : Below w.heap.size w w6 := bw2.trans (b6.mono bw2.size)
    clear b6 bw2
    clear b2
    go_wp2_with fail
    go_ret
    exact ⟨rfl, bel⟩

end Go.Proofs.YtbfeonhokagdjaaDoor

/- ImageOk of the program: the points are looked at. -/
namespace Go.Proofs.YtbfeonhokagdjaaDoor
open Go.RowKit

/-- what one shift more than a power is -/
theorem pow_pred (D : Nat) : ∃ P : Nat, P + 1 = 2 ^ D := ⟨2 ^ D - 1, by have : 0 < 2 ^ D := Nat.pow_pos (by omega); omega⟩

set_option maxHeartbeats 4000000 in
set_option maxRecDepth 20000 in
theorem imageOk_e (k wd hi : Int) (D : Nat) (ca : Option Addr) (cn cc : Nat) (pa : Option Addr) (pn pc : Nat) (w : World) (cs ps : List Int) (hc : Ints w ca cs) (hcn : cs.length = cn) (hcl : cn ≤ 1048576) (hp : Ints w pa ps) (hpn : ps.length = pn) (hpl : pn ≤ 1048576)
    (hd : (D : Int) ∈ depL k) (hD : D ≤ 32) (hw : 1 ≤ wd ∧ wd ≤ 20) (hh : 1 ≤ hi ∧ hi ≤ 20) (hco : Im.ColOk k (D : Int) cs) :
    Calls Tryd.prog 32 #[.agg #[.int .i64 k, .int .i64 (D : Int), .int .i64 wd, .int .i64 hi, .slice ca cn cc, .slice pa pn pc]] w fun e w' => e = .returned (.bool (Im.okB k (D : Int) wd hi cs ps)) ∧ Below w.heap.size w w' := by
  have HDS : Hid (∀ w : World, Calls Tryd.prog 47 #[.int .i64 k] w fun e w' => (∃ ao c, e = .returned (.slice ao (depL k).length c) ∧ Ints w' ao (depL k)) ∧ Below w.heap.size w w') := fun w => depthsOf_any k w
  have HCT : Hid (∀ (ao : Option Addr) (c : Nat) (w : World), Ints w ao (depL k) → Calls Tryd.prog 46 #[.slice ao (depL k).length c, .int .i64 (D : Int)] w fun e w' => e = .returned (.bool true) ∧ w' = w) := by
    intro ao c w hI
    have := contains_any ao _ c (depL k) (D : Int) w hI rfl (by have := depL_len k; omega)
    rw [decide_eq_true hd] at this; exact this
  have HSW : Hid (∀ w : World, Calls Tryd.prog 48 #[.int .i64 wd] w fun e w' => e = .returned (.bool true) ∧ w' = w) := by
    intro w
    have := sizeOk_any wd w
    rw [beyB_no (by omega)] at this; exact this
  have HSH : Hid (∀ w : World, Calls Tryd.prog 48 #[.int .i64 hi] w fun e w' => e = .returned (.bool true) ∧ w' = w) := by
    intro w
    have := sizeOk_any hi w
    rw [beyB_no (by omega)] at this; exact this
  have HCO : Hid (∀ w' : World, Ints w' ca cs → Calls Tryd.prog 49 #[.agg #[.int .i64 k, .int .i64 (D : Int), .int .i64 wd, .int .i64 hi, .slice ca cn cc, .slice pa pn pc]] w' fun e w'' => e = .returned (.bool true) ∧ Below w'.heap.size w' w'') := by
    intro w' hI
    have := colorsOk_any k (D : Int) wd hi ca cn cc pa pn pc cs w' hI hcn hcl hd
    rw [Im.colB_yes hco] at this; exact this
  have HIC : Hid (∀ w', Below w.heap.size w w' → Ints w' ca cs) := fun w' b => hc.kept b
  have HIP : Hid (∀ w', Below w.heap.size w w' → Ints w' pa ps) := fun w' b => hp.kept b
  have HAW : Hid (∀ (m : Int) (w' : World), Ints w' pa ps → Calls Tryd.prog 50 #[.slice pa pn pc, .int .i64 m] w' fun e w'' => e = .returned (.bool (withinB m ps)) ∧ Below w'.heap.size w' w'') := fun m w' hI => allWithin_any pa pn pc ps m w' hI hpn (by omega)
  obtain ⟨P, hP⟩ := pow_pred D
  have hPb : P + 1 ≤ 4294967296 := by rw [hP]; exact Nat.le_trans (Nat.pow_le_pow_right (by omega) hD) (by decide)
  have HPP : Hid (P + 1 = 2 ^ D) := hP
  have HOK : Hid (Im.okB k (D : Int) wd hi cs ps = (decide ((pn : Int) = wd * hi) && withinB (if k = 4 then (cn : Int) - 1 else (P : Int)) ps)) := by
    show _ = _
    have hm : Im.most k (D : Int) cs = if k = 4 then (cn : Int) - 1 else (P : Int) := by
      unfold Im.most; rw [Int.toNat_natCast, hcn, ← hP]; split <;> simp
    by_cases g : (pn : Int) = wd * hi ∧ Within (if k = 4 then (cn : Int) - 1 else (P : Int)) ps
    · rw [decide_eq_true g.1, withinB_yes g.2]
      exact Im.okB_yes ⟨hd, hw, hh, hco, by rw [hpn]; exact g.1, by rw [hm]; exact g.2⟩
    · have hno : Im.okB k (D : Int) wd hi cs ps = false := Im.okB_no (fun q => g ⟨by have := q.2.2.2.2.1; rw [hpn] at this; exact this, by have := q.2.2.2.2.2; rw [hm] at this; exact this⟩)
      rw [hno]
      by_cases g1 : (pn : Int) = wd * hi
      · rw [withinB_no (fun q => g ⟨g1, q⟩)]; simp
      · rw [decide_eq_false g1]; rfl
  obtain ⟨M, hM⟩ : ∃ M, wd * hi = M := ⟨_, rfl⟩
  have hM1 : 0 ≤ M ∧ M ≤ 400 := by
    obtain ⟨x, hx⟩ := Int.eq_ofNat_of_zero_le (show 0 ≤ wd by omega)
    obtain ⟨y, hy⟩ := Int.eq_ofNat_of_zero_le (show 0 ≤ hi by omega)
    have h1 : x * y ≤ 20 * 20 := Nat.mul_le_mul (by omega) (by omega)
    have h2 : (x : Int) * (y : Int) = ((x * y : Nat) : Int) := by simp
    rw [← hM, hx, hy, h2]
    omega
  obtain ⟨hM2, hM3⟩ := hM1
  rw [hM] at HOK
  have hpow : (2 : Int) ^ D = (P : Int) + 1 := by
    have : ((2 ^ D : Nat) : Int) = (P : Int) + 1 := by rw [← hP]; simp
    rw [← this]; simp
  clear hd hco hc hcn hp hpn hP
  generalize (depL k).length = L at *
  go_enter Tryd.func32, Tryd.ntmps32
  go_wp2_with fail
  go_region_held3 (fun w' => w'.cell? ⟨w.heap.size, 0, none⟩ = some (.int .i64 k) ∧ w'.cell? ⟨w.heap.size, 1, none⟩ = some (.int .i64 (D : Int)) ∧ w'.cell? ⟨w.heap.size, 2, none⟩ = some (.int .i64 wd) ∧ w'.cell? ⟨w.heap.size, 3, none⟩ = some (.int .i64 hi) ∧ w'.cell? ⟨w.heap.size, 4, none⟩ = some (.slice ca cn cc) ∧ w'.cell? ⟨w.heap.size, 5, none⟩ = some (.slice pa pn pc)) (go_keep) (first | (go_at_call 47; refine (HDS.out _).mono ?_; rintro e w2 ⟨⟨ao, c, rfl, hI⟩, b2⟩; have HI : Hid (Ints w2 ao (depL k)) := hI; clear hI; obtain ⟨k0, k1, k2, k3, k4, k5⟩ := box_kept (box_new w _ _ _ _ _ _ 27) (box_drew b2) (by simp); have bw2 : Below w.heap.size w w2 := ((Below.refl w.heap.size w).alloc (Nat.le_refl _) _).trans ((box_drew b2).mono (by simp))) | (go_at_call 46; refine (HCT.out _ _ _ HI.out).mono ?_; rintro e w3 ⟨rfl, hw3⟩; have hv3 := hw3.symm; subst hv3) | (go_at_call_of 48 (Value.int IntKind.i64 wd); refine (HSW.out _).mono ?_; rintro e w4 ⟨rfl, hw4⟩; have hv4 := hw4.symm; subst hv4) | (go_at_call_of 48 (Value.int IntKind.i64 hi); refine (HSH.out _).mono ?_; rintro e w5 ⟨rfl, hw5⟩; have hv5 := hw5.symm; subst hv5) | (go_at_call 49; refine (HCO.out _ (HIC.out _ bw2)).mono ?_; rintro e w6 ⟨rfl, b6⟩; obtain ⟨q0, q1, q2, q3, q4, q5⟩ := box_kept ⟨k0, k1, k2, k3, k4, k5⟩ b6 (Nat.lt_of_lt_of_le (by simp) b2.size)))
  all_goals
    have bel : Below w.heap.size w w6 := bw2.trans (b6.mono bw2.size)
    clear b6 bw2 b2 k0 k1 k2 k3 k4 k5 HI HDS HCT HSW HSH HCO HIC
    have HP6 : Hid (Ints w6 pa ps) := HIP.out _ bel
    clear HIP
    by_cases hk : k = 4
    · subst hk
      by_cases hg : (pn : Int) = M
      · rw [if_pos rfl, decide_eq_true hg] at HOK
        have hg' : ((pn : Int) == M) = true := by simpa using hg
        have HA : Hid (Calls Tryd.prog 50 #[.slice pa pn pc, .int .i64 ((cn : Int) - 1)] w6 fun e w'' => e = .returned (.bool (withinB ((cn : Int) - 1) ps)) ∧ Below w6.heap.size w6 w'') := HAW.out _ w6 HP6.out
        clear hg
        go_wp2_with fail
        refine HA.out.mono ?_
        rintro e w7 ⟨rfl, b7⟩
        go_wp2_with fail
        go_ret
        exact ⟨by rw [HOK.out]; first | rfl | simp, bel.trans (b7.mono bel.size)⟩
      · rw [decide_eq_false hg] at HOK
        have hg' : ((pn : Int) == M) = false := by simpa using hg
        go_wp2_with fail
        go_ret
        exact ⟨by rw [HOK.out]; rfl, bel⟩
    · have hk' : (k == 4) = false := by simpa using hk
      by_cases hg : (pn : Int) = M
      · rw [if_neg hk, decide_eq_true hg] at HOK
        have hg' : ((pn : Int) == M) = true := by simpa using hg
        have HA : Hid (Calls Tryd.prog 50 #[.slice pa pn pc, .int .i64 (P : Int)] w6 fun e w'' => e = .returned (.bool (withinB (P : Int) ps)) ∧ Below w6.heap.size w6 w'') := HAW.out _ w6 HP6.out
        clear hg
        go_wp2_with fail
        refine HA.out.mono ?_
        rintro e w7 ⟨rfl, b7⟩
        go_wp2_with fail
        go_ret
        exact ⟨by rw [HOK.out]; first | rfl | simp, bel.trans (b7.mono bel.size)⟩
      · rw [decide_eq_false hg] at HOK
        have hg' : ((pn : Int) == M) = false := by simpa using hg
        go_wp2_with fail
        go_ret
        exact ⟨by rw [HOK.out]; rfl, bel⟩

theorem impl_imageOk (k d wd hi : Int) (ca : Option Addr) (cn cc : Nat) (pa : Option Addr) (pn pc : Nat) (w : World) (cs ps : List Int) (hc : Ints w ca cs) (hcn : cs.length = cn) (hcl : cn ≤ 1048576) (hp : Ints w pa ps) (hpn : ps.length = pn) (hpl : pn ≤ 1048576) :
    Calls Tryd.prog 32 #[.agg #[.int .i64 k, .int .i64 d, .int .i64 wd, .int .i64 hi, .slice ca cn cc, .slice pa pn pc]] w fun e w' => e = .returned (.bool (Im.okB k d wd hi cs ps)) ∧ Below w.heap.size w w' := by
  by_cases hd : d ∈ depL k
  · by_cases hw : 1 ≤ wd ∧ wd ≤ 20
    · by_cases hh : 1 ≤ hi ∧ hi ≤ 20
      · by_cases hco : Im.ColOk k d cs
        · obtain ⟨D, rfl, hD, _⟩ := Im.dep_all hd
          exact imageOk_e k wd hi D ca cn cc pa pn pc w cs ps hc hcn hcl hp hpn hpl hd hD hw hh hco
        · rw [Im.okB_no (fun g => hco g.2.2.2.1)]
          exact imageOk_d k d wd hi ca cn cc pa pn pc w cs hc hcn hcl hd hw hh hco
      · rw [Im.okB_no (fun g => hh g.2.2.1)]
        exact imageOk_c k d wd hi ca cn cc pa pn pc w hd hw hh
    · rw [Im.okB_no (fun g => hw g.2.1)]
      exact imageOk_b k d wd hi ca cn cc pa pn pc w hd hw
  · rw [Im.okB_no (fun g => hd g.1)]
    exact imageOk_a k d wd hi ca cn cc pa pn pc w hd
end Go.Proofs.YtbfeonhokagdjaaDoor

/- ImageOk of the specification. -/
namespace Go.Proofs.YtbfeonhokagdjaaDoor
open Go.RowKit

/-- a depth of a kind, told -/
def depKB (k d : Int) : Bool := decide (d ∈ depL k)
theorem depKB_yes {k d : Int} (h : d ∈ depL k) : depKB k d = true := decide_eq_true h
theorem depKB_no {k d : Int} (h : d ∉ depL k) : depKB k d = false := decide_eq_false h

set_option maxHeartbeats 400000 in
theorem l8Depth_four (k d : Int) (w : World) (hk : k = 1 ∨ k = 4) :
    Calls Tryd.prog 24 #[.int .i64 k, .int .i64 d] w fun e w' => e = .returned (.bool (depKB k d)) ∧ w' = w := by
  have hL : depL k = [1, 2, 4, 8] := by unfold depL; rw [if_pos hk]
  have e1k : (k == 1) = true ∨ (k == 1) = false := by cases (k == 1) <;> simp
  by_cases h1 : d = 1
  · have HB : Hid (depKB k d = true) := depKB_yes (by rw [hL, h1]; simp)
    subst h1
    rcases hk with rfl | rfl
    all_goals
      go_enter Tryd.func24, Tryd.ntmps24
      go_wp2_with fail
      go_ret
      exact ⟨by rw [HB.out]; rfl, rfl⟩
  · by_cases h2 : d = 2
    · have HB : Hid (depKB k d = true) := depKB_yes (by rw [hL, h2]; simp)
      subst h2
      rcases hk with rfl | rfl
      all_goals
        go_enter Tryd.func24, Tryd.ntmps24
        go_wp2_with fail
        go_ret
        exact ⟨by rw [HB.out]; rfl, rfl⟩
    · by_cases h4 : d = 4
      · have HB : Hid (depKB k d = true) := depKB_yes (by rw [hL, h4]; simp)
        subst h4
        rcases hk with rfl | rfl
        all_goals
          go_enter Tryd.func24, Tryd.ntmps24
          go_wp2_with fail
          go_ret
          exact ⟨by rw [HB.out]; rfl, rfl⟩
      · have e1 : (d == 1) = false := by simpa using h1
        have e2 : (d == 2) = false := by simpa using h2
        have e4 : (d == 4) = false := by simpa using h4
        by_cases h8 : d = 8
        · have HB : Hid (depKB k d = true) := depKB_yes (by rw [hL, h8]; simp)
          subst h8
          rcases hk with rfl | rfl
          all_goals
            go_enter Tryd.func24, Tryd.ntmps24
            go_wp2_with fail
            go_ret
            exact ⟨by rw [HB.out]; rfl, rfl⟩
        · have e8 : (d == 8) = false := by simpa using h8
          have HB : Hid (depKB k d = false) := depKB_no (by rw [hL]; simp; omega)
          rcases hk with rfl | rfl
          all_goals
            go_enter Tryd.func24, Tryd.ntmps24
            go_wp2_with fail
            go_ret
            exact ⟨by rw [HB.out]; rfl, rfl⟩

set_option maxHeartbeats 400000 in
theorem l8Depth_any (k d : Int) (w : World) :
    Calls Tryd.prog 24 #[.int .i64 k, .int .i64 d] w fun e w' => e = .returned (.bool (depKB k d)) ∧ w' = w := by
  by_cases hk : k = 1 ∨ k = 4
  · exact l8Depth_four k d w hk
  · have k1 : (k == 1) = false := by simp; omega
    have k4 : (k == 4) = false := by simp; omega
    by_cases h2 : k = 2
    · have hL : depL k = [24] := by unfold depL; rw [if_neg hk, if_pos h2]
      subst h2
      by_cases hd : d = 24
      · have HB : Hid (depKB 2 d = true) := depKB_yes (by rw [hL, hd]; simp)
        subst hd
        go_enter Tryd.func24, Tryd.ntmps24
        go_wp2_with fail
        go_ret
        exact ⟨by rw [HB.out]; rfl, rfl⟩
      · have HB : Hid (depKB 2 d = false) := depKB_no (by rw [hL]; simpa using hd)
        have e1 : (d == 24) = false := by simpa using hd
        go_enter Tryd.func24, Tryd.ntmps24
        go_wp2_with fail
        go_ret
        exact ⟨by rw [HB.out]; first | rfl | simp [e1], rfl⟩
    · have k2 : (k == 2) = false := by simpa using h2
      by_cases h3 : k = 3
      · have hL : depL k = [32] := by unfold depL; rw [if_neg hk, if_neg h2, if_pos h3]
        subst h3
        by_cases hd : d = 32
        · have HB : Hid (depKB 3 d = true) := depKB_yes (by rw [hL, hd]; simp)
          subst hd
          go_enter Tryd.func24, Tryd.ntmps24
          go_wp2_with fail
          go_ret
          exact ⟨by rw [HB.out]; rfl, rfl⟩
        · have HB : Hid (depKB 3 d = false) := depKB_no (by rw [hL]; simpa using hd)
          have e1 : (d == 32) = false := by simpa using hd
          go_enter Tryd.func24, Tryd.ntmps24
          go_wp2_with fail
          go_ret
          exact ⟨by rw [HB.out]; first | rfl | simp [e1], rfl⟩
      · have k3 : (k == 3) = false := by simpa using h3
        have HB : Hid (depKB k d = false) := depKB_no (by unfold depL; rw [if_neg hk, if_neg h2, if_neg h3]; simp)
        go_enter Tryd.func24, Tryd.ntmps24
        go_wp2_with fail
        go_ret
        exact ⟨by rw [HB.out]; rfl, rfl⟩
end Go.Proofs.YtbfeonhokagdjaaDoor

/- The colours of a picture, as the specification looks at them; ImageOk of the specification. -/
namespace Go.Proofs.YtbfeonhokagdjaaDoor
open Go.RowKit

set_option maxHeartbeats 1000000 in
set_option maxRecDepth 20000 in
theorem l8Colors_any (k wd hi : Int) (D : Nat) (ca : Option Addr) (cn cc : Nat) (pa : Option Addr) (pn pc : Nat) (cs : List Int) (w : World) (h : Ints w ca cs) (hn : cs.length = cn) (hl : cn ≤ 1048576) (hD : D ≤ 32) :
    Calls Tryd.prog 26 #[.agg #[.int .i64 k, .int .i64 D, .int .i64 wd, .int .i64 hi, .slice ca cn cc, .slice pa pn pc]] w fun e w' => e = .returned (.bool (Im.colB k D cs)) ∧ Below w.heap.size w w' := by
  have bel : Below w.heap.size w (w.alloc (.cells #[.int .i64 k, .int .i64 (D : Int), .int .i64 wd, .int .i64 hi, .slice ca cn cc, .slice pa pn pc] 27)) := (Below.refl _ _).alloc (Nat.le_refl _) _
  have HI : Hid (Ints (w.alloc (.cells #[.int .i64 k, .int .i64 (D : Int), .int .i64 wd, .int .i64 hi, .slice ca cn cc, .slice pa pn pc] 27)) ca cs) := h.kept bel
  have HN : Hid (cs.length = cn) := hn
  have hzg : cn ≤ cs.length := by omega
  have HB : Hid (Below w.heap.size w (w.alloc (.cells #[.int .i64 k, .int .i64 (D : Int), .int .i64 wd, .int .i64 hi, .slice ca cn cc, .slice pa pn pc] 27))) := bel
  clear h hn bel
  go_enter Tryd.func26, Tryd.ntmps26
  go_wp2_with fail
  go_loop [3] (fun i => ∃ j : Nat, j ≤ cn ∧ i = .int .i64 j ∧ ∀ q (hq : q < cs.length), q < j → 0 ≤ cs[q] ∧ cs[q] ≤ 16777215) (fun i => cn - (intOf i).toNat)
  case atStart => exact ⟨0, Nat.zero_le _, rfl, fun j hj h0 => absurd h0 (by omega)⟩
  case round =>
    obtain ⟨j, hj, rfl, hall⟩ := hrel
    have HA : Hid (∀ q (hq : q < cs.length), q < j → 0 ≤ cs[q] ∧ cs[q] ≤ 16777215) := hall
    clear hall
    by_cases hlt : j < cn
    · have hjz : j < cs.length := by omega
      rcases HI.out with h | ⟨b, off, rfl, hbB, hc⟩
      · rw [h] at hjz; simp at hjz
      · have hck := hc j hjz
        have hji : (j : Int) < (cn : Int) := by omega
        clear hc
        obtain ⟨x, hx⟩ : ∃ x, x = cs[j] := ⟨_, rfl⟩
        rw [← hx] at hck
        have HX : Hid (x = cs[j]) := hx
        clear hx
        by_cases he : 0 ≤ x ∧ x ≤ 16777215
        · have HE : Hid (0 ≤ x ∧ x ≤ 16777215) := he
          clear he
          go_wp2_with fail
          refine (l1In_yes _ _ _ _ HE.out.1 HE.out.2).mono ?_
          rintro e w1 ⟨rfl, hw1⟩
          subst hw1
          go_wp2_with fail
          go_round
          case rel =>
            refine ⟨j + 1, by omega, by go_num, fun q hq h1 => ?_⟩
            by_cases e : q < j
            · exact HA.out q hq e
            · have : q = j := by omega
              subst this
              rw [← HX.out]; exact HE.out
          case measure => simp [intOf]; omega
        · have HC : Hid (Im.colB k (D : Int) cs = false) := Im.colB_no (fun g => by
            by_cases hk : k = 4
            · have := (g.2 hk).2.2 cs[j] (List.getElem_mem hjz)
              rw [← HX.out] at this
              exact he this
            · have := g.1 hk; omega)
          have HE : Hid (¬ (0 ≤ x ∧ x ≤ 16777215)) := he
          clear he
          go_wp2_with fail
          refine (l1In_no _ _ _ _ HE.out).mono ?_
          rintro e w1 ⟨rfl, hw1⟩
          have hw1' : Below w.heap.size w w1 := by rw [hw1]; exact HB.out
          clear hw1
          go_wp2_with fail
          go_ret
          exact ⟨by rw [HC.out]; rfl, hw1'⟩
    · have hW : Within 16777215 cs := by
        intro z hz
        obtain ⟨q, hq, rfl⟩ := List.getElem_of_mem hz
        exact HA.out q hq (by have := HN.out; omega)
      have hlt' : ¬ (j : Int) < (cn : Int) := by omega
      clear HA
      by_cases hk : k = 4
      · subst hk
        obtain ⟨Q, hQ⟩ : ∃ Q, Q = 2 ^ D := ⟨_, rfl⟩
        have hQb : Q ≤ 4294967296 := by rw [hQ]; exact Nat.le_trans (Nat.pow_le_pow_right (by omega) hD) (by decide)
        have HP : Hid (∀ w : World, Calls Tryd.prog 27 #[.int .i64 (D : Int)] w fun e w' => e = .returned (.int .i64 (Q : Int)) ∧ w' = w) := by
          intro w; rw [hQ]; exact l1Pow_any D w (by omega)
        by_cases hin : 1 ≤ cn ∧ cn ≤ Q
        · have HC : Hid (Im.colB 4 (D : Int) cs = true) := Im.colB_yes ⟨fun e => absurd rfl e, fun _ => ⟨by have := HN.out; omega, by rw [Int.toNat_natCast, ← hQ]; have := HN.out; omega, hW⟩⟩
          have h1 : (1 : Int) ≤ (cn : Int) := by omega
          have h2 : (cn : Int) ≤ (Q : Int) := by omega
          clear hW hQ hin
          go_wp2_with fail
          go_region_held3 (fun w' => w'.cell? ⟨w.heap.size, 4, none⟩ = some (.slice ca cn cc) ∧ w'.cell? ⟨w.heap.size, 1, none⟩ = some (.int .i64 (D : Int))) (go_keep) (first | (go_at_call 25; refine (l1In_yes _ _ _ _ h1 h2).mono ?_; rintro e w' ⟨rfl, rfl⟩) | (go_at_call 27; refine (HP.out _).mono ?_; rintro e w' ⟨rfl, rfl⟩))
          all_goals
            go_wp2_with fail
            go_ret
            exact ⟨by rw [HC.out]; rfl, HB.out.drew⟩
        · have HC : Hid (Im.colB 4 (D : Int) cs = false) := Im.colB_no (fun g => hin (by
            have := g.2 rfl
            rw [Int.toNat_natCast, ← hQ] at this
            have h9 := HN.out
            omega))
          have h1 : ¬ ((1 : Int) ≤ (cn : Int) ∧ (cn : Int) ≤ (Q : Int)) := by omega
          clear hW hQ hin
          go_wp2_with fail
          go_region_held3 (fun w' => w'.cell? ⟨w.heap.size, 4, none⟩ = some (.slice ca cn cc) ∧ w'.cell? ⟨w.heap.size, 1, none⟩ = some (.int .i64 (D : Int))) (go_keep) (first | (go_at_call 25; refine (l1In_no _ _ _ _ h1).mono ?_; rintro e w' ⟨rfl, rfl⟩) | (go_at_call 27; refine (HP.out _).mono ?_; rintro e w' ⟨rfl, rfl⟩))
          all_goals
            go_wp2_with fail
            go_ret
            exact ⟨by rw [HC.out]; rfl, HB.out.drew⟩
      · have hk' : (k == 4) = false := by simpa using hk
        by_cases h0 : cn = 0
        · have HC : Hid (Im.colB k (D : Int) cs = true) := Im.colB_yes ⟨fun _ => by have := HN.out; omega, fun e => absurd e hk⟩
          have h0' : ((cn : Int) == 0) = true := by simp; omega
          clear hW
          go_wp2_with fail
          go_ret
          exact ⟨by rw [HC.out]; first | rfl | simp [h0'], (Below.refl _ _).alloc (Nat.le_refl _) _⟩
        · have HC : Hid (Im.colB k (D : Int) cs = false) := Im.colB_no (fun g => by have := g.1 hk; have := HN.out; omega)
          have h0' : ((cn : Int) == 0) = false := by simp; omega
          clear hW
          go_wp2_with fail
          go_ret
          exact ⟨by rw [HC.out]; first | rfl | simp [h0'], (Below.refl _ _).alloc (Nat.le_refl _) _⟩
end Go.Proofs.YtbfeonhokagdjaaDoor

/- ImageOk of the specification, for every picture. -/
namespace Go.Proofs.YtbfeonhokagdjaaDoor
open Go.RowKit

set_option maxHeartbeats 4000000 in
set_option maxRecDepth 20000 in
theorem specOk_e (k wd hi M : Int) (D P : Nat) (ca : Option Addr) (cn cc : Nat) (pa : Option Addr) (pn pc : Nat) (w : World) (cs ps : List Int) (hc : Ints w ca cs) (hcn : cs.length = cn) (hcl : cn ≤ 1048576) (hp : Ints w pa ps) (hpn : ps.length = pn)
    (hd : (D : Int) ∈ depL k) (hD : D ≤ 32) (hw : 1 ≤ wd ∧ wd ≤ 20) (hh : 1 ≤ hi ∧ hi ≤ 20) (hM : wd * hi = M) (hM2 : 0 ≤ M) (hM3 : M ≤ 400) (hpm : (pn : Int) = M) (hco : Im.ColOk k (D : Int) cs) (hP : P + 1 = 2 ^ D) :
    Calls Tryd.prog 10 #[.agg #[.int .i64 k, .int .i64 (D : Int), .int .i64 wd, .int .i64 hi, .slice ca cn cc, .slice pa pn pc]] w fun e w' => e = .returned (.bool (withinB (if k = 4 then (cn : Int) - 1 else (P : Int)) ps)) ∧ Below w.heap.size w w' := by
  have HDP : Hid (∀ w : World, Calls Tryd.prog 24 #[.int .i64 k, .int .i64 (D : Int)] w fun e w' => e = .returned (.bool true) ∧ w' = w) := by
    intro w; have := l8Depth_any k (D : Int) w; rw [depKB_yes hd] at this; exact this
  have HCO : Hid (∀ w' : World, Ints w' ca cs → Calls Tryd.prog 26 #[.agg #[.int .i64 k, .int .i64 (D : Int), .int .i64 wd, .int .i64 hi, .slice ca cn cc, .slice pa pn pc]] w' fun e w'' => e = .returned (.bool true) ∧ Below w'.heap.size w' w'') := by
    intro w' hI
    have := l8Colors_any k wd hi D ca cn cc pa pn pc cs w' hI hcn hcl hD
    rw [Im.colB_yes hco] at this; exact this
  have HPW : Hid (∀ w : World, Calls Tryd.prog 27 #[.int .i64 (D : Int)] w fun e w' => e = .returned (.int .i64 ((P : Int) + 1)) ∧ w' = w) := by
    intro w
    have := l1Pow_any D w (by omega)
    rw [← hP] at this; exact this
  have hPb : P + 1 ≤ 4294967296 := by rw [hP]; exact Nat.le_trans (Nat.pow_le_pow_right (by omega) hD) (by decide)
  obtain ⟨mo, hmo⟩ : ∃ mo : Int, mo = if k = 4 then (cn : Int) - 1 else (P : Int) := ⟨_, rfl⟩
  have HMO : Hid (mo = if k = 4 then (cn : Int) - 1 else (P : Int)) := hmo
  rw [← hmo]
  have HIC : Hid (∀ w', Below w.heap.size w w' → Ints w' ca cs) := fun w' b => hc.kept b
  have HIP : Hid (∀ w', Below w.heap.size w w' → Ints w' pa ps) := fun w' b => hp.kept b
  have HPN : Hid (ps.length = pn) := hpn
  have hzg : pn ≤ ps.length := by omega
  have hne : ((pn : Int) == M) = true := by simpa using hpm
  have HPM : Hid ((pn : Int) = M) := hpm
  clear hd hco hc hp hmo hP hcn hpn hpm
  have hB0 : Below w.heap.size w (w.alloc (.cells #[.int .i64 k, .int .i64 (D : Int), .int .i64 wd, .int .i64 hi, .slice ca cn cc, .slice pa pn pc] 27)) := (Below.refl _ _).alloc (Nat.le_refl _) _
  go_enter Tryd.func10, Tryd.ntmps10
  go_wp2_with fail
  refine (HDP.out _).mono ?_
  rintro e w1 ⟨rfl, hw1⟩
  subst hw1
  go_wp2_with fail
  refine (l1In_yes _ _ _ _ hw.1 hw.2).mono ?_
  rintro e w1 ⟨rfl, hw1⟩
  subst hw1
  go_wp2_with fail
  refine (l1In_yes _ _ _ _ hh.1 hh.2).mono ?_
  rintro e w1 ⟨rfl, hw1⟩
  subst hw1
  go_wp2_with fail
  refine (HCO.out _ (HIC.out _ hB0)).mono ?_
  rintro e w2 ⟨rfl, b2⟩
  have bel2 : Below w.heap.size w w2 := hB0.trans (b2.mono (by simp))
  obtain ⟨k0, k1, k2, k3, k4, k5⟩ := box_kept (box_new w _ _ _ _ _ _ 27) b2 (by simp)
  have HP2 : Hid (Ints w2 pa ps) := HIP.out _ bel2
  clear b2 hB0 HCO HIC HIP HDP
  go_wp2_with fail
  refine (HPW.out _).mono ?_
  rintro e w3 ⟨rfl, hw3⟩
  have hv3 := hw3.symm
  subst hv3
  by_cases hk : k = 4
  · have hmo : mo = (cn : Int) - 1 := by rw [HMO.out, if_pos hk]
    subst hk
    have HMM : Hid (mo = (cn : Int) - 1) := hmo
    clear hmo
    · go_wp2_with fail
      go_loop [4] (fun i => ∃ j : Nat, j ≤ pn ∧ i = .int .i64 j ∧ ∀ q (hq : q < ps.length), q < j → 0 ≤ ps[q] ∧ ps[q] ≤ mo) (fun i => pn - (intOf i).toNat)
      case atStart => exact ⟨0, Nat.zero_le _, rfl, fun j hj h0 => absurd h0 (by omega)⟩
      case round =>
        obtain ⟨j, hj, rfl, hall⟩ := hrel
        have HA : Hid (∀ q (hq : q < ps.length), q < j → 0 ≤ ps[q] ∧ ps[q] ≤ mo) := hall
        clear hall
        by_cases hlt : j < pn
        · have hjz : j < ps.length := by omega
          rcases HP2.out with h | ⟨b, off, rfl, hbB, hcc⟩
          · rw [h] at hjz; simp at hjz
          · have hck := hcc j hjz
            have hji : (j : Int) < (pn : Int) := by omega
            clear hcc
            obtain ⟨x, hx⟩ : ∃ x, x = ps[j] := ⟨_, rfl⟩
            rw [← hx] at hck
            have HX : Hid (x = ps[j]) := hx
            clear hx
            by_cases he : 0 ≤ x ∧ x ≤ mo
            · have HE : Hid (0 ≤ x ∧ x ≤ mo) := he
              clear he
              go_wp2_with fail
              refine (l1In_yes _ _ _ _ HE.out.1 (by have := HE.out.2; have := HMM.out; omega)).mono ?_
              rintro e w4 ⟨rfl, hw4⟩
              subst hw4
              go_wp2_with fail
              go_round
              case rel =>
                refine ⟨j + 1, by omega, by go_num, fun q hq h1 => ?_⟩
                by_cases e : q < j
                · exact HA.out q hq e
                · have : q = j := by omega
                  subst this
                  rw [← HX.out]; exact HE.out
              case measure => simp [intOf]; omega
            · have HC : Hid (withinB mo ps = false) := withinB_no (fun g => he (by have := g ps[j] (List.getElem_mem hjz); rw [← HX.out] at this; exact this))
              have HE : Hid (¬ (0 ≤ x ∧ x ≤ mo)) := he
              clear he
              go_wp2_with fail
              refine (l1In_no _ _ _ _ (by have := HE.out; have := HMM.out; omega)).mono ?_
              rintro e w4 ⟨rfl, hw4⟩
              have bel4 : Below w.heap.size w w4 := by rw [hw4]; exact bel2
              clear hw4
              go_wp2_with fail
              go_ret
              exact ⟨by rw [HC.out]; rfl, bel4⟩
        · have HC : Hid (withinB mo ps = true) := withinB_yes (fun z hz => by
            obtain ⟨q, hq, rfl⟩ := List.getElem_of_mem hz
            exact HA.out q hq (by have := HPN.out; omega))
          have hlt' : ¬ (j : Int) < (pn : Int) := by omega
          clear HA
          go_wp2_with fail
          go_ret
          exact ⟨by rw [HC.out]; rfl, bel2⟩
  · have hk' : (k == 4) = false := by simpa using hk
    have hmo : mo = (P : Int) := by rw [HMO.out, if_neg hk]
    have HMM : Hid (mo = (P : Int)) := hmo
    clear hmo
    · go_wp2_with fail
      go_loop [4] (fun i => ∃ j : Nat, j ≤ pn ∧ i = .int .i64 j ∧ ∀ q (hq : q < ps.length), q < j → 0 ≤ ps[q] ∧ ps[q] ≤ mo) (fun i => pn - (intOf i).toNat)
      case atStart => exact ⟨0, Nat.zero_le _, rfl, fun j hj h0 => absurd h0 (by omega)⟩
      case round =>
        obtain ⟨j, hj, rfl, hall⟩ := hrel
        have HA : Hid (∀ q (hq : q < ps.length), q < j → 0 ≤ ps[q] ∧ ps[q] ≤ mo) := hall
        clear hall
        by_cases hlt : j < pn
        · have hjz : j < ps.length := by omega
          rcases HP2.out with h | ⟨b, off, rfl, hbB, hcc⟩
          · rw [h] at hjz; simp at hjz
          · have hck := hcc j hjz
            have hji : (j : Int) < (pn : Int) := by omega
            clear hcc
            obtain ⟨x, hx⟩ : ∃ x, x = ps[j] := ⟨_, rfl⟩
            rw [← hx] at hck
            have HX : Hid (x = ps[j]) := hx
            clear hx
            by_cases he : 0 ≤ x ∧ x ≤ mo
            · have HE : Hid (0 ≤ x ∧ x ≤ mo) := he
              clear he
              go_wp2_with fail
              refine (l1In_yes _ _ _ _ HE.out.1 (by have := HE.out.2; have := HMM.out; omega)).mono ?_
              rintro e w4 ⟨rfl, hw4⟩
              subst hw4
              go_wp2_with fail
              go_round
              case rel =>
                refine ⟨j + 1, by omega, by go_num, fun q hq h1 => ?_⟩
                by_cases e : q < j
                · exact HA.out q hq e
                · have : q = j := by omega
                  subst this
                  rw [← HX.out]; exact HE.out
              case measure => simp [intOf]; omega
            · have HC : Hid (withinB mo ps = false) := withinB_no (fun g => he (by have := g ps[j] (List.getElem_mem hjz); rw [← HX.out] at this; exact this))
              have HE : Hid (¬ (0 ≤ x ∧ x ≤ mo)) := he
              clear he
              go_wp2_with fail
              refine (l1In_no _ _ _ _ (by have := HE.out; have := HMM.out; omega)).mono ?_
              rintro e w4 ⟨rfl, hw4⟩
              have bel4 : Below w.heap.size w w4 := by rw [hw4]; exact bel2
              clear hw4
              go_wp2_with fail
              go_ret
              exact ⟨by rw [HC.out]; rfl, bel4⟩
        · have HC : Hid (withinB mo ps = true) := withinB_yes (fun z hz => by
            obtain ⟨q, hq, rfl⟩ := List.getElem_of_mem hz
            exact HA.out q hq (by have := HPN.out; omega))
          have hlt' : ¬ (j : Int) < (pn : Int) := by omega
          clear HA
          go_wp2_with fail
          go_ret
          exact ⟨by rw [HC.out]; rfl, bel2⟩

set_option maxHeartbeats 1000000 in
theorem specOk_a (k d wd hi : Int) (ca : Option Addr) (cn cc : Nat) (pa : Option Addr) (pn pc : Nat) (w : World) (hd : d ∉ depL k) :
    Calls Tryd.prog 10 #[.agg #[.int .i64 k, .int .i64 d, .int .i64 wd, .int .i64 hi, .slice ca cn cc, .slice pa pn pc]] w fun e w' => e = .returned (.bool false) ∧ Below w.heap.size w w' := by
  have HDP : Hid (∀ w : World, Calls Tryd.prog 24 #[.int .i64 k, .int .i64 d] w fun e w' => e = .returned (.bool false) ∧ w' = w) := by
    intro w; have := l8Depth_any k d w; rw [depKB_no hd] at this; exact this
  clear hd
  go_enter Tryd.func10, Tryd.ntmps10
  go_wp2_with fail
  refine (HDP.out _).mono ?_
  rintro e w1 ⟨rfl, hw1⟩
  subst hw1
  go_wp2_with fail
  go_ret
  exact ⟨rfl, (Below.refl _ _).alloc (Nat.le_refl _) _⟩

set_option maxHeartbeats 1000000 in
theorem specOk_b (k d wd hi : Int) (ca : Option Addr) (cn cc : Nat) (pa : Option Addr) (pn pc : Nat) (w : World) (hd : d ∈ depL k) (hw : ¬ (1 ≤ wd ∧ wd ≤ 20)) :
    Calls Tryd.prog 10 #[.agg #[.int .i64 k, .int .i64 d, .int .i64 wd, .int .i64 hi, .slice ca cn cc, .slice pa pn pc]] w fun e w' => e = .returned (.bool false) ∧ Below w.heap.size w w' := by
  have HDP : Hid (∀ w : World, Calls Tryd.prog 24 #[.int .i64 k, .int .i64 d] w fun e w' => e = .returned (.bool true) ∧ w' = w) := by
    intro w; have := l8Depth_any k d w; rw [depKB_yes hd] at this; exact this
  clear hd
  go_enter Tryd.func10, Tryd.ntmps10
  go_wp2_with fail
  refine (HDP.out _).mono ?_
  rintro e w1 ⟨rfl, hw1⟩
  subst hw1
  go_wp2_with fail
  refine (l1In_no _ _ _ _ hw).mono ?_
  rintro e w1 ⟨rfl, hw1⟩
  subst hw1
  go_wp2_with fail
  go_ret
  exact ⟨rfl, (Below.refl _ _).alloc (Nat.le_refl _) _⟩

set_option maxHeartbeats 1000000 in
theorem specOk_c (k d wd hi : Int) (ca : Option Addr) (cn cc : Nat) (pa : Option Addr) (pn pc : Nat) (w : World) (hd : d ∈ depL k) (hw : 1 ≤ wd ∧ wd ≤ 20) (hh : ¬ (1 ≤ hi ∧ hi ≤ 20)) :
    Calls Tryd.prog 10 #[.agg #[.int .i64 k, .int .i64 d, .int .i64 wd, .int .i64 hi, .slice ca cn cc, .slice pa pn pc]] w fun e w' => e = .returned (.bool false) ∧ Below w.heap.size w w' := by
  have HDP : Hid (∀ w : World, Calls Tryd.prog 24 #[.int .i64 k, .int .i64 d] w fun e w' => e = .returned (.bool true) ∧ w' = w) := by
    intro w; have := l8Depth_any k d w; rw [depKB_yes hd] at this; exact this
  clear hd
  go_enter Tryd.func10, Tryd.ntmps10
  go_wp2_with fail
  refine (HDP.out _).mono ?_
  rintro e w1 ⟨rfl, hw1⟩
  subst hw1
  go_wp2_with fail
  refine (l1In_yes _ _ _ _ hw.1 hw.2).mono ?_
  rintro e w1 ⟨rfl, hw1⟩
  subst hw1
  go_wp2_with fail
  refine (l1In_no _ _ _ _ hh).mono ?_
  rintro e w1 ⟨rfl, hw1⟩
  subst hw1
  go_wp2_with fail
  go_ret
  exact ⟨rfl, (Below.refl _ _).alloc (Nat.le_refl _) _⟩

set_option maxHeartbeats 1000000 in
theorem specOk_m (k d wd hi : Int) (ca : Option Addr) (cn cc : Nat) (pa : Option Addr) (pn pc : Nat) (w : World) (M : Int) (hd : d ∈ depL k) (hw : 1 ≤ wd ∧ wd ≤ 20) (hh : 1 ≤ hi ∧ hi ≤ 20) (hM : wd * hi = M) (hM2 : 0 ≤ M) (hM3 : M ≤ 400) (hpm : ¬ (pn : Int) = M) :
    Calls Tryd.prog 10 #[.agg #[.int .i64 k, .int .i64 d, .int .i64 wd, .int .i64 hi, .slice ca cn cc, .slice pa pn pc]] w fun e w' => e = .returned (.bool false) ∧ Below w.heap.size w w' := by
  have HDP : Hid (∀ w : World, Calls Tryd.prog 24 #[.int .i64 k, .int .i64 d] w fun e w' => e = .returned (.bool true) ∧ w' = w) := by
    intro w; have := l8Depth_any k d w; rw [depKB_yes hd] at this; exact this
  clear hd
  have hne : ((pn : Int) == M) = false := by simpa using hpm
  go_enter Tryd.func10, Tryd.ntmps10
  go_wp2_with fail
  refine (HDP.out _).mono ?_
  rintro e w1 ⟨rfl, hw1⟩
  subst hw1
  go_wp2_with fail
  refine (l1In_yes _ _ _ _ hw.1 hw.2).mono ?_
  rintro e w1 ⟨rfl, hw1⟩
  subst hw1
  go_wp2_with fail
  refine (l1In_yes _ _ _ _ hh.1 hh.2).mono ?_
  rintro e w1 ⟨rfl, hw1⟩
  subst hw1
  go_wp2_with fail
  go_ret
  exact ⟨rfl, (Below.refl _ _).alloc (Nat.le_refl _) _⟩

set_option maxHeartbeats 1000000 in
theorem specOk_d (k d wd hi : Int) (ca : Option Addr) (cn cc : Nat) (pa : Option Addr) (pn pc : Nat) (w : World) (M : Int) (cs : List Int) (hc : Ints w ca cs) (hcn : cs.length = cn) (hcl : cn ≤ 1048576) (hd : d ∈ depL k) (hw : 1 ≤ wd ∧ wd ≤ 20) (hh : 1 ≤ hi ∧ hi ≤ 20) (hM : wd * hi = M) (hM2 : 0 ≤ M) (hM3 : M ≤ 400) (hpm : (pn : Int) = M) (hco : ¬ Im.ColOk k d cs) :
    Calls Tryd.prog 10 #[.agg #[.int .i64 k, .int .i64 d, .int .i64 wd, .int .i64 hi, .slice ca cn cc, .slice pa pn pc]] w fun e w' => e = .returned (.bool false) ∧ Below w.heap.size w w' := by
  have HCO : Hid (∀ w' : World, Ints w' ca cs → Calls Tryd.prog 26 #[.agg #[.int .i64 k, .int .i64 d, .int .i64 wd, .int .i64 hi, .slice ca cn cc, .slice pa pn pc]] w' fun e w'' => e = .returned (.bool false) ∧ Below w'.heap.size w' w'') := by
    intro w' hI
    obtain ⟨D, rfl, hD, _⟩ := Im.dep_all hd
    have := l8Colors_any k wd hi D ca cn cc pa pn pc cs w' hI hcn hcl hD
    rw [Im.colB_no hco] at this; exact this
  have HDP : Hid (∀ w : World, Calls Tryd.prog 24 #[.int .i64 k, .int .i64 d] w fun e w' => e = .returned (.bool true) ∧ w' = w) := by
    intro w; have := l8Depth_any k d w; rw [depKB_yes hd] at this; exact this
  clear hd
  have HIC : Hid (∀ w', Below w.heap.size w w' → Ints w' ca cs) := fun w' b => hc.kept b
  have hne : ((pn : Int) == M) = true := by simpa using hpm
  have hB0 : Below w.heap.size w (w.alloc (.cells #[.int .i64 k, .int .i64 d, .int .i64 wd, .int .i64 hi, .slice ca cn cc, .slice pa pn pc] 27)) := (Below.refl _ _).alloc (Nat.le_refl _) _
  clear hc hcn hco
  go_enter Tryd.func10, Tryd.ntmps10
  go_wp2_with fail
  refine (HDP.out _).mono ?_
  rintro e w1 ⟨rfl, hw1⟩
  subst hw1
  go_wp2_with fail
  refine (l1In_yes _ _ _ _ hw.1 hw.2).mono ?_
  rintro e w1 ⟨rfl, hw1⟩
  subst hw1
  go_wp2_with fail
  refine (l1In_yes _ _ _ _ hh.1 hh.2).mono ?_
  rintro e w1 ⟨rfl, hw1⟩
  subst hw1
  go_wp2_with fail
  refine (HCO.out _ (HIC.out _ hB0)).mono ?_
  rintro e w2 ⟨rfl, b2⟩
  have bel2 : Below w.heap.size w w2 := hB0.trans (b2.mono (by simp))
  clear b2 hB0
  go_wp2_with fail
  go_ret
  exact ⟨rfl, bel2⟩

theorem spec_imageOk (k d wd hi : Int) (ca : Option Addr) (cn cc : Nat) (pa : Option Addr) (pn pc : Nat) (w : World) (cs ps : List Int) (hc : Ints w ca cs) (hcn : cs.length = cn) (hcl : cn ≤ 1048576) (hp : Ints w pa ps) (hpn : ps.length = pn) :
    Calls Tryd.prog 10 #[.agg #[.int .i64 k, .int .i64 d, .int .i64 wd, .int .i64 hi, .slice ca cn cc, .slice pa pn pc]] w fun e w' => e = .returned (.bool (Im.okB k d wd hi cs ps)) ∧ Below w.heap.size w w' := by
  by_cases hd : d ∈ depL k
  · by_cases hw : 1 ≤ wd ∧ wd ≤ 20
    · by_cases hh : 1 ≤ hi ∧ hi ≤ 20
      · obtain ⟨M, hM⟩ : ∃ M, wd * hi = M := ⟨_, rfl⟩
        have hM1 : 0 ≤ M ∧ M ≤ 400 := by
          obtain ⟨x, hx⟩ := Int.eq_ofNat_of_zero_le (show 0 ≤ wd by omega)
          obtain ⟨y, hy⟩ := Int.eq_ofNat_of_zero_le (show 0 ≤ hi by omega)
          have h1 : x * y ≤ 20 * 20 := Nat.mul_le_mul (by omega) (by omega)
          have h2 : (x : Int) * (y : Int) = ((x * y : Nat) : Int) := by simp
          rw [← hM, hx, hy, h2]
          omega
        by_cases hpm : (pn : Int) = M
        · by_cases hco : Im.ColOk k d cs
          · obtain ⟨D, rfl, hD, _⟩ := Im.dep_all hd
            obtain ⟨P, hP⟩ : ∃ P : Nat, P + 1 = 2 ^ D := ⟨2 ^ D - 1, by have : 0 < 2 ^ D := Nat.pow_pos (by omega); omega⟩
            have hm : Im.most k (D : Int) cs = if k = 4 then (cn : Int) - 1 else (P : Int) := by
              unfold Im.most; rw [Int.toNat_natCast, hcn, ← hP]; split <;> simp
            have he : Im.okB k (D : Int) wd hi cs ps = withinB (if k = 4 then (cn : Int) - 1 else (P : Int)) ps := by
              by_cases g : Within (if k = 4 then (cn : Int) - 1 else (P : Int)) ps
              · rw [withinB_yes g]; exact Im.okB_yes ⟨hd, hw, hh, hco, by rw [hpn, hM]; exact hpm, by rw [hm]; exact g⟩
              · rw [withinB_no g]; exact Im.okB_no (fun q => g (by have := q.2.2.2.2.2; rw [hm] at this; exact this))
            rw [he]
            exact specOk_e k wd hi M D P ca cn cc pa pn pc w cs ps hc hcn hcl hp hpn hd hD hw hh hM hM1.1 hM1.2 hpm hco hP
          · rw [Im.okB_no (fun g => hco g.2.2.2.1)]
            exact specOk_d k d wd hi ca cn cc pa pn pc w M cs hc hcn hcl hd hw hh hM hM1.1 hM1.2 hpm hco
        · rw [Im.okB_no (fun g => hpm (by have := g.2.2.2.2.1; rw [hpn, hM] at this; exact this))]
          exact specOk_m k d wd hi ca cn cc pa pn pc w M hd hw hh hM hM1.1 hM1.2 hpm
      · rw [Im.okB_no (fun g => hh g.2.2.1)]
        exact specOk_c k d wd hi ca cn cc pa pn pc w hd hw hh
    · rw [Im.okB_no (fun g => hw g.2.1)]
      exact specOk_b k d wd hi ca cn cc pa pn pc w hd hw
  · rw [Im.okB_no (fun g => hd g.1)]
    exact specOk_a k d wd hi ca cn cc pa pn pc w hd
end Go.Proofs.YtbfeonhokagdjaaDoor

/- A point of a picture: whether it is there, and which it is. -/
namespace Go.Proofs.YtbfeonhokagdjaaDoor
open Go.RowKit

set_option maxHeartbeats 400000 in
theorem size_any (k d wd hi : Int) (ca : Option Addr) (cn cc : Nat) (pa : Option Addr) (pn pc : Nat) (w : World) :
    Calls Tryd.prog 90 #[.agg #[.int .i64 k, .int .i64 d, .int .i64 wd, .int .i64 hi, .slice ca cn cc, .slice pa pn pc]] w fun e w' => e = .returned (.tuple #[.int .i64 wd, .int .i64 hi]) ∧ Below w.heap.size w w' := by
  go_enter Tryd.func90, Tryd.ntmps90
  go_wp2_with fail
  go_quiet (fail)
  go_wp2_with fail
  go_ret2
  exact ⟨rfl, below_drewN ((Below.refl _ _).alloc (Nat.le_refl _) _) _⟩

/-- the number of a point in its picture -/
structure Spot (wd hi x y : Int) (pn : Nat) (I X Y Wd : Nat) : Prop where
  x : x = (X : Int)
  y : y = (Y : Int)
  wd : wd = (Wd : Int)
  i : I = Y * Wd + X
  lt : I < pn
  small : I ≤ 400 ∧ X ≤ 20 ∧ Y ≤ 20 ∧ Wd ≤ 20 ∧ Y * Wd ≤ 400

set_option maxHeartbeats 1000000 in
theorem at_any (k d wd hi x y : Int) (ca : Option Addr) (cn cc : Nat) (pa : Option Addr) (pn pc : Nat) (ps : List Int) (w : World) (I X Y Wd : Nat) (h : Spot wd hi x y pn I X Y Wd) (hp : Ints w pa ps) (hpn : ps.length = pn) :
    Calls Tryd.prog 89 #[.agg #[.int .i64 k, .int .i64 d, .int .i64 wd, .int .i64 hi, .slice ca cn cc, .slice pa pn pc], .int .i64 x, .int .i64 y] w fun e w' => e = .returned (.int .i64 (ps.getD I 0)) ∧ Below w.heap.size w w' := by
  obtain ⟨rfl, rfl, rfl, hi', hlt, hs1, hs2, hs3, hs4, hs5⟩ := h
  have bel : Below w.heap.size w (w.alloc (.cells #[.int .i64 k, .int .i64 d, .int .i64 (Wd : Int), .int .i64 hi, .slice ca cn cc, .slice pa pn pc] 62)) := (Below.refl _ _).alloc (Nat.le_refl _) _
  have hIl : I < ps.length := by omega
  obtain ⟨v, hv⟩ : ∃ v, v = ps.getD I 0 := ⟨_, rfl⟩
  rw [← hv]
  rcases hp.kept bel with g | ⟨b, off, rfl, hbB, hc⟩
  · rw [g] at hIl; simp at hIl
  · have hck := hc I hIl
    have hv' : ps[I] = v := by rw [hv, List.getD_eq_getElem?_getD, List.getElem?_eq_getElem hIl]; rfl
    rw [hv'] at hck
    obtain ⟨P, hP⟩ : ∃ P, P = Y * Wd := ⟨_, rfl⟩
    have hPi : (Y : Int) * (Wd : Int) = (P : Int) := by rw [hP]; simp
    have hIi : (P : Int) + (X : Int) = (I : Int) := by omega
    have hPb : P ≤ 400 := by omega
    have hII : (I : Int) < (pn : Int) := by omega
    clear hc hv hv' hi' hP hp hs5
    go_enter Tryd.func89, Tryd.ntmps89
    go_wp2_with fail
    go_ret
    exact ⟨rfl, bel⟩
end Go.Proofs.YtbfeonhokagdjaaDoor

/- A picture seen by its colours. -/
namespace Go.Proofs.YtbfeonhokagdjaaDoor
open Go.RowKit

theorem spot_in {Wd Hi pn x y : Nat} (hx : x < Wd) (hy : y < Hi) (hW : Wd ≤ 20) (hH : Hi ≤ 20) (hm : pn = Wd * Hi) : Spot (Wd : Int) (Hi : Int) (x : Int) (y : Int) pn (y * Wd + x) x y Wd := by
  have h1 : (y + 1) * Wd ≤ Hi * Wd := Nat.mul_le_mul_right _ (by omega)
  rw [Nat.add_mul, Nat.one_mul, Nat.mul_comm Hi Wd] at h1
  have h2 : Wd * Hi ≤ 20 * 20 := Nat.mul_le_mul (by omega) (by omega)
  exact ⟨rfl, rfl, rfl, rfl, by omega, by omega⟩

end Go.Proofs.YtbfeonhokagdjaaDoor

/- What a picture as it is answers, for views over it: for the walks of the program. -/
namespace Go.Proofs.YtbfeonhokagdjaaDoor
open Go.RowKit

theorem Pair2.lower {w : World} {lo lo' : Nat} {x y : Option Addr} {cs ps : List Int} (h : Pair2 w lo x cs y ps) (hl : lo' ≤ lo) : Pair2 w lo' x cs y ps := by
  obtain ⟨m, h1, h2, h3, h4⟩ := h
  exact ⟨m, Nat.le_trans hl h1, h2.lower hl, h3, h4⟩
end Go.Proofs.YtbfeonhokagdjaaDoor

/- A picture as it is: its points, seen. -/
namespace Go.Proofs.YtbfeonhokagdjaaDoor
open Go.RowKit

/-- a picture's point -/
def pixF (Wd : Nat) (ps : List Int) : Nat → Nat → Int := fun x y => ps.getD (y * Wd + x) 0
theorem plain_seen (k d : Int) (Wd Hi : Nat) (ca : Option Addr) (cn cc : Nat) (pa : Option Addr) (pn pc : Nat) (ps : List Int) (w : World) (hp : Ints w pa ps) (hpn : ps.length = pn) (hW : Wd ≤ 20) (hH : Hi ≤ 20) (hm : pn = Wd * Hi) :
    Seen 62 (.agg #[.int .i64 k, .int .i64 d, .int .i64 (Wd : Int), .int .i64 (Hi : Int), .slice ca cn cc, .slice pa pn pc]) 90 (.agg #[.int .i64 k, .int .i64 d, .int .i64 (Wd : Int), .int .i64 (Hi : Int), .slice ca cn cc, .slice pa pn pc]) 89 (.agg #[.int .i64 k, .int .i64 d, .int .i64 (Wd : Int), .int .i64 (Hi : Int), .slice ca cn cc, .slice pa pn pc]) Wd Hi (pixF Wd ps) w.heap.size w where
  ms := fun w => by kernel_rfl
  ns := fun w => by kernel_rfl
  ma := fun w => by kernel_rfl
  na := fun w => by kernel_rfl
  es := enters_of Tryd.func90 (by kernel_rfl) rfl
  ea := enters_of Tryd.func89 (by kernel_rfl) rfl
  size := fun w' _ => size_any k d (Wd : Int) (Hi : Int) ca cn cc pa pn pc w'
  at' := fun w' x y hx hy b => at_any k d (Wd : Int) (Hi : Int) (x : Int) (y : Int) ca cn cc pa pn pc ps w' _ _ _ _ (spot_in hx hy hW hH hm) (hp.kept b) hpn
end Go.Proofs.YtbfeonhokagdjaaDoor

/- A picture of black and white as a PNM has it: what its view answers. -/
namespace Go.Proofs.YtbfeonhokagdjaaDoor
open Go.RowKit

set_option maxHeartbeats 2000000 in
set_option maxRecDepth 20000 in
theorem changed_pnm (k d wd hi x y v c : Int) (ca : Option Addr) (cn cc : Nat) (pa : Option Addr) (pn pc : Nat) (w : World)
    (hat : ∀ w', Below w.heap.size w w' → Calls Tryd.prog 89 #[.agg #[.int .i64 k, .int .i64 d, .int .i64 wd, .int .i64 hi, .slice ca cn cc, .slice pa pn pc], .int .i64 x, .int .i64 y] w' fun e w'' => e = .returned (.int .i64 v) ∧ Below w'.heap.size w' w'')
    (hfn : ∀ w', Below w.heap.size w w' → Calls Tryd.prog 38 #[.int .i64 v] w' fun e w'' => e = .returned (.int .i64 c) ∧ Below w'.heap.size w' w'') :
    Calls Tryd.prog 91 #[.agg #[.iface 62 (.agg #[.int .i64 k, .int .i64 d, .int .i64 wd, .int .i64 hi, .slice ca cn cc, .slice pa pn pc]), .func (.func 38) #[] #[]], .int .i64 x, .int .i64 y] w fun e w' => e = .returned (.int .i64 c) ∧ Below w.heap.size w w' := by
  have HAT : Hid (∀ w', Below w.heap.size w w' → Calls Tryd.prog 89 #[.agg #[.int .i64 k, .int .i64 d, .int .i64 wd, .int .i64 hi, .slice ca cn cc, .slice pa pn pc], .int .i64 x, .int .i64 y] w' fun e w'' => e = .returned (.int .i64 v) ∧ Below w'.heap.size w' w'') := hat
  have HFN : Hid (∀ w', Below w.heap.size w w' → Calls Tryd.prog 38 #[.int .i64 v] w' fun e w'' => e = .returned (.int .i64 c) ∧ Below w'.heap.size w' w'') := hfn
  have m1 : ∀ w, (method 217 62 (.agg #[.int .i64 k, .int .i64 d, .int .i64 wd, .int .i64 hi, .slice ca cn cc, .slice pa pn pc]) "loop.example/intarsia/impl.at").run Tryd.prog w = .ok (89, .agg #[.int .i64 k, .int .i64 d, .int .i64 wd, .int .i64 hi, .slice ca cn cc, .slice pa pn pc]) w := fun w => by kernel_rfl
  have m2 : ∀ w, (nilAhead 217 62 (.agg #[.int .i64 k, .int .i64 d, .int .i64 wd, .int .i64 hi, .slice ca cn cc, .slice pa pn pc]) "loop.example/intarsia/impl.at").run Tryd.prog w = .ok (some false) w := fun w => by kernel_rfl
  clear hat hfn
  have hB0 : Below w.heap.size w (w.alloc (.cells #[.iface 62 (.agg #[.int .i64 k, .int .i64 d, .int .i64 wd, .int .i64 hi, .slice ca cn cc, .slice pa pn pc]), .func (.func 38) #[] #[]] 64)) := (Below.refl _ _).alloc (Nat.le_refl _) _
  go_enter Tryd.func91, Tryd.ntmps91
  go_wp2_with fail
  go_region_held3 (fun w' => w'.cell? ⟨w.heap.size, 0, none⟩ = some (.iface 62 (.agg #[.int .i64 k, .int .i64 d, .int .i64 wd, .int .i64 hi, .slice ca cn cc, .slice pa pn pc])) ∧ w'.cell? ⟨w.heap.size, 1, none⟩ = some (.func (.func 38) #[] #[])) (go_keep) (first | (go_at_call 89; refine (HAT.out _ hB0.drew).mono ?_; rintro e w2 ⟨rfl, b2⟩; have bw2 : Below w.heap.size w w2 := hB0.trans ((box_drew b2).mono (by simp)); have hlt : w.heap.size < (w.alloc (.cells #[.iface 62 (.agg #[.int .i64 k, .int .i64 d, .int .i64 wd, .int .i64 hi, .slice ca cn cc, .slice pa pn pc]), .func (.func 38) #[] #[]] 64)).heap.size := (by simp); have c0 := ((box_drew b2).cell (p := ⟨w.heap.size, 0, none⟩) hlt).trans (show (w.alloc (.cells #[.iface 62 (.agg #[.int .i64 k, .int .i64 d, .int .i64 wd, .int .i64 hi, .slice ca cn cc, .slice pa pn pc]), .func (.func 38) #[] #[]] 64)).cell? ⟨w.heap.size, 0, none⟩ = some (.iface 62 (.agg #[.int .i64 k, .int .i64 d, .int .i64 wd, .int .i64 hi, .slice ca cn cc, .slice pa pn pc])) by rw [World.cell?_alloc_at _ _ _ _ rfl]; rfl); have c1 := ((box_drew b2).cell (p := ⟨w.heap.size, 1, none⟩) hlt).trans (show (w.alloc (.cells #[.iface 62 (.agg #[.int .i64 k, .int .i64 d, .int .i64 wd, .int .i64 hi, .slice ca cn cc, .slice pa pn pc]), .func (.func 38) #[] #[]] 64)).cell? ⟨w.heap.size, 1, none⟩ = some (.func (.func 38) #[] #[]) by rw [World.cell?_alloc_at _ _ _ _ rfl]; rfl); have hlt2 : w.heap.size < w2.heap.size := Nat.lt_of_lt_of_le hlt b2.size) | (go_at_call 38; refine (HFN.out _ bw2).mono ?_; rintro e w3 ⟨rfl, b3⟩; have e0 := (b3.cell (p := ⟨w.heap.size, 0, none⟩) hlt2).trans c0; have e1 := (b3.cell (p := ⟨w.heap.size, 1, none⟩) hlt2).trans c1))
  all_goals
    have bel3 : Below w.heap.size w w3 := bw2.trans (b3.mono bw2.size)
    clear b3 bw2 b2
    go_wp2_with fail
    go_ret
    exact ⟨rfl, bel3⟩


theorem pnm_ms (Wd Hi : Nat) (ca : Option Addr) (cn cc : Nat) (pa : Option Addr) (pn pc : Nat) (w : World) : (method 217 64 (.agg #[.iface 62 (.agg #[.int .i64 1, .int .i64 1, .int .i64 (Wd : Int), .int .i64 (Hi : Int), .slice ca cn cc, .slice pa pn pc]), .func (.func 38) #[] #[]]) "loop.example/intarsia/impl.size").run Tryd.prog w = .ok (90, .agg #[.int .i64 1, .int .i64 1, .int .i64 (Wd : Int), .int .i64 (Hi : Int), .slice ca cn cc, .slice pa pn pc]) w := by kernel_rfl
theorem pnm_ns (Wd Hi : Nat) (ca : Option Addr) (cn cc : Nat) (pa : Option Addr) (pn pc : Nat) (w : World) : (nilAhead 217 64 (.agg #[.iface 62 (.agg #[.int .i64 1, .int .i64 1, .int .i64 (Wd : Int), .int .i64 (Hi : Int), .slice ca cn cc, .slice pa pn pc]), .func (.func 38) #[] #[]]) "loop.example/intarsia/impl.size").run Tryd.prog w = .ok (some false) w := by kernel_rfl
theorem pnm_ma (Wd Hi : Nat) (ca : Option Addr) (cn cc : Nat) (pa : Option Addr) (pn pc : Nat) (w : World) : (method 217 64 (.agg #[.iface 62 (.agg #[.int .i64 1, .int .i64 1, .int .i64 (Wd : Int), .int .i64 (Hi : Int), .slice ca cn cc, .slice pa pn pc]), .func (.func 38) #[] #[]]) "loop.example/intarsia/impl.at").run Tryd.prog w = .ok (91, (.agg #[.iface 62 (.agg #[.int .i64 1, .int .i64 1, .int .i64 (Wd : Int), .int .i64 (Hi : Int), .slice ca cn cc, .slice pa pn pc]), .func (.func 38) #[] #[]])) w := by kernel_rfl
theorem pnm_na (Wd Hi : Nat) (ca : Option Addr) (cn cc : Nat) (pa : Option Addr) (pn pc : Nat) (w : World) : (nilAhead 217 64 (.agg #[.iface 62 (.agg #[.int .i64 1, .int .i64 1, .int .i64 (Wd : Int), .int .i64 (Hi : Int), .slice ca cn cc, .slice pa pn pc]), .func (.func 38) #[] #[]]) "loop.example/intarsia/impl.at").run Tryd.prog w = .ok (some false) w := by kernel_rfl
theorem pnm_seen (Wd Hi : Nat) (ca : Option Addr) (cn cc : Nat) (pa : Option Addr) (pn pc : Nat) (ps : List Int) (w : World) (hp : Ints w pa ps) (hpn : ps.length = pn) (hW : Wd ≤ 20) (hH : Hi ≤ 20) (hm : pn = Wd * Hi) (hb : ∀ v ∈ ps, 0 ≤ v ∧ v ≤ 1) :
    Seen 64 (.agg #[.iface 62 (.agg #[.int .i64 1, .int .i64 1, .int .i64 (Wd : Int), .int .i64 (Hi : Int), .slice ca cn cc, .slice pa pn pc]), .func (.func 38) #[] #[]]) 90 (.agg #[.int .i64 1, .int .i64 1, .int .i64 (Wd : Int), .int .i64 (Hi : Int), .slice ca cn cc, .slice pa pn pc]) 91 (.agg #[.iface 62 (.agg #[.int .i64 1, .int .i64 1, .int .i64 (Wd : Int), .int .i64 (Hi : Int), .slice ca cn cc, .slice pa pn pc]), .func (.func 38) #[] #[]]) Wd Hi (fun x y => 1 - pixF Wd ps x y) w.heap.size w where
  ms := pnm_ms Wd Hi ca cn cc pa pn pc
  ns := pnm_ns Wd Hi ca cn cc pa pn pc
  ma := pnm_ma Wd Hi ca cn cc pa pn pc
  na := pnm_na Wd Hi ca cn cc pa pn pc
  es := enters_of Tryd.func90 (by kernel_rfl) rfl
  ea := enters_of Tryd.func91 (by kernel_rfl) rfl
  size := fun w' _ => size_any 1 1 (Wd : Int) (Hi : Int) ca cn cc pa pn pc w'
  at' := fun w' X Y hx hy b => by
    have hs := spot_in hx hy hW hH hm
    have hjl : Y * Wd + X < ps.length := by rw [hpn]; exact hs.lt
    have hin : pixF Wd ps X Y ∈ ps := by unfold pixF; rw [List.getD_eq_getElem?_getD, List.getElem?_eq_getElem hjl]; exact List.getElem_mem hjl
    obtain ⟨h0, h1⟩ := hb _ hin
    obtain ⟨p, hpe⟩ := Int.eq_ofNat_of_zero_le h0
    have e : 1 - pixF Wd ps X Y = 1 - (p : Int) := by rw [hpe]
    show Calls _ _ _ _ fun e w'' => e = .returned (.int .i64 (1 - pixF Wd ps X Y)) ∧ _
    rw [e]
    refine changed_pnm 1 1 (Wd : Int) (Hi : Int) (X : Int) (Y : Int) (p : Int) _ ca cn cc pa pn pc w' (fun w'' b' => ?_) (fun w'' _ => (pnmTurn_any p (by omega) w'').mono (fun e w3 h => ⟨h.1, by rw [h.2]; exact Below.refl _ _⟩))
    have := at_any 1 1 (Wd : Int) (Hi : Int) (X : Int) (Y : Int) ca cn cc pa pn pc ps w'' _ _ _ _ hs ((hp.kept b).kept b') hpn
    rw [show ps.getD (Y * Wd + X) 0 = (p : Int) from hpe] at this
    exact this
end Go.Proofs.YtbfeonhokagdjaaDoor
