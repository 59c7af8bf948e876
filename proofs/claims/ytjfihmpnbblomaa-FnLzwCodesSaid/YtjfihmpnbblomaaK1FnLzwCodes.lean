/- Texts laid together: LzOk, LzFine, LzAns, LzWorkB, LzNew, LzReadB, LzTopB, DrawLzw, DrawLzwPut, LzWorkI, LzReadI, LzTopI, OfList, LimWalks, ConvWalks, BendWalks, BgMath2, LzOne, LzAll, AppInts, LzSpecTop. -/
import Derived.Test.YtjfihmpnbblomaaLzSmall
import Derived.RangeFuncBox
import Derived.Test.YtjfihmpnbblomaaLzKeep
import Derived.Test.YtjfihmpnbblomaaLzRdr
import Derived.Test.YtjfihmpnbblomaaLzStart
import Derived.Laws.MakeOwn
import Derived.Deep.RegionHeld3
import Derived.Shelf.Abstract
import Derived.Test.YtjfihmpnbblomaaDrawWalks
import Derived.Test.YtjfihmpnbblomaaOwnText
import Derived.Test.YtjfihmpnbblomaaEachReg
import Derived.Deep.Cut
import Derived.Deep.CutRange
import Derived.Test.YtjfihmpnbblomaaTextWalks
import Derived.Test.YtjfihmpnbblomaaStrWalks
import Derived.Laws.IdiomStrings
import Derived.Below
import Derived.Test.YtjfihmpnbblomaaOnlyB
import Derived.Test.YtjfihmpnbblomaaBgMath
import Derived.Test.YtjfihmpnbblomaaLzStep2
import Derived.Test.YtjfihmpnbblomaaLzStep3
import Derived.Test.YtjfihmpnbblomaaLzStep4
import Derived.Test.YtjfihmpnbblomaaLzStep5
import Derived.Test.YtjfihmpnbblomaaIntOwn
import Derived.Test.YtjfihmpnbblomaaMarkWalks
/- Whether so many bits can be packed, by the specification. -/
namespace Go.Proofs.Ytjfihmpnbblomaa
open Go.RowKit

def inB (n lo hi : Int) : Bool := decide (lo ≤ n ∧ n ≤ hi)
theorem l6In_any (n lo hi : Int) (w : World) : Calls Try.prog 32 #[.int .i64 n, .int .i64 lo, .int .i64 hi] w fun e w' => e = .returned (.bool (inB n lo hi)) ∧ w' = w := by
  by_cases h : lo ≤ n ∧ n ≤ hi
  · rw [show inB n lo hi = true from decide_eq_true h]
    exact l1In_yes n lo hi w h.1 h.2
  · rw [show inB n lo hi = false from decide_eq_false h]
    exact l1In_no n lo hi w h

set_option maxHeartbeats 400000 in
theorem l6Ok_any (b : Int) (wide : Bool) (w : World) : Calls Try.prog 31 #[.int .i64 b, .bool wide] w fun e w' => e = .returned (.bool (Lz.ok b wide)) ∧ w' = w := by
  have HIN : Hid (∀ w, Calls Try.prog 32 #[.int .i64 b, .int .i64 2, .int .i64 8] w fun e w' => e = .returned (.bool (inB b 2 8)) ∧ w' = w) := fun w => l6In_any b 2 8 w
  cases wide with
  | true =>
    by_cases h8 : b = 8
    · subst h8
      rw [show inB 8 2 8 = true from rfl] at HIN
      go_enter Try.func31, Try.ntmps31
      go_wp2_with fail
      refine (HIN.out _).mono ?_
      rintro e w1 ⟨rfl, hw1⟩
      subst hw1
      go_wp2_with fail
      go_ret
      exact ⟨rfl, rfl⟩
    · have hr : Lz.ok b true = false := by simp [Lz.ok, h8]
      rw [hr]
      have hb8 : (b == 8) = false := by simpa using h8
      generalize inB b 2 8 = k at HIN
      cases k
      all_goals
        go_enter Try.func31, Try.ntmps31
        go_wp2_with fail
        refine (HIN.out _).mono ?_
        rintro e w1 ⟨rfl, hw1⟩
        subst hw1
        go_wp2_with fail
        go_ret
        first | exact ⟨rfl, rfl⟩ | exact ⟨by simp [h8], rfl⟩
  | false =>
    have hr : Lz.ok b false = inB b 2 8 := by simp [Lz.ok, inB, Bool.decide_and]
    rw [hr]
    generalize inB b 2 8 = k at HIN ⊢
    cases k
    all_goals
      go_enter Try.func31, Try.ntmps31
      go_wp2_with fail
      refine (HIN.out _).mono ?_
      rintro e w1 ⟨rfl, hw1⟩
      subst hw1
      go_wp2_with fail
      go_ret
      exact ⟨rfl, rfl⟩
end Go.Proofs.Ytjfihmpnbblomaa

/- What can be read by LZW at all; two new blocks. -/
namespace Go.Proofs.Ytjfihmpnbblomaa
open Go.RowKit

def LzFine (s : ByteArray) (b : Int) (wide : Bool) (limit : Int) : Prop := Lz.ok b wide = true ∧ s.size ≤ 9000 ∧ 0 ≤ limit ∧ limit ≤ 5000
theorem duo1 (w : World) (a b : Obj) : ((w.alloc a).alloc b).heap[w.heap.size + 1]? = some b := by
  have := World.alloc_heap_new (w.alloc a) b; simpa using this
theorem duo0 (w : World) (a b : Obj) : ((w.alloc a).alloc b).heap[w.heap.size]? = some a :=
  (Below.heap_alloc _ _ _ (by simp)).trans (World.alloc_heap_new w a)
end Go.Proofs.Ytjfihmpnbblomaa

/- What is read by LZW: the answers. -/
namespace Go.Proofs.Ytjfihmpnbblomaa
open Go.RowKit

instance (s : ByteArray) (b : Int) (wide : Bool) (limit : Int) : Decidable (LzFine s b wide limit) := by unfold LzFine; infer_instance
/-- all numbers with what they put out, or a code -/
def Lz.res (s : ByteArray) (b : Int) (wide : Bool) (limit : Int) : Except Int (List (Nat × ByteArray)) :=
  if LzFine s b wide limit then Lz.go s b.toNat wide (8 * s.size + 1) 0 (Lz.start b.toNat) ⟨#[]⟩ limit.toNat else .error 1
def Lz.codes (R : Except Int (List (Nat × ByteArray))) : List Int := match R with | .ok dn => codesOf dn | .error _ => []
def Lz.out (R : Except Int (List (Nat × ByteArray))) : List UInt8 := match R with | .ok dn => textsOf dn | .error _ => []
def Lz.code (R : Except Int (List (Nat × ByteArray))) : Int := match R with | .ok _ => 0 | .error c => c

theorem Lz.ok_bd {b : Int} {wide : Bool} (h : Lz.ok b wide = true) : 2 ≤ b ∧ b ≤ 8 := by
  unfold Lz.ok at h
  split at h
  · have := eq_of_beq h; omega
  · simp at h; omega
theorem Lz.res_no {s : ByteArray} {b limit : Int} {wide : Bool} (h : ¬ LzFine s b wide limit) : Lz.res s b wide limit = .error 1 := by unfold Lz.res; rw [if_neg h]
theorem Lz.res_yes {s : ByteArray} {b limit : Nat} {wide : Bool} (h : LzFine s b wide limit) : Lz.res s b wide limit = Lz.go s b wide (8 * s.size + 1) 0 (Lz.start b) ⟨#[]⟩ limit := by unfold Lz.res; rw [if_pos h, Int.toNat_natCast, Int.toNat_natCast]

/-- all that is told of what comes of it -/
theorem Lz.go_len {s : ByteArray} {b : Nat} {wide : Bool} : ∀ {f p : Nat} {l : List ByteArray} {last : ByteArray} {left : Nat} {dn : List (Nat × ByteArray)}, Lz.go s b wide f p l last left = .ok dn → dn.length ≤ f ∧ (textsOf dn).length ≤ left
  | 0, p, l, last, left, dn, h => by unfold Lz.go at h; cases h
  | f + 1, p, l, last, left, dn, h => by
    cases hs : Lz.step s b wide p l last left with
    | error c => rw [Lz.go_err hs] at h; cases h
    | ok r =>
      obtain ⟨v, t, l2, last2, left2⟩ := r
      have hl := Lz.step_left hs
      by_cases hv : v = 2 ^ b + 1
      · rw [Lz.go_end hs hv] at h
        cases h
        have : textsOf [(v, t)] = t.data.toList := by simp [textsOf]
        rw [this]
        exact ⟨by simp, by show t.size ≤ _; omega⟩
      · rw [Lz.go_on hs hv] at h
        cases hg : Lz.go s b wide f (p + Lz.width b wide l.length) l2 last2 left2 with
        | error c => rw [hg] at h; cases h
        | ok dn' =>
          rw [hg] at h
          have ih := Lz.go_len hg
          have e : dn = (v, t) :: dn' := by cases h; rfl
          subst e
          have e2 : textsOf ((v, t) :: dn') = t.data.toList ++ textsOf dn' := by simp [textsOf]
          have e3 : t.data.toList.length = t.size := rfl
          rw [e2, List.length_append, e3, List.length_cons]
          omega
theorem Lz.res_len {s : ByteArray} {b limit : Int} {wide : Bool} {dn : List (Nat × ByteArray)} (h : Lz.res s b wide limit = .ok dn) : dn.length ≤ 72001 ∧ (textsOf dn).length ≤ 5000 ∧ ((textsOf dn).length : Int) ≤ limit := by
  unfold Lz.res at h
  split at h
  · rename_i hf
    obtain ⟨h1, h2, h3, h4⟩ := hf
    have := Lz.go_len h
    omega
  · cases h
theorem Lz.codes_len (s : ByteArray) (b limit : Int) (wide : Bool) : (Lz.codes (Lz.res s b wide limit)).length ≤ 72001 := by
  cases h : Lz.res s b wide limit with
  | error c => show 0 ≤ _; omega
  | ok dn => show (codesOf dn).length ≤ _; rw [codesOf_len]; exact (Lz.res_len h).1
theorem Lz.out_len (s : ByteArray) (b limit : Int) (wide : Bool) : (Lz.out (Lz.res s b wide limit)).length ≤ 5000 := by
  cases h : Lz.res s b wide limit with
  | error c => show 0 ≤ _; omega
  | ok dn => exact (Lz.res_len h).2.1
end Go.Proofs.Ytjfihmpnbblomaa

/- All numbers of a text are read: the work inside lzwRead[byte]. -/
namespace Go.Proofs.Ytjfihmpnbblomaa
open Go.RowKit

/-- what was kept -/
def LzKeptB (w wr : World) (B KB g0 : Nat) (dn : List (Nat × ByteArray)) : Prop :=
  ∃ kv, Boxed wr KB 22 kv ∧ KpB wr w.heap.size kv dn ∧ LzF B KB g0 w wr
/-- how far it is -/
structure LzGoesB (w wr : World) (B b : Nat) (wide : Bool) (s : ByteArray) (KB g0 lo : Nat) (Rs : Except Int (List (Nat × ByteArray))) (dn : List (Nat × ByteArray)) (kv : Value) (p : Nat) (l : List ByteArray) (last : ByteArray) (left g n cap f : Nat) : Prop where
  rdr : LzR wr B b wide s p (.slice (some ⟨g, 0, none⟩) n cap) last left
  own : OwnL wr lo (.slice (some ⟨g, 0, none⟩) n cap) n l
  gB : g ≠ B
  gg : g = g0 ∨ w.heap.size ≤ g
  cap_ : n ≤ cap
  good : Lz.Good b l last
  left_ : left ≤ 5000
  p_ : p ≤ 8 * s.size
  f_ : 8 * s.size + 1 ≤ p + f
  d_ : dn.length ≤ p
  z_ : (textsOf dn).length + left ≤ 5000
  rs : Rs = (Lz.go s b wide f p l last left).map (dn ++ ·)
  box : Boxed wr KB 22 kv
  kept : KpB wr w.heap.size kv dn
  frame : LzF B KB g0 w wr
def LzInvB (w : World) (B b : Nat) (wide : Bool) (s : ByteArray) (KB g0 lo : Nat) (Rs : Except Int (List (Nat × ByteArray))) (e : Value) (wr : World) : Prop :=
  (e = .bool true ∧ ∃ dn, Rs = .ok dn ∧ LzKeptB w wr B KB g0 dn) ∨
  (e = .bool false ∧ ∃ dn kv p l last left g n cap f, LzGoesB w wr B b wide s KB g0 lo Rs dn kv p l last left g n cap f)
def lzMeasB (B z : Nat) (e : Value) (wr : World) : Nat :=
  match e with
  | .bool true => 0
  | _ => match wr.cell? ⟨B, 4, none⟩ with
    | some (.int _ p) => 8 * z + 1 - p.toNat
    | _ => 0

/-- how the work ends -/
def LzWkB (w : World) (B KB g0 : Nat) (Rs : Except Int (List (Nat × ByteArray))) (e : Ending) (w' : World) : Prop :=
  ((∃ v, e = .returned v) ∧ ∃ dn, Rs = .ok dn ∧ LzKeptB w w' B KB g0 dn) ∨ ∃ c, e = fault c ∧ c ≠ 0 ∧ Rs = .error c ∧ LzF B KB g0 w w'

theorem map_moreB (X : Except Int (List (Nat × ByteArray))) (dn : List (Nat × ByteArray)) (z : Nat × ByteArray) : (X.map (z :: ·)).map (dn ++ ·) = X.map ((dn ++ [z]) ++ ·) := by
  cases X <;> simp [Except.map]

set_option linter.unusedSimpArgs false in
set_option maxHeartbeats 4000000 in
set_option maxRecDepth 20000 in
theorem lzWorkB (IB FB KB B b lo g0 n0 cap0 limit : Nat) (wide : Bool) (s : ByteArray) (Rs : Except Int (List (Nat × ByteArray))) (w : World)
    (hIB : Boxed w IB 79 (.pointer (some ⟨B, 0, none⟩))) (hFB : Boxed w FB 46 (.func (.func 29) #[] #[])) (hKB : Boxed w KB 22 (.slice none 0 0))
    (h : LzR w B b wide s 0 (.slice (some ⟨g0, 0, none⟩) n0 cap0) ⟨#[]⟩ limit) (ho : OwnL w lo (.slice (some ⟨g0, 0, none⟩) n0 cap0) n0 (Lz.start b)) (hb : b ≤ 8) (hsz : s.size ≤ 9000) (hlim : limit ≤ 5000)
    (hRs : Rs = Lz.go s b wide (8 * s.size + 1) 0 (Lz.start b) ⟨#[]⟩ limit)
    (d1 : IB ≠ B) (d2 : IB ≠ KB) (d3 : IB ≠ g0) (d4 : FB ≠ B) (d5 : FB ≠ KB) (d6 : FB ≠ g0) (d7 : g0 ≠ B) (d8 : KB ≠ B) (d9 : KB ≠ g0) (hlo : lo ≤ w.heap.size) :
    Calls Try.prog 52 #[.pointer (some ⟨IB, 0, none⟩), .pointer (some ⟨FB, 0, none⟩), .pointer (some ⟨KB, 0, none⟩)] w (LzWkB w B KB g0 Rs) := by
  have start : LzInvB w B b wide s KB g0 lo Rs (.bool false) w := .inr ⟨rfl, [], .slice none 0 0, 0, Lz.start b, ⟨#[]⟩, limit, g0, n0, cap0, 8 * s.size + 1,
    { rdr := h, own := ho, gB := d7, gg := .inl rfl, cap_ := own_capL ho, good := Lz.good_start hb, left_ := hlim, p_ := by omega, f_ := by omega, d_ := by simp, z_ := by simp [textsOf]; omega, rs := by rw [hRs]; cases Lz.go s b wide (8 * s.size + 1) 0 (Lz.start b) ⟨#[]⟩ limit <;> simp [Except.map], box := hKB, kept := kpB_nil w _, frame := LzF.refl _ _ _ _ }⟩
  have HST : Hid (LzInvB w B b wide s KB g0 lo Rs (.bool false) w) := start
  have HK : Hid (Boxed w IB 79 (.pointer (some ⟨B, 0, none⟩)) ∧ Boxed w FB 46 (.func (.func 29) #[] #[]) ∧ Boxed w KB 22 (.slice none 0 0) ∧ B < w.heap.size) := ⟨hIB, hFB, hKB, h.lt⟩
  have HEN : Hid (∀ w', Calls Try.prog 42 #[.agg #[.int .i64 (b : Int), .bool wide]] w' fun e w'' => e = .returned (.int .i64 ((2 ^ b + 1 : Nat) : Int)) ∧ Below w'.heap.size w' w'') := fun w' => lzEnd_any b hb wide w'
  clear hIB hFB hKB h ho start hRs
  go_enter Try.func52, Try.ntmps52
  go_wp2_with fail
  go_loopw [3] (fun e wr => LzInvB w B b wide s KB g0 lo Rs e wr) (fun e wr => lzMeasB B s.size e wr)
  case atStart => exact HST.out
  case round =>
    clear HST
    rcases hrel with ⟨rfl, dn, hR, hK⟩ | ⟨rfl, dn, kv, p, l, last, left, g, n, cap, f, hG⟩
    · have HFIN : Hid (LzWkB w B KB g0 Rs (.returned (.tuple #[])) wr) := .inl ⟨⟨_, rfl⟩, dn, hR, hK⟩
      clear hR hK
      go_wp2_with fail
      go_end0
      exact HFIN.out
    · have HGO : Hid (LzGoesB w wr B b wide s KB g0 lo Rs dn kv p l last left g n cap f) := hG
      clear hG
      have hms : lzMeasB B s.size (.bool false) wr = 8 * s.size + 1 - p := by
        unfold lzMeasB
        rw [HGO.out.rdr.rd.c2]
        simp
      have HMS : Hid (lzMeasB B s.size (.bool false) wr = 8 * s.size + 1 - p) := hms
      clear hms
      have hp := HGO.out.p_
      have hdl := HGO.out.d_
      have hzl := HGO.out.z_
      have ci := (HGO.out.frame.box HK.out.1 d1 d2 d3).cell
      go_wp2_with fail
      refine (lzTake_any B b p left lo n g cap wide s last l wr hb hsz hp HGO.out.rdr HGO.out.own HGO.out.gB (Nat.le_trans hlo HGO.out.frame.size) HGO.out.cap_ HGO.out.good HGO.out.left_).mono ?_
      rintro e w1 (⟨c, hc0, hst, rfl, hg1⟩ | ⟨v, t, l2, last2, left2, hst, rfl, hpN, hgood2, hleft2, hln⟩)
      · have HFIN : Hid (LzWkB w B KB g0 Rs (fault c) w1) := .inr ⟨c, rfl, hc0, by
          obtain ⟨f', rfl⟩ : ∃ f', f = f' + 1 := ⟨f - 1, by have := HGO.out.f_; omega⟩
          rw [HGO.out.rs, Lz.go_err hst]; rfl, HGO.out.frame.take hg1 HGO.out.gg⟩
        clear hst hg1 HGO ci
        unfold fault
        go_wp2_with fail
        exact ⟨rfl, HFIN.out⟩
      · have HSTP : Hid (Lz.step s b wide p l last left = .ok (v, t, l2, last2, left2) ∧ p + Lz.width b wide l.length ≤ 8 * s.size ∧ Lz.Good b l2 last2 ∧ left2 ≤ 5000) := ⟨hst, hpN, hgood2, hleft2⟩
        have hlf := Lz.step_left hst
        obtain ⟨g2, n2, cap2, hg2B, hcap2, hr2, ho2, hg2⟩ := hln
        have HR2 : Hid (LzR w1 B b wide s (p + Lz.width b wide l.length) (.slice (some ⟨g2, 0, none⟩) n2 cap2) last2 left2) := hr2
        have HO2 : Hid (OwnL w1 lo (.slice (some ⟨g2, 0, none⟩) n2 cap2) n2 l2) := ho2
        have HF1 : Hid (LzF B KB g0 w w1) := HGO.out.frame.take hg2 HGO.out.gg
        have hKBg : KB ≠ g := fun e => by
          rcases HGO.out.gg with e2 | e2
          · exact d9 (e.trans e2)
          · have := HK.out.2.2.1.lt; omega
        have hgk : kv.ownBlock ≠ some g := HGO.out.kept.apart HGO.out.own
        have HKB1 : Hid (Boxed w1 KB 22 kv) := (hg2.block KB HGO.out.box.lt d8 (fun e => hKBg (by cases e; rfl))).trans HGO.out.box
        have HKV1 : Hid (KpB w1 w.heap.size kv dn) := HGO.out.kept.besides (fun k hk => hg2.block k (HGO.out.kept.lt k hk).2 (fun e => by have := (HGO.out.kept.lt k hk).1; have := HK.out.2.2.2; omega) (fun e => hgk (by rw [hk, e]; rfl)))
        have HGG2 : Hid (g2 = g0 ∨ w.heap.size ≤ g2) := by
          rcases hg2.at_ with e2 | e2
          · have e3 : g2 = g := by cases e2; rfl
            rw [e3]; exact HGO.out.gg
          · exact .inr (Nat.le_trans HGO.out.frame.size (e2 g2 rfl))
        have cf := (HF1.out.box HK.out.2.1 d4 d5 d6).cell
        have ck := HKB1.out.cell
        have kf := HKB1.out.frozen
        have hs1 : w.heap.size ≤ w1.heap.size := HF1.out.size
        clear hst hpN hgood2 hleft2 hr2 ho2 hg2 ci hgk
        have HNEW : Hid (∀ k, kv.ownBlock = some k → w.heap.size ≤ k) := fun k hk => (HKV1.out.lt k hk).1
        have hKBw := HK.out.2.2.1.lt
        have hBw := HK.out.2.2.2
        have hg2w := (HO2.out.lt g2 rfl).2
        have hgk2 : kv.ownBlock ≠ some g2 := HKV1.out.apart HO2.out
        have hg2K : g2 ≠ KB := fun e => by
          rcases HGG2.out with e2 | e2
          · exact d9 (e.symm.trans e2)
          · omega
        go_wp2_with fail
        refine (lzKeepB w.heap.size kv dn v t w1 HKV1.out (by omega) (by omega) hs1).mono ?_
        rintro e w2 ⟨ao, M, cap3, rfl, ho3, hg3⟩
        have hw12 := hg3.size
        have hKB2 : Boxed w2 KB 22 kv := (hg3.block KB (by have := HF1.out.size; omega) (fun e => by have := HNEW.out KB e.symm; omega)).trans HKB1.out
        have ck2 := hKB2.cell
        have kf2 := hKB2.frozen
        obtain ⟨W3, hW3⟩ : ∃ W3, W3 = w2.setCell ⟨KB, 0, none⟩ (.slice ao M cap3) := ⟨_, rfl⟩
        have hoth : ∀ k, k ≠ KB → W3.heap[k]? = w2.heap[k]? := fun k hk => by rw [hW3]; exact Below.heap_setCell w2 ⟨KB, 0, none⟩ _ k hk
        have HF3 : Hid (LzF B KB g0 w W3) := by show LzF _ _ _ _ _; rw [hW3]; exact (HF1.out.keep hg3 HNEW.out).set _
        have HR3 : Hid (LzR W3 B b wide s (p + Lz.width b wide l.length) (.slice (some ⟨g2, 0, none⟩) n2 cap2) last2 left2) := HR2.out.same ((hoth B (Ne.symm d8)).trans (hg3.block B HR2.out.lt (fun e => by have := HNEW.out B e.symm; omega)))
        have HO3 : Hid (OwnL W3 lo (.slice (some ⟨g2, 0, none⟩) n2 cap2) n2 l2) := HO2.out.kept (fun k hk => by
          have e : k = g2 := by cases hk; rfl
          subst e
          exact (hoth k hg2K).trans (hg3.block k hg2w (fun e => hgk2 e.symm)))
        have HKB3 : Hid (Boxed W3 KB 22 (.slice ao M cap3)) := by show Boxed _ _ _ _; rw [hW3]; exact hKB2.set _
        have HKV3 : Hid (KpB W3 w.heap.size (.slice ao M cap3) (dn ++ [(v, t)])) := ho3.besides (fun k hk => hoth k (fun e => by have := (ho3.lt k hk).1; omega))
        have ci3 := (HF3.out.box HK.out.1 d1 d2 d3).cell
        have c30 := HR3.out.c0
        have c31 := HR3.out.c1
        clear ho3 hg3 hoth hKB2 HF1 HR2 HO2 HKB1 HKV1 cf ck kf hs1 hg2w
        have HW3 : Hid (w2.setCell ⟨KB, 0, none⟩ (.slice ao M cap3) = W3) := hW3.symm
        rw [hW3] at ci3 c30 c31
        clear hW3
        go_wp2_with fail
        refine (HEN.out _).mono ?_
        rintro e w4 ⟨rfl, b4⟩
        rw [HW3.out] at b4
        have hdn : (dn ++ [(v, t)]).length = dn.length + 1 := by rw [List.length_append]; rfl
        have hzn := textsOf_more dn v t
        have hNb := Lz.width_bd hb wide l.length
        have HBX : Hid (Boxed w4 KB 22 (.slice ao M cap3)) := (b4.block KB HKB3.out.lt).trans HKB3.out
        have HKV4 : Hid (KpB w4 w.heap.size (.slice ao M cap3) (dn ++ [(v, t)])) := HKV3.out.besides (fun k hk => b4.block k (HKV3.out.lt k hk).2)
        have HF4 : Hid (LzF B KB g0 w w4) := HF3.out.below b4
        have HR4 : Hid (LzR w4 B b wide s (p + Lz.width b wide l.length) (.slice (some ⟨g2, 0, none⟩) n2 cap2) last2 left2) := HR3.out.kept b4
        have HO4 : Hid (OwnL w4 lo (.slice (some ⟨g2, 0, none⟩) n2 cap2) n2 l2) := HO3.out.up b4
        have HDN : Hid ((dn ++ [(v, t)]).length = dn.length + 1 ∧ (textsOf (dn ++ [(v, t)])).length = (textsOf dn).length + t.size) := ⟨hdn, hzn⟩
        clear b4 HF3 HR3 HO3 HKB3 HKV3 ci3 c30 c31 HW3 ck2 kf2 hdn hzn
        obtain ⟨f', hf'⟩ : ∃ f', f = f' + 1 := ⟨f - 1, by have := HGO.out.f_; omega⟩
        by_cases hve : v = 2 ^ b + 1
        · have HEND : Hid (LzInvB w B b wide s KB g0 lo Rs (.bool true) w4) := .inl ⟨rfl, dn ++ [(v, t)], by rw [HGO.out.rs, hf', Lz.go_end HSTP.out.1 hve]; rfl, _, HBX.out, HKV4.out, HF4.out⟩
          have hbe : ((v : Int) == ((2 ^ b + 1 : Nat) : Int)) = true := by rw [hve]; simp
          generalize 2 ^ b + 1 = E at *
          clear HEN HBX HKV4 HF4 HR4 HO4 HSTP HGO hve hf' HDN hlf
          go_wp2_with fail
          go_roundw
          case rel => first | exact HEND.out | (rw [hbe]; exact HEND.out)
          case measure =>
            have h1 := HMS.out
            have h2 : lzMeasB B s.size (.bool true) w4 = 0 := rfl
            first | omega | (rw [hbe, h1, h2]; omega)
        · have HGO2 : Hid (LzInvB w B b wide s KB g0 lo Rs (.bool false) w4) := .inr ⟨rfl, dn ++ [(v, t)], _, _, l2, last2, left2, g2, n2, cap2, f',
            { rdr := HR4.out, own := HO4.out, gB := hg2B, gg := HGG2.out, cap_ := hcap2, good := HSTP.out.2.2.1, left_ := HSTP.out.2.2.2, p_ := HSTP.out.2.1, f_ := by have := HGO.out.f_; omega, d_ := by rw [HDN.out.1]; omega, z_ := by rw [HDN.out.2]; omega, rs := by rw [HGO.out.rs, hf', Lz.go_on HSTP.out.1 hve, map_moreB], box := HBX.out, kept := HKV4.out, frame := HF4.out }⟩
          have hms4 : lzMeasB B s.size (.bool false) w4 = 8 * s.size + 1 - (p + Lz.width b wide l.length) := by
            unfold lzMeasB
            rw [HR4.out.rd.c2]
            rfl
          have HMS4 : Hid (lzMeasB B s.size (.bool false) w4 = 8 * s.size + 1 - (p + Lz.width b wide l.length)) := hms4
          have hbe : ((v : Int) == ((2 ^ b + 1 : Nat) : Int)) = false := by rw [beq_eq_false_iff_ne]; omega
          have hpN := HSTP.out.2.1
          generalize 2 ^ b + 1 = E at *
          clear HEN HBX HKV4 HF4 HR4 HO4 HSTP HGO hms4 hf' HDN hlf
          go_wp2_with fail
          go_roundw
          case rel => first | exact HGO2.out | (rw [hbe]; exact HGO2.out)
          case measure =>
            have h1 := HMS.out
            have h2 := HMS4.out
            first | omega | (rw [hbe, h1, h2]; omega)
end Go.Proofs.Ytjfihmpnbblomaa

/- A new reader of LZW, of the program. -/
namespace Go.Proofs.Ytjfihmpnbblomaa
open Go.RowKit

/-- the first k are there, the others are nothing yet -/
def Lz.part (n k : Nat) : List ByteArray := Lz.ones k ++ List.replicate (n - k) ⟨#[]⟩
theorem Lz.ones_len (k : Nat) : (Lz.ones k).length = k := by simp [Lz.ones]
theorem Lz.part_set (n k : Nat) (h : k < n) : (Lz.part n k).set k (Lz.one k) = Lz.part n (k + 1) := by
  unfold Lz.part
  rw [Lz.ones_snoc, show n - k = (n - (k + 1)) + 1 by omega, List.replicate_succ, List.append_assoc, List.set_append_right _ _ (by rw [Lz.ones_len]; omega), Lz.ones_len, Nat.sub_self]
  rfl
theorem Lz.part_start (b : Nat) : Lz.part (2 ^ b + 2) (2 ^ b) = Lz.start b := by
  unfold Lz.part
  rw [Nat.add_sub_cancel_left]
  rfl
theorem txtsV_set (l : List ByteArray) (j : Nat) (x : ByteArray) : (txtsV l).set j (.string x) = txtsV (l.set j x) := by simp [txtsV, List.map_set]
theorem txtsV_rep (n : Nat) : txtsV (List.replicate n ⟨#[]⟩) = List.replicate n (.string ⟨#[]⟩) := by simp [txtsV]

theorem make_txts (n : Nat) (hl : n ≤ 2000000) (w : World) :
    (Instr.makeSlice 43 (.int .i64 (n : Int)) (.int .i64 (n : Int))).run Try.prog w = .ok (.slice (some ⟨w.heap.size, 0, none⟩) n n) (w.alloc (.cells (madeCells #[.string ⟨#[]⟩] n) 9)) := by
  obtain ⟨i0, hi, hz0, hz1, hz2⟩ := info_parts info_string
  have h := run_make (P := Try.prog) w 43 9 i0 (.string ⟨#[]⟩) Try.underlying43 hi hz0 .i64 .i64 (n : Int) (n : Int) (by omega) (by omega) (by rw [hz2]; omega) (by omega)
  rw [h, Int.toNat_natCast, hz1, Nat.mul_one]
  rfl
theorem own_txts (w : World) (n : Nat) (hl : n ≤ 2000000) : OwnL (w.alloc (.cells (madeCells #[.string ⟨#[]⟩] n) 9)) w.heap.size (.slice (some ⟨w.heap.size, 0, none⟩) n n) n (Lz.part n 0) := by
  unfold OwnL
  have e : txtsV (Lz.part n 0) = (madeCells #[Value.string ⟨#[]⟩] n).toList := by
    rw [toList_madeCells_one]
    exact txtsV_rep n
  rw [e]
  exact World.ownsRow_lit w _ n (Nat.le_refl _) (by unfold maxLen; omega) (by rw [size_madeCells, Nat.mul_one])

theorem alloc_cell (w : World) (o : Obj) (p : Addr) (h : p.block < w.heap.size) : (w.alloc o).cell? p = w.cell? p := ((Below.refl w.heap.size w).alloc (Nat.le_refl _) o).cell h

theorem lzOrderOf_any (hi : Bool) (w : World) : Calls Try.prog 61 #[.bool hi] w fun e w' => e = .returned (ordV hi) ∧ w' = w := by
  cases hi
  · exact orderOf_low w
  · exact orderOf_high w

theorem lzr_new (w : World) (b : Nat) (wide : Bool) (s : ByteArray) (tv : Value) (limit : Nat) : LzR (w.alloc (.cells #[.int .i64 (b : Int), .bool wide, ordV wide, .string s, .int .i64 0, tv, .string ⟨#[]⟩, .int .i64 (limit : Int)] 89)) w.heap.size b wide s 0 tv ⟨#[]⟩ limit := by
  have hc : ∀ i, (w.alloc (.cells #[.int .i64 (b : Int), .bool wide, ordV wide, .string s, .int .i64 0, tv, .string ⟨#[]⟩, .int .i64 (limit : Int)] 89)).cell? ⟨w.heap.size, i, none⟩ = (#[.int .i64 (b : Int), .bool wide, ordV wide, .string s, .int .i64 0, tv, .string ⟨#[]⟩, .int .i64 (limit : Int)] : Array Value)[i]? := fun i => World.cell?_alloc_at _ _ _ _ rfl
  have hf : ∀ i, (w.alloc (.cells #[.int .i64 (b : Int), .bool wide, ordV wide, .string s, .int .i64 0, tv, .string ⟨#[]⟩, .int .i64 (limit : Int)] 89)).frozen? ⟨w.heap.size, i, none⟩ = false := fun i => World.frozen?_alloc_at _ _ _ _ rfl
  exact ⟨hc 0, hc 1, ⟨hc 2, hc 3, hc 4, hf 4⟩, hc 5, hc 6, hc 7, hf 5, hf 6, hf 7⟩

/-- what comes of it -/
def LzNew (w : World) (b : Nat) (wide : Bool) (s : ByteArray) (limit : Nat) (e : Ending) (w' : World) : Prop :=
  ∃ B g, e = .returned (.pointer (some ⟨B, 0, none⟩)) ∧ LzR w' B b wide s 0 (.slice (some ⟨g, 0, none⟩) (2 ^ b + 2) (2 ^ b + 2)) ⟨#[]⟩ limit ∧ OwnL w' w.heap.size (.slice (some ⟨g, 0, none⟩) (2 ^ b + 2) (2 ^ b + 2)) (2 ^ b + 2) (Lz.start b) ∧ Below w.heap.size w w' ∧ w.heap.size ≤ B ∧ w.heap.size ≤ g ∧ g ≠ B

set_option maxHeartbeats 2000000 in
theorem lzNew_any (b limit : Nat) (wide : Bool) (s : ByteArray) (hb : b ≤ 8) (w : World) :
    Calls Try.prog 50 #[.string s, .agg #[.int .i64 (b : Int), .bool wide], .int .i64 (limit : Int)] w (LzNew w b wide s limit) := by
  have HFI : Hid (∀ w', Calls Try.prog 58 #[.agg #[.int .i64 (b : Int), .bool wide]] w' fun e w'' => e = .returned (.int .i64 ((2 ^ b + 2 : Nat) : Int)) ∧ Below w'.heap.size w' w'') := fun w' => lzFirst_any b hb wide w'
  have HCL : Hid (∀ w', Calls Try.prog 57 #[.agg #[.int .i64 (b : Int), .bool wide]] w' fun e w'' => e = .returned (.int .i64 ((2 ^ b : Nat) : Int)) ∧ Below w'.heap.size w' w'') := fun w' => lzClear_any b hb wide w'
  have hp := Lz.pow_le hb
  have HPS : Hid (Lz.part (2 ^ b + 2) (2 ^ b) = Lz.start b) := Lz.part_start b
  have HQ : Hid (∀ B g e w', e = .returned (.pointer (some ⟨B, 0, none⟩)) → LzR w' B b wide s 0 (.slice (some ⟨g, 0, none⟩) (2 ^ b + 2) (2 ^ b + 2)) ⟨#[]⟩ limit → OwnL w' w.heap.size (.slice (some ⟨g, 0, none⟩) (2 ^ b + 2) (2 ^ b + 2)) (2 ^ b + 2) (Lz.start b) → Below w.heap.size w w' → w.heap.size ≤ B → w.heap.size ≤ g → g ≠ B → LzNew w b wide s limit e w') := fun B g e w' h1 h2 h3 h4 h5 h6 h7 => ⟨B, g, h1, h2, h3, h4, h5, h6, h7⟩
  generalize hS : Lz.start b = S at *
  clear hS
  obtain ⟨n, hn⟩ : ∃ n : Nat, n = 2 ^ b + 2 := ⟨_, rfl⟩
  rw [← hn] at HFI HPS HQ
  obtain ⟨P, hP⟩ : ∃ P : Nat, P = 2 ^ b := ⟨_, rfl⟩
  rw [← hP] at HCL HPS hp
  have hPn : n = P + 2 := by omega
  have hPn' : P + 1 < n := by omega
  have hnb : n ≤ 258 := by omega
  clear hn hP hPn
  have B0 : Hid (Below w.heap.size w (w.alloc (.cells #[.int .i64 (b : Int), .bool wide] 50))) := (Below.refl _ _).alloc (Nat.le_refl _) _
  go_enter Try.func50, Try.ntmps50
  go_wp2_with fail
  refine (HFI.out _).mono ?_
  rintro e w1 ⟨rfl, b1⟩
  have hz1 : w.heap.size < w1.heap.size := by have := b1.size; simp at this; omega
  obtain ⟨hc1, -⟩ : (∀ o, w1.cell? ⟨w.heap.size, o, none⟩ = (w.alloc (.cells #[.int .i64 (b : Int), .bool wide] 50)).cell? ⟨w.heap.size, o, none⟩) ∧ True := ⟨fun o => b1.cell (p := ⟨w.heap.size, o, none⟩) (by simp), trivial⟩
  have c10 : w1.cell? ⟨w.heap.size, 0, none⟩ = some (.int .i64 (b : Int)) := by rw [hc1]; simp
  have c11 : w1.cell? ⟨w.heap.size, 1, none⟩ = some (.bool wide) := by rw [hc1]; simp
  have B1 : Hid (Below w.heap.size w w1) := B0.out.trans (b1.mono (by simp))
  have hmk := make_txts n (by omega) w1
  clear b1 hc1 B0 HFI
  go_wp2_with fail
  refine (HCL.out _).mono ?_
  rintro e w2 ⟨rfl, b2⟩
  have hz2 : w1.heap.size < w2.heap.size := by have := b2.size; simp at this; omega
  have c20 : w2.cell? ⟨w.heap.size, 0, none⟩ = some (.int .i64 (b : Int)) := by rw [b2.cell (p := ⟨w.heap.size, 0, none⟩) (by simp; omega), alloc_cell _ _ _ hz1]; exact c10
  have c21 : w2.cell? ⟨w.heap.size, 1, none⟩ = some (.bool wide) := by rw [b2.cell (p := ⟨w.heap.size, 1, none⟩) (by simp; omega), alloc_cell _ _ _ hz1]; exact c11
  have B2 : Hid (Below w.heap.size w w2) := (B1.out.alloc B1.out.size _).trans (b2.mono (by have := B1.out.size; simp; omega))
  have O2 : Hid (OwnL w2 w1.heap.size (.slice (some ⟨w1.heap.size, 0, none⟩) n n) n (Lz.part n 0)) := (own_txts w1 n (by omega)).kept (fun k hk => by
    have e : k = w1.heap.size := by cases hk; rfl
    subst e
    exact b2.block _ (by simp))
  clear b2 B1 c10 c11 hmk HCL
  generalize w1.heap.size = g at *
  go_wp2_with fail
  go_loopw [14] (fun i wr => ∃ k : Nat, k ≤ P ∧ i = .int .i64 (k : Int) ∧ OwnL wr g (.slice (some ⟨g, 0, none⟩) n n) n (Lz.part n k) ∧ Below w.heap.size w wr ∧ wr.cell? ⟨w.heap.size, 0, none⟩ = some (.int .i64 (b : Int)) ∧ wr.cell? ⟨w.heap.size, 1, none⟩ = some (.bool wide)) (fun i _ => P - (intOf i).toNat)
  case atStart => exact ⟨0, Nat.zero_le _, rfl, O2.out, B2.out, c20, c21⟩
  case round =>
    obtain ⟨k, hk, rfl, ho, hbel, d0, d1⟩ := hrel
    clear O2 B2 c20 c21
    have HO : Hid (OwnL wr g (.slice (some ⟨g, 0, none⟩) n n) n (Lz.part n k)) := ho
    have HB : Hid (Below w.heap.size w wr) := hbel
    have hgr := (ho.lt g rfl).2
    by_cases hlt : k < P
    · have hu := wrap_u8_small k (by omega)
      have htx : Sem.run Try.prog (convert 22 9 (.slice (some ⟨wr.heap.size, 0, none⟩) 1 1)) (wr.alloc (.cells #[.int .u8 (k : Int)] 5)) = .ok (.string (Lz.one k)) (wr.alloc (.cells #[.int .u8 (k : Int)] 5)) := run_text1 wr k wr.heap.size rfl
      have hkl : k < (Lz.part n k).length := by rw [ho.len]; omega
      have hck := ho.cell k hkl
      have hfk : wr.frozen? ⟨g, k, none⟩ = false := World.ownsRow.frozenAt ho k
      generalize hx : (Lz.part n k)[k] = x at *
      clear hx ho hbel
      have hgk : (k : Int) < (n : Int) := by omega
      obtain ⟨W2, hW2⟩ : ∃ W2, W2 = (wr.alloc (.cells #[.int .u8 (k : Int)] 5)).setCell ⟨g, k, none⟩ (.string (Lz.one k)) := ⟨_, rfl⟩
      have hst := (World.ownsRow.stored (HO.out.alloc (.cells #[.int .u8 (k : Int)] 5)) k (.string (Lz.one k))).1
      rw [txtsV_set, Lz.part_set n k (by omega), ← hW2] at hst
      have HO2 : Hid (OwnL W2 g (.slice (some ⟨g, 0, none⟩) n n) n (Lz.part n (k + 1))) := hst
      have HB2 : Hid (Below w.heap.size w W2) := by show Below _ _ _; rw [hW2]; exact (HB.out.alloc HB.out.size _).setCell (by show w.heap.size ≤ g; omega) _
      have e0 : W2.cell? ⟨w.heap.size, 0, none⟩ = some (.int .i64 (b : Int)) := by
        rw [hW2, World.cell?_setCell_other _ _ _ _ (fun e => by have := congrArg Addr.block e; simp at this; omega), alloc_cell _ _ _ (by show w.heap.size < _; omega)]; exact d0
      have e1 : W2.cell? ⟨w.heap.size, 1, none⟩ = some (.bool wide) := by
        rw [hW2, World.cell?_setCell_other _ _ _ _ (fun e => by have := congrArg Addr.block e; simp at this; omega), alloc_cell _ _ _ (by show w.heap.size < _; omega)]; exact d1
      have HE : Hid (W2.cell? ⟨w.heap.size, 0, none⟩ = some (.int .i64 (b : Int)) ∧ W2.cell? ⟨w.heap.size, 1, none⟩ = some (.bool wide)) := ⟨e0, e1⟩
      have HW2 : Hid (W2 = (wr.alloc (.cells #[.int .u8 (k : Int)] 5)).setCell ⟨g, k, none⟩ (.string (Lz.one k))) := hW2
      clear hst e0 e1 hW2 d0 d1 HPS HQ
      go_wp2_with fail
      go_roundw
      case rel =>
        refine ⟨k + 1, by omega, by go_num, ?_⟩
        rw [← World.setCell_alloc_past _ _ _ _ hgr, ← HW2.out]
        exact ⟨HO2.out, HB2.out, HE.out.1, HE.out.2⟩
      case measure => simp [intOf]; omega
    · have e : P = k := by omega
      subst e
      have HO2 : Hid (OwnL wr w.heap.size (.slice (some ⟨g, 0, none⟩) n n) n S) := by
        show OwnL _ _ _ _ _
        rw [← HPS.out]; exact ho.down (by omega)
      have HOR : Hid (∀ w', Calls Try.prog 61 #[.bool wide] w' fun e w'' => e = .returned (ordV wide) ∧ w'' = w') := fun w' => lzOrderOf_any wide w'
      have hgw : g ≠ wr.heap.size := by omega
      clear ho hbel HO HPS
      obtain ⟨ov, hov⟩ : ∃ f, ordV wide = .func (.func f) #[] #[] := by cases wide <;> exact ⟨_, rfl⟩
      have HOV : Hid (ordV wide = .func (.func ov) #[] #[]) := hov
      rw [hov] at HOR
      clear hov
      go_wp2_with fail
      go_region_held3 (fun w' => w'.cell? ⟨w.heap.size, 0, none⟩ = some (.int .i64 (b : Int)) ∧ w'.cell? ⟨w.heap.size, 1, none⟩ = some (.bool wide)) (go_keep) ((go_at_call 61; refine (HOR.out _).mono ?_; rintro e w3 ⟨rfl, hw3⟩; subst hw3))
      all_goals go_wp2_with fail
      all_goals go_ret
      all_goals
        refine HQ.out wr.heap.size g _ _ rfl ?_ ((HO2.out.alloc _).drew) ((HB.out.alloc HB.out.size _).drew) HB.out.size (by omega) hgw
        rw [← HOV.out]
        exact (lzr_new wr b wide s _ limit).drew
end Go.Proofs.Ytjfihmpnbblomaa

/- lzwRead[byte] of the program. -/
namespace Go.Proofs.Ytjfihmpnbblomaa
open Go.RowKit Go.Shelf

theorem KpB.down {w : World} {base base' : Nat} {kv : Value} {dn : List (Nat × ByteArray)} (h : KpB w base kv dn) (hb : base' ≤ base) : KpB w base' kv dn := by
  refine ⟨h.1, ?_⟩
  rcases h.2 with h0 | ⟨g, cap, cur, rfl, hgB, r⟩
  · exact .inl h0
  · exact .inr ⟨g, cap, cur, rfl, Nat.le_trans hb hgB, r⟩
def LzYesB (w : World) (Rs : Except Int (List (Nat × ByteArray))) (KB : Nat) (w' : World) : Prop := ∃ dn kv, Rs = .ok dn ∧ Boxed w' KB 22 kv ∧ KpB w' (KB + 2) kv dn ∧ Below w.heap.size w w'
def LzNoB (w : World) (Rs : Except Int (List (Nat × ByteArray))) (c : Int) (w' : World) : Prop := c ≠ 0 ∧ Rs = .error c ∧ Below w.heap.size w w'
/-- what lzwRead answers -/
def LzRdB (w : World) (Rs : Except Int (List (Nat × ByteArray))) (e : Ending) (w' : World) : Prop :=
  (∃ dn ao n cap, Rs = .ok dn ∧ e = .returned (.tuple #[.slice ao n cap, .int .i64 0]) ∧ KpB w' w.heap.size (.slice ao n cap) dn ∧ Below w.heap.size w w') ∨ ∃ c, c ≠ 0 ∧ Rs = .error c ∧ e = .returned (.tuple #[.slice none 0 0, .int .i64 c]) ∧ Below w.heap.size w w'

set_option maxHeartbeats 1000000 in
theorem lzReadB_no (s : ByteArray) (b limit : Int) (wide : Bool) (w : World) (hs : s.size ≤ 3000000) (hno : ¬ LzFine s b wide limit) :
    Calls Try.prog 30 #[.string s, .agg #[.int .i64 b, .bool wide], .int .i64 limit, .func (.func 29) #[] #[]] w fun e w' => e = .returned (.tuple #[.slice none 0 0, .int .i64 1]) ∧ Below w.heap.size w w' := by
  have HOK : Hid (∀ w', Calls Try.prog 36 #[.agg #[.int .i64 b, .bool wide]] w' fun e w'' => e = .returned (.bool (Lz.ok b wide)) ∧ Below w'.heap.size w' w'') := fun w' => lzOk_any b wide w'
  have HB0 : Hid (Below w.heap.size w ((w.alloc (.cells #[.int .i64 b, .bool wide] 50)).alloc (.cells #[.func (.func 29) #[] #[]] 46))) := ((Below.refl _ _).alloc (Nat.le_refl _) _).alloc (by simp) _
  have hz0 : w.heap.size ≤ ((w.alloc (.cells #[.int .i64 b, .bool wide] 50)).alloc (.cells #[.func (.func 29) #[] #[]] 46)).heap.size := by simp; omega
  unfold LzFine at hno
  generalize hk : Lz.ok b wide = k at *
  clear hk
  cases k with
  | false =>
    clear hno
    go_enter Try.func30, Try.ntmps30
    go_wp2_with fail
    refine (HOK.out _).mono ?_
    rintro e w1 ⟨rfl, b1⟩
    have HB1 : Hid (Below w.heap.size w w1) := HB0.out.trans (b1.mono hz0)
    clear b1 HB0 hz0 HOK
    go_wp2_with fail
    exact bodyPost_ret (v := .tuple #[.slice none 0 0, .int .i64 1]) (by simp [results, Try.results30, go_sem]) rfl ⟨rfl, HB1.out⟩
  | true =>
    by_cases h1 : 9000 < s.size
    · have d1 : decide ((s.size : Int) > 9000) = true := decide_eq_true (by omega)
      clear hno
      go_enter Try.func30, Try.ntmps30
      go_wp2_with fail
      refine (HOK.out _).mono ?_
      rintro e w1 ⟨rfl, b1⟩
      have HB1 : Hid (Below w.heap.size w w1) := HB0.out.trans (b1.mono hz0)
      clear b1 HB0 hz0 HOK
      go_wp2_with fail
      exact bodyPost_ret (v := .tuple #[.slice none 0 0, .int .i64 1]) (by simp [results, Try.results30, go_sem]) rfl ⟨rfl, HB1.out⟩
    · have d1 : decide ((s.size : Int) > 9000) = false := decide_eq_false (by omega)
      by_cases h2 : limit < 0
      · have d2 : decide (limit < 0) = true := decide_eq_true h2
        clear hno
        go_enter Try.func30, Try.ntmps30
        go_wp2_with fail
        refine (HOK.out _).mono ?_
        rintro e w1 ⟨rfl, b1⟩
        have HB1 : Hid (Below w.heap.size w w1) := HB0.out.trans (b1.mono hz0)
        clear b1 HB0 hz0 HOK
        go_wp2_with fail
        exact bodyPost_ret (v := .tuple #[.slice none 0 0, .int .i64 1]) (by simp [results, Try.results30, go_sem]) rfl ⟨rfl, HB1.out⟩
      · have d2 : decide (limit < 0) = false := decide_eq_false h2
        have h3 : limit > 5000 := by
          have : ¬ (0 ≤ limit ∧ limit ≤ 5000) := fun h => hno ⟨rfl, by omega, h.1, h.2⟩
          omega
        have d3 : decide (limit > 5000) = true := decide_eq_true h3
        clear hno
        go_enter Try.func30, Try.ntmps30
        go_wp2_with fail
        refine (HOK.out _).mono ?_
        rintro e w1 ⟨rfl, b1⟩
        have HB1 : Hid (Below w.heap.size w w1) := HB0.out.trans (b1.mono hz0)
        clear b1 HB0 hz0 HOK
        go_wp2_with fail
        exact bodyPost_ret (v := .tuple #[.slice none 0 0, .int .i64 1]) (by simp [results, Try.results30, go_sem]) rfl ⟨rfl, HB1.out⟩

set_option maxHeartbeats 2000000 in
set_option maxRecDepth 20000 in
theorem lzReadB_yes (s : ByteArray) (b limit : Nat) (wide : Bool) (Rs : Except Int (List (Nat × ByteArray))) (w : World) (hf : LzFine s b wide limit) (hRs : Rs = Lz.go s b wide (8 * s.size + 1) 0 (Lz.start b) ⟨#[]⟩ limit) :
    Calls Try.prog 30 #[.string s, .agg #[.int .i64 (b : Int), .bool wide], .int .i64 (limit : Int), .func (.func 29) #[] #[]] w (LzRdB w Rs) := by
  obtain ⟨hok, hsz, -, hlim⟩ := hf
  have hb : b ≤ 8 := by
    unfold Lz.ok at hok
    split at hok
    · have := eq_of_beq hok; omega
    · simp at hok; omega
  have HOK : Hid (∀ w', Calls Try.prog 36 #[.agg #[.int .i64 (b : Int), .bool wide]] w' fun e w'' => e = .returned (.bool true) ∧ Below w'.heap.size w' w'') := fun w' => by rw [← hok]; exact lzOk_any b wide w'
  have HNW : Hid (∀ w', Calls Try.prog 50 #[.string s, .agg #[.int .i64 (b : Int), .bool wide], .int .i64 (limit : Int)] w' (LzNew w' b wide s limit)) := fun w' => lzNew_any b limit wide s hb w'
  obtain ⟨W0, hW0⟩ : ∃ W0, W0 = (w.alloc (.cells #[.int .i64 (b : Int), .bool wide] 50)).alloc (.cells #[.func (.func 29) #[] #[]] 46) := ⟨_, rfl⟩
  have HB0 : Hid (Below w.heap.size w W0) := by show Below _ _ _; rw [hW0]; exact ((Below.refl _ _).alloc (Nat.le_refl _) _).alloc (by simp) _
  have hz0 : W0.heap.size = w.heap.size + 2 := by rw [hW0]; simp
  have HFB : Hid (Boxed W0 (w.heap.size + 1) 46 (.func (.func 29) #[] #[])) := by
    show Boxed _ _ _ _
    rw [hW0]
    exact duo1 ..
  have HCW : Hid (W0.cell? ⟨w.heap.size, 0, none⟩ = some (.int .i64 (b : Int)) ∧ W0.cell? ⟨w.heap.size, 1, none⟩ = some (.bool wide)) := by
    show _ ∧ _
    rw [hW0]
    exact ⟨(alloc_cell _ _ ⟨w.heap.size, 0, none⟩ (by simp)).trans (by simp), (alloc_cell _ _ ⟨w.heap.size, 1, none⟩ (by simp)).trans (by simp)⟩
  have HW0 : Hid (W0 = (w.alloc (.cells #[.int .i64 (b : Int), .bool wide] 50)).alloc (.cells #[.func (.func 29) #[] #[]] 46)) := hW0
  clear hW0
  have d1 : decide ((s.size : Int) > 9000) = false := decide_eq_false (by omega)
  have d2 : decide ((limit : Int) < 0) = false := decide_eq_false (by omega)
  have d3 : decide ((limit : Int) > 5000) = false := decide_eq_false (by omega)
  have hmf : ∀ (fn : Fn) (first cap : Array Value) (w : World), (Instr.makeFunc fn first cap).run Try.prog w = .ok (.func fn first cap) w := fun _ _ _ _ => rfl
  have HRS : Hid (Rs = Lz.go s b wide (8 * s.size + 1) 0 (Lz.start b) ⟨#[]⟩ limit) := hRs
  clear hRs hok
  go_enter Try.func30, Try.ntmps30
  go_wp2_with fail
  refine (HOK.out _).mono ?_
  rintro e w1 ⟨rfl, b1⟩
  rw [← HW0.out] at b1
  have HB1 : Hid (Below w.heap.size w w1) := HB0.out.trans (b1.mono (by omega))
  have hz1 : w.heap.size + 2 ≤ w1.heap.size := by have := b1.size; omega
  have HFB1 : Hid (Boxed w1 (w.heap.size + 1) 46 (.func (.func 29) #[] #[])) := (b1.block _ (by omega)).trans HFB.out
  have c10 : w1.cell? ⟨w.heap.size, 0, none⟩ = some (.int .i64 (b : Int)) := (b1.cell (p := ⟨w.heap.size, 0, none⟩) (by show w.heap.size < _; omega)).trans HCW.out.1
  have c11 : w1.cell? ⟨w.heap.size, 1, none⟩ = some (.bool wide) := (b1.cell (p := ⟨w.heap.size, 1, none⟩) (by show w.heap.size < _; omega)).trans HCW.out.2
  clear b1 HB0 HFB HCW HOK HW0 hz0
  go_wp2_with fail
  refine (HNW.out _).mono ?_
  rintro e w2 ⟨B, g, rfl, hl2, ho2, b2, hB2, hg2, hgB⟩
  have HB2 : Hid (Below w.heap.size w w2) := HB1.out.trans (b2.mono (by omega))
  have HFB2 : Hid (Boxed w2 (w.heap.size + 1) 46 (.func (.func 29) #[] #[])) := (b2.block _ (by omega)).trans HFB1.out
  have HL2 : Hid (LzR w2 B b wide s 0 (.slice (some ⟨g, 0, none⟩) (2 ^ b + 2) (2 ^ b + 2)) ⟨#[]⟩ limit ∧ OwnL w2 w1.heap.size (.slice (some ⟨g, 0, none⟩) (2 ^ b + 2) (2 ^ b + 2)) (2 ^ b + 2) (Lz.start b)) := ⟨hl2, ho2⟩
  have hBw := hl2.lt
  have hgw := (ho2.lt g rfl).2
  have hz2 := b2.size
  clear hl2 ho2 b2 HB1 HFB1 c10 c11 HNW
  obtain ⟨W4, hW4⟩ : ∃ W4, W4 = (w2.alloc (.cells #[.pointer (some ⟨B, 0, none⟩)] 79)).alloc (.cells #[.slice none 0 0] 22) := ⟨_, rfl⟩
  have hs4 : W4.heap.size = w2.heap.size + 2 := by rw [hW4]; simp
  have HB24 : Hid (Below w2.heap.size w2 W4) := by show Below _ _ _; rw [hW4]; exact ((Below.refl _ _).alloc (Nat.le_refl _) _).alloc (by simp) _
  have HX : Hid (Boxed W4 w2.heap.size 79 (.pointer (some ⟨B, 0, none⟩)) ∧ Boxed W4 (w2.heap.size + 1) 22 (.slice none 0 0)) := by
    show Boxed _ _ _ _ ∧ Boxed _ _ _ _
    rw [hW4]
    exact ⟨duo0 .., duo1 ..⟩
  have HWK : Hid (Calls Try.prog 52 #[.pointer (some ⟨w2.heap.size, 0, none⟩), .pointer (some ⟨w.heap.size + 1, 0, none⟩), .pointer (some ⟨w2.heap.size + 1, 0, none⟩)] (W4.alloc (.cells #[.int .i64 0] 3)) fun e w' => Boxed w' W4.heap.size 3 (.int .i64 0) ∧ ((∃ v, e = .returned v) ∧ LzYesB w Rs (w2.heap.size + 1) w' ∨ ∃ c, e = fault c ∧ LzNoB w Rs c w')) := by
    obtain ⟨x1, x2⟩ := HX.out
    have ba : Below W4.heap.size W4 (W4.alloc (.cells #[.int .i64 0] 3)) := (Below.refl _ _).alloc (Nat.le_refl _) _
    have b24 : Below w2.heap.size w2 (W4.alloc (.cells #[.int .i64 0] 3)) := HB24.out.trans (ba.mono (by omega))
    have hsa : (W4.alloc (.cells #[.int .i64 0] 3)).heap.size = w2.heap.size + 3 := by rw [World.size_alloc, hs4]
    refine (lzWorkB w2.heap.size (w.heap.size + 1) (w2.heap.size + 1) B b w1.heap.size g (2 ^ b + 2) (2 ^ b + 2) limit wide s Rs _ ((ba.block _ (by omega)).trans x1) ((b24.block _ (by omega)).trans HFB2.out) ((ba.block _ (by omega)).trans x2) (HL2.out.1.kept b24) (HL2.out.2.up b24) hb hsz (by omega) HRS.out (by omega) (by omega) (by omega) (by omega) (by omega) (by omega) hgB (by omega) (by omega) (by omega)).mono ?_
    intro e w' hwk
    have hfr : LzF B (w2.heap.size + 1) g (W4.alloc (.cells #[.int .i64 0] 3)) w' := by
      rcases hwk with ⟨-, dn, -, kv, -, -, h⟩ | ⟨c, -, -, -, h⟩ <;> exact h
    have hbel : Below w.heap.size w w' := by
      have h1 : Below w.heap.size w (W4.alloc (.cells #[.int .i64 0] 3)) := HB2.out.trans (b24.mono (by omega))
      exact ⟨hfr.os.trans h1.os, hfr.tape.trans h1.tape, hfr.output.trans h1.output, Nat.le_trans h1.size hfr.size, fun k hk => (hfr.block k (by omega) (by omega) (by omega) (by omega)).trans (h1.block k hk)⟩
    refine ⟨hfr.box (Boxed.new W4 3 (.int .i64 0)) (by omega) (by omega) (by omega), ?_⟩
    rcases hwk with ⟨hv, dn, hR, kv, hbx, hkp, -⟩ | ⟨c, he, hc, hR, -⟩
    · exact .inl ⟨hv, dn, kv, hR, hbx, hkp.down (by omega), hbel⟩
    · exact .inr ⟨c, he, hc, hR, hbel⟩
  have HFI : Hid (Calls Try.prog 51 #[.func (.func 52) #[] #[.pointer (some ⟨w2.heap.size, 0, none⟩), .pointer (some ⟨w.heap.size + 1, 0, none⟩), .pointer (some ⟨w2.heap.size + 1, 0, none⟩)]] W4 (FaultOut W4 (LzYesB w Rs (w2.heap.size + 1)) (LzNoB w Rs))) :=
    faultIn_any 52 _ (enters_of Try.func52 (by kernel_rfl) rfl) _ _ W4 HWK.out
  clear HWK HX HL2 HFB2 HB24 HRS
  have hW4' : (w2.alloc (.cells #[.pointer (some ⟨B, 0, none⟩)] 79)).alloc (.cells #[.slice none 0 0] 22) = W4 := hW4.symm
  clear hW4
  go_wp2_with fail
  refine HFI.out.mono ?_
  rintro e w7 ⟨w6, hb6, (⟨rfl, ⟨dn, kv, hR, hbx, hkp, g5⟩, ht⟩ | ⟨c, rfl, ⟨hc0, hR, g5⟩, ht⟩)⟩
  · have hb7 : Boxed w7 (w2.heap.size + 1) 22 kv := by rw [ht]; exact (Below.heap_setCell w6 ⟨W4.heap.size, 0, none⟩ _ _ (fun e => by have e2 : w2.heap.size + 1 = W4.heap.size := e; omega)).trans hbx
    have hk7 : KpB w7 w.heap.size kv dn := by
      rw [ht]
      exact (hkp.besides (fun k hk => Below.heap_setCell w6 ⟨W4.heap.size, 0, none⟩ _ k (fun e => by have e2 : k = W4.heap.size := e; have := (hkp.lt k hk).1; omega))).down (by omega)
    obtain ⟨ao, n, cap, rfl⟩ : ∃ ao n cap, kv = .slice ao n cap := by
      rcases hk7.2 with ⟨rfl, _⟩ | ⟨g, cap, cur, rfl, _⟩
      · exact ⟨_, _, _, rfl⟩
      · exact ⟨_, _, _, rfl⟩
    have HF : Hid (LzRdB w Rs (.returned (.tuple #[.slice ao n cap, .int .i64 0])) w7) := .inl ⟨dn, ao, n, cap, hR, rfl, hk7, by rw [ht]; exact g5.setCell (by show w.heap.size ≤ W4.heap.size; omega) _⟩
    have k1 := hb7.cell
    clear hb7 hk7 hR hbx hkp g5 ht hb6 HFI
    go_wp2_with fail
    exact bodyPost_ret (v := .tuple #[.slice ao n cap, .int .i64 0]) (by simp [results, Try.results30, go_sem]) rfl HF.out
  · have HF : Hid (LzRdB w Rs (.returned (.tuple #[.slice none 0 0, .int .i64 c])) w7) := .inr ⟨c, hc0, hR, rfl, by rw [ht]; exact g5.setCell (by show w.heap.size ≤ W4.heap.size; omega) _⟩
    have hcb : (c != 0) = true := by rw [bne_iff_ne]; exact hc0
    clear hR g5 ht hb6 HFI hc0
    go_wp2_with fail
    exact bodyPost_ret (v := .tuple #[.slice none 0 0, .int .i64 c]) (by simp [results, Try.results30, go_sem]) rfl HF.out
end Go.Proofs.Ytjfihmpnbblomaa

/- LzwGet of the program. -/
namespace Go.Proofs.Ytjfihmpnbblomaa
open Go.RowKit

set_option maxHeartbeats 1000000 in
theorem impl_lzwGet (s : ByteArray) (b : Int) (wide : Bool) (limit : Int) (w : World) (hs : s.size ≤ 3000000) :
    Calls Try.prog 9 #[.string s, .int .i64 b, .bool wide, .int .i64 limit] w fun e w' => e = .returned (.tuple #[.string ⟨(Lz.out (Lz.res s b wide limit)).toArray⟩, .int .i64 (Lz.code (Lz.res s b wide limit))]) ∧ Below w.heap.size w w' := by
  by_cases hf : LzFine s b wide limit
  · obtain ⟨B, rfl⟩ := Int.eq_ofNat_of_zero_le (show 0 ≤ b by have := Lz.ok_bd hf.1; omega)
    obtain ⟨M, rfl⟩ := Int.eq_ofNat_of_zero_le (show 0 ≤ limit from hf.2.2.1)
    have HR := fun w => lzReadB_yes s B M wide (Lz.res s B wide M) w hf (Lz.res_yes hf)
    generalize hRs : Lz.res s B wide M = R at *
    clear hRs
    have HRD : Hid (∀ w, Calls Try.prog 30 #[.string s, .agg #[.int .i64 (B : Int), .bool wide], .int .i64 (M : Int), .func (.func 29) #[] #[]] w (LzRdB w R)) := HR
    clear HR hf
    go_enter Try.func9, Try.ntmps9
    go_wp2_with fail
    refine (HRD.out _).mono ?_
    rintro e w1 (⟨dn, ao, n, cap, rfl, rfl, hk, bel⟩ | ⟨c, -, rfl, rfl, bel⟩)
    · have htx := OwnT.text hk
      clear HRD hk
      go_wp2_with fail
      go_ret2
      exact ⟨rfl, bel⟩
    · have htx := text_nilT w1
      go_wp2_with fail
      go_ret2
      exact ⟨rfl, bel⟩
  · have HRD : Hid (∀ w, Calls Try.prog 30 #[.string s, .agg #[.int .i64 b, .bool wide], .int .i64 limit, .func (.func 29) #[] #[]] w fun e w' => e = .returned (.tuple #[.slice none 0 0, .int .i64 1]) ∧ Below w.heap.size w w') := fun w => lzReadB_no s b limit wide w hs hf
    rw [Lz.res_no hf]
    clear hf
    go_enter Try.func9, Try.ntmps9
    go_wp2_with fail
    refine (HRD.out _).mono ?_
    rintro e w1 ⟨rfl, bel⟩
    have htx := text_nilT w1
    go_wp2_with fail
    go_ret2
    exact ⟨rfl, bel⟩
end Go.Proofs.Ytjfihmpnbblomaa

/- A text, bits, and whether it is wide, drawn of a code. -/
namespace Go.Proofs.Ytjfihmpnbblomaa
open Go.RowKit

theorem Only.drewW {B : Nat} {w w' : World} (h : Only B w w') : Only B w w'.drew := ⟨⟨h.below.os, h.below.tape, h.below.output, h.below.size, h.below.block⟩, h.rest⟩

/-- one byte in a block of its own -/
def LayO (v : Value) (w : World) (x : Nat) : Prop := ∃ b : Nat, v = .slice (some ⟨b, 0, none⟩) 1 1 ∧ w.cell? ⟨b, 0, none⟩ = some (.int .u8 (x : Int))
theorem LayO.kept {v : Value} {w w' : World} {x : Nat} (h : LayO v w x) (hb : Below w.heap.size w w') : LayO v w' x := by
  obtain ⟨b, h1, h2⟩ := h
  exact ⟨b, h1, (hb.cell (p := ⟨b, 0, none⟩) (World.block_lt_of_cell? w _ h2)).trans h2⟩
theorem layO_new (w : World) (x : Nat) : LayO (.slice (some ⟨w.heap.size, 0, none⟩) 1 1) (w.alloc (.cells #[.int .u8 (x : Int)] 5)) x := ⟨w.heap.size, rfl, by simp⟩
theorem layO_text {w : World} {b d : Nat} (h : w.cell? ⟨b, 0, none⟩ = some (.int .u8 (d : Int))) : Sem.run Try.prog (convert 22 9 (.slice (some ⟨b, 0, none⟩) 1 1)) w = .ok (.string ⟨#[UInt8.ofNat d]⟩) w := by
  refine run_text w ⟨b, 0, none⟩ 1 [d] ?_
  intro j v hj
  match j, hj with
  | 0, hj => simp at hj; subst hj; simpa [Addr.add] using h

set_option linter.unusedSimpArgs false in
set_option maxHeartbeats 2000000 in
set_option maxRecDepth 20000 in
theorem l14Low_any (B p b : Nat) (w : World) (hr : RdAt w B p) (hp : p ≤ 10000) (hb : b ≤ 8) :
    Calls Try.prog 34 #[.pointer (some ⟨B, 0, none⟩), .int .i64 (b : Int)] w fun e w' => (∃ t : ByteArray, e = .returned (.string t) ∧ t.size ≤ 9001) ∧ (∃ q, q ≤ p + 100 ∧ RdAt w' B q) ∧ Only B w w' := by
  have HTX : Hid (Calls Try.prog 27 #[.pointer (some ⟨B, 0, none⟩)] w fun e w' => (∃ t : ByteArray, e = .returned (.string t) ∧ t.size ≤ 9001 ∧ (t.size ≤ 2400 ∨ 9000 ≤ t.size)) ∧ (∃ q, q ≤ p + 100 ∧ RdAt w' B q) ∧ Only B w w') := text_two B p w hr (by omega)
  have HPW : Hid (∀ w', Calls Try.prog 35 #[.int .i64 (b : Int)] w' fun e w'' => e = .returned (.int .i64 ((2 ^ b : Nat) : Int)) ∧ w'' = w') := fun w' => l1Pow_any b w' (by omega)
  have hpw := Lz.pow_le hb
  have hp1 : 1 ≤ 2 ^ b := Nat.one_le_two_pow
  generalize 2 ^ b = P at *
  clear hr
  go_enter Try.func34, Try.ntmps34
  go_wp2_with fail
  refine HTX.out.mono ?_
  rintro e w1 ⟨⟨s, rfl, hs, -⟩, ⟨q, hq, hR1⟩, hO1⟩
  have HX : Hid (RdAt w1 B q ∧ Only B w w1) := ⟨hR1, hO1⟩
  clear hR1 hO1 HTX
  go_wp2_with fail
  go_loopw [6, 7] (fun tv iv wr => ∃ (k : Nat) (t : ByteArray), k ≤ s.size ∧ iv = .int .i64 (k : Int) ∧ tv = .string t ∧ t.size = k ∧ Hid (RdAt wr B q ∧ Only B w wr)) (fun _ iv _ => s.size - (intOf iv).toNat)
  case atStart => exact ⟨0, ⟨#[]⟩, Nat.zero_le _, rfl, rfl, rfl, HX⟩
  case round =>
    obtain ⟨k, t, hk, rfl, rfl, htk, HR⟩ := hrel
    clear HX
    have HTK : Hid (t.size = k) := htk
    by_cases hlt : k < s.size
    · obtain ⟨y, hy⟩ : ∃ y, y = (s[k]).toNat := ⟨_, rfl⟩
      have hsy : (s[k]).toNat = y := hy.symm
      have hyb : y < 256 := by rw [hy]; exact UInt8.toNat_lt _
      obtain ⟨z, hz⟩ : ∃ z, z = y % P := ⟨_, rfl⟩
      have hzb : z < 256 := by rw [hz]; exact Nat.lt_of_le_of_lt (Nat.mod_le _ _) hyb
      have e1 : (y : Int) % (P : Int) = (z : Int) := by rw [hz]; simp
      have e2 : (y : Int).tmod (P : Int) = (z : Int) := by rw [Int.tmod_eq_emod_of_nonneg (by omega)]; exact e1
      have e4 : IntKind.i64.wrap (y : Int) = (y : Int) := wrap_i64_nat y (by omega)
      have e3 : IntKind.i64.wrap (z : Int) = (z : Int) := wrap_i64_nat z (by omega)
      have hu := wrap_u8_small z hzb
      have hP0 : ¬ P = 0 := by omega
      have hki : (k : Int) < (s.size : Int) := by omega
      have hlz : ¬ 9223372036854775807 < t.size + 1 := by omega
      obtain ⟨X, hX⟩ : ∃ X : ByteArray, X = ⟨#[UInt8.ofNat z]⟩ := ⟨_, rfl⟩
      have hXs : X.size = 1 := by rw [hX]; rfl
      have HXX : Hid (X = ⟨#[UInt8.ofNat z]⟩) := hX
      clear hy hz hX htk
      go_wp2_with fail
      refine wp_region_told (S := (fun wy => RdAt wy B q ∧ Only B w wy)) 12 29 [.is (.string t), .is (.string s), .is (.int .i64 (k : Int)), .is (.int .u8 (y : Int)), .is (.int .i64 (y : Int)), .is (.int .i64 (b : Int)), .is (.int .i64 (P : Int)), .is (.int .i64 (z : Int)), .is (.int .u8 (z : Int)), .own (fun v w => LayO v w z) (fun _ _ _ b h => h.kept b), .is (.string X), .is (.string (t ++ X))] (by kernel_rfl) (by kernel_rfl) (by rfl) (fun _ _ _ _ hd h => ⟨hd.trans h.1, h.2⟩) (fun vs => by simp only [puts, List.getElem?_toArray, List.getElem?_cons_succ, List.getElem?_cons_zero, Option.bind_some, Act.put, List.setIfInBounds_toArray, List.set_cons_zero, List.set_cons_succ]; exact rfl) ⟨HR.out.1.drew, HR.out.2.drewW⟩ ?_ ?_
      · refine TellsFrom.cons rfl (fun vs wz hS hd K hK => ?_) ?_
        · try dsimp only at hK ⊢
          try simp only [List.getElem_toArray, List.getElem_cons_succ, List.getElem_cons_zero, Act.put, List.setIfInBounds_toArray, List.set_cons_zero, List.set_cons_succ]
              go_simp
          exact hK.out _ _ hS (Below.refl _ _) rfl
        refine TellsFrom.cons rfl (fun vs wz hS hd K hK => ?_) ?_
        · try dsimp only at hK ⊢
          try simp only [List.getElem_toArray, List.getElem_cons_succ, List.getElem_cons_zero, Act.put, List.setIfInBounds_toArray, List.set_cons_zero, List.set_cons_succ]
              go_simp
          exact hK.out _ _ hS (Below.refl _ _) rfl
        refine TellsFrom.cons rfl (fun vs wz hS hd K hK => ?_) ?_
        · try dsimp only at hK ⊢
          try simp only [List.getElem_toArray, List.getElem_cons_succ, List.getElem_cons_zero, Act.put, List.setIfInBounds_toArray, List.set_cons_zero, List.set_cons_succ]
              go_simp
          exact hK.out _ _ hS (Below.refl _ _) rfl
        refine TellsFrom.cons rfl (fun vs wz hS hd K hK => ?_) ?_
        · try dsimp only at hK ⊢
          have h1 : vs 1 = (.string s) := hd 1 (by kernel_rfl)
          generalize vs 1 = x1 at *
          subst h1
          have h2 : vs 2 = (.int .i64 (k : Int)) := hd 2 (by kernel_rfl)
          generalize vs 2 = x2 at *
          subst h2
          try simp only [List.getElem_toArray, List.getElem_cons_succ, List.getElem_cons_zero, Act.put, List.setIfInBounds_toArray, List.set_cons_zero, List.set_cons_succ]
              go_simp
          exact hK.out _ _ hS (Below.refl _ _) rfl
        refine TellsFrom.cons rfl (fun vs wz hS hd K hK => ?_) ?_
        · try dsimp only at hK ⊢
          have h3 : vs 3 = (.int .u8 (y : Int)) := hd 3 (by kernel_rfl)
          generalize vs 3 = x3 at *
          subst h3
          try simp only [List.getElem_toArray, List.getElem_cons_succ, List.getElem_cons_zero, Act.put, List.setIfInBounds_toArray, List.set_cons_zero, List.set_cons_succ]
              go_simp
          exact hK.out _ _ hS (Below.refl _ _) rfl
        refine TellsFrom.cons rfl (fun vs wz hS hd K hK => ?_) ?_
        · try dsimp only at hK ⊢
          try simp only [List.getElem_toArray, List.getElem_cons_succ, List.getElem_cons_zero, Act.put, List.setIfInBounds_toArray, List.set_cons_zero, List.set_cons_succ]
              go_simp
          exact hK.out _ _ hS (Below.refl _ _) rfl
        refine TellsFrom.cons rfl (fun vs wz hS hd K hK => ?_) ?_
        · try dsimp only at hK ⊢
          have h5 : vs 5 = (.int .i64 (b : Int)) := hd 5 (by kernel_rfl)
          generalize vs 5 = x5 at *
          subst h5
          try simp only [List.getElem_toArray, List.getElem_cons_succ, List.getElem_cons_zero, Act.put, List.setIfInBounds_toArray, List.set_cons_zero, List.set_cons_succ]
          go_simp
          refine (HPW.out _).mono ?_
          rintro e v1 ⟨rfl, hv1⟩
          subst hv1
          exact hK.out _ _ hS (Below.refl _ _) rfl
        refine TellsFrom.cons rfl (fun vs wz hS hd K hK => ?_) ?_
        · try dsimp only at hK ⊢
          have h4 : vs 4 = (.int .i64 (y : Int)) := hd 4 (by kernel_rfl)
          generalize vs 4 = x4 at *
          subst h4
          have h6 : vs 6 = (.int .i64 (P : Int)) := hd 6 (by kernel_rfl)
          generalize vs 6 = x6 at *
          subst h6
          try simp only [List.getElem_toArray, List.getElem_cons_succ, List.getElem_cons_zero, Act.put, List.setIfInBounds_toArray, List.set_cons_zero, List.set_cons_succ]
              go_simp
          exact hK.out _ _ hS (Below.refl _ _) rfl
        refine TellsFrom.cons rfl (fun vs wz hS hd K hK => ?_) ?_
        · try dsimp only at hK ⊢
          have h7 : vs 7 = (.int .i64 (z : Int)) := hd 7 (by kernel_rfl)
          generalize vs 7 = x7 at *
          subst h7
          try simp only [List.getElem_toArray, List.getElem_cons_succ, List.getElem_cons_zero, Act.put, List.setIfInBounds_toArray, List.set_cons_zero, List.set_cons_succ]
              go_simp
          exact hK.out _ _ hS (Below.refl _ _) rfl
        refine TellsFrom.cons rfl (fun vs wz hS hd K hK => ?_) ?_
        · try dsimp only at hK ⊢
          have h8 : vs 8 = (.int .u8 (z : Int)) := hd 8 (by kernel_rfl)
          generalize vs 8 = x8 at *
          subst h8
          try simp only [List.getElem_toArray, List.getElem_cons_succ, List.getElem_cons_zero, Act.put, List.setIfInBounds_toArray, List.set_cons_zero, List.set_cons_succ]
          go_simp
          exact hK.out _ _ ⟨hS.1.alloc _, hS.2.alloc hS.1.lt _⟩ ((Below.refl _ _).alloc (Nat.le_refl _) _) (layO_new wz z)
        refine TellsFrom.cons rfl (fun vs wz hS hd K hK => ?_) ?_
        · try dsimp only at hK ⊢
          have h9 : LayO (vs 9) wz z := hd 9 (by kernel_rfl)
          generalize vs 9 = x9 at *
          obtain ⟨B9, rfl, hC9⟩ := h9
          try simp only [List.getElem_toArray, List.getElem_cons_succ, List.getElem_cons_zero, Act.put, List.setIfInBounds_toArray, List.set_cons_zero, List.set_cons_succ]
          have ht : Sem.run Try.prog (convert 22 9 (.slice (some ⟨B9, 0, none⟩) 1 1)) wz = .ok (.string X) wz := by rw [HXX.out]; exact layO_text hC9
          go_simp
          exact hK.out _ _ hS (Below.refl _ _) rfl
        refine TellsFrom.cons rfl (fun vs wz hS hd K hK => ?_) ?_
        · try dsimp only at hK ⊢
          have h0 : vs 0 = (.string t) := hd 0 (by kernel_rfl)
          generalize vs 0 = x0 at *
          subst h0
          have h10 : vs 10 = (.string X) := hd 10 (by kernel_rfl)
          generalize vs 10 = x10 at *
          subst h10
          try simp only [List.getElem_toArray, List.getElem_cons_succ, List.getElem_cons_zero, Act.put, List.setIfInBounds_toArray, List.set_cons_zero, List.set_cons_succ]
              go_simp
          exact hK.out _ _ hS (Below.refl _ _) rfl
        exact TellsFrom.nil
      · intro vs wz hS hd
        try dsimp only
        have h11 : vs 11 = .string (t ++ X) := hd 11 (by omega)
        clear hd
        generalize vs 0 = y0 at *
        generalize vs 1 = y1 at *
        generalize vs 2 = y2 at *
        generalize vs 3 = y3 at *
        generalize vs 4 = y4 at *
        generalize vs 5 = y5 at *
        generalize vs 6 = y6 at *
        generalize vs 7 = y7 at *
        generalize vs 8 = y8 at *
        generalize vs 9 = y9 at *
        generalize vs 10 = y10 at *
        generalize vs 11 = y11 at *
        subst h11
        have HF : Hid (RdAt wz B q ∧ Only B w wz) := hS
        clear hS
        refine wpAnyH_take (i := 12) (v := .string (t ++ X)) rfl (by kernel_rfl) (by kernel_rfl) (by kernel_rfl) (fun _ _ _ h => h) (Or.inl ⟨by rfl, ?_⟩) trivial ?_
        · intro wy _
          go_simp
        try simp only [List.getElem_toArray, List.getElem_cons_succ, List.getElem_cons_zero, Act.put, List.setIfInBounds_toArray, List.set_cons_zero, List.set_cons_succ]
        refine wpAnyH_done (by kernel_rfl) ?_ _
        try simp only [List.getElem_toArray, List.getElem_cons_succ, List.getElem_cons_zero, Act.put, List.setIfInBounds_toArray, List.set_cons_zero, List.set_cons_succ]
        go_wp2_with fail
        go_roundw
        case rel => exact ⟨k + 1, _, by omega, by go_num, rfl, by rw [ByteArray.size_append, hXs, HTK.out], HF⟩
        case measure => simp [intOf]; omega
    · have HF : Hid ((∃ q', q' ≤ p + 100 ∧ RdAt wr B q') ∧ Only B w wr) := ⟨⟨q, hq, HR.out.1⟩, HR.out.2⟩
      have hts : t.size ≤ 9001 := by omega
      clear htk
      go_wp2_with fail
      go_ret
      exact ⟨⟨t, rfl, hts⟩, HF.out⟩
end Go.Proofs.Ytjfihmpnbblomaa

/- A text, bits, and whether it is wide, drawn of a code: DrawLzwPut. -/
namespace Go.Proofs.Ytjfihmpnbblomaa
open Go.RowKit

/-- what is drawn -/
def LzwDrawn (w : World) (e : Ending) (w' : World) : Prop :=
  (∃ (t : ByteArray) (b : Nat) (wide : Bool), e = .returned (.tuple #[.string t, .int .i64 (b : Int), .bool wide]) ∧ t.size ≤ 9002 ∧ b ≤ 9) ∧ Below w.heap.size w w'
theorem lzwDrawn_mk {w w' : World} {e : Ending} (t : ByteArray) (b : Nat) (wide : Bool) (h1 : e = .returned (.tuple #[.string t, .int .i64 (b : Int), .bool wide])) (h2 : t.size ≤ 9002) (h3 : b ≤ 9) (h4 : Below w.heap.size w w') : LzwDrawn w e w' := ⟨⟨t, b, wide, h1, h2, h3⟩, h4⟩
/-- the reader, and what lies below it -/
def LzwAt (B : Nat) (w wr : World) (q : Nat) : Prop := RdAt wr B q ∧ Below B w wr
theorem LzwAt.only {B q q' : Nat} {w wr wx : World} (h : LzwAt B w wr q) (ho : Only B wr wx) (hr : RdAt wx B q') : LzwAt B w wx q' := ⟨hr, h.2.trans ho.below⟩
theorem LzwAt.alloc {B q : Nat} {w wr : World} (h : LzwAt B w wr q) (o : Obj) : LzwAt B w (wr.alloc o) q := ⟨h.1.alloc _, h.2.alloc (Nat.le_of_lt h.1.lt) _⟩
theorem OwnT.only {B base n : Nat} {w w' : World} {v : Value} {l : List UInt8} (h : OwnT w base v n l) (ho : Only B w w') (hb : B < base) : OwnT w' base v n l :=
  ownsRow_besides h (fun k hk => ho.rest k (World.ownsRow.lt h k hk).2 (fun e => by have := (World.ownsRow.lt h k hk).1; omega))
theorem ownT_none (w : World) : OwnT (w.alloc (.cells #[] 5)) w.heap.size (.slice (some ⟨w.heap.size, 0, none⟩) 0 0) 0 [] := World.ownsRow_lit w #[] 0 (Nat.le_refl _) (by decide) rfl
theorem two_cell (W : World) (j : Nat) (hj : j < 2) : (W.alloc (.cells #[.int .i64 1, .int .i64 9] 3)).cell? ⟨W.heap.size, j, none⟩ = some (.int .i64 ((1 + 8 * j : Nat) : Int)) := by
  rw [World.cell?_alloc_at _ _ _ _ rfl]
  have h : j = 0 ∨ j = 1 := by omega
  rcases h with rfl | rfl <;> rfl

set_option linter.unusedSimpArgs false in
set_option maxHeartbeats 4000000 in
set_option maxRecDepth 20000 in
theorem drawLzwPut_any (a : Option Addr) (len cap : Nat) (w : World) (h : Code8 w a len cap) :
    Calls Try.prog 12 #[.slice a len cap] w (LzwDrawn w) := by
  have HOP : Hid (Calls Try.prog 23 #[.slice a len cap] w fun e w' => e = .returned (.pointer (some ⟨w.heap.size, 0, none⟩)) ∧ RdAt w' w.heap.size 0 ∧ Below w.heap.size w w') := open_any a len cap w h
  clear h
  go_enter Try.func12, Try.ntmps12
  go_wp2_with fail
  refine HOP.out.mono ?_
  rintro e w1 ⟨rfl, hR1, b1⟩
  clear HOP
  obtain ⟨B, hB⟩ : ∃ B, B = w.heap.size := ⟨_, rfl⟩
  have H1 : Hid (LzwAt B w w1 0) := by show LzwAt _ _ _ _; rw [hB]; exact ⟨hR1, b1⟩
  rw [← hB]
  have HBB : Hid (B = w.heap.size) := hB
  clear hB hR1 b1
  go_wp2_with fail
  refine (pick_named B 0 _ _ H1.out.1 (by omega) (by omega) (by omega)).mono ?_
  rintro e w2 ⟨x0, rfl, hx0, hR, hO, -⟩
  have H2 : Hid (LzwAt B w w2 1) := H1.out.only hO hR
  clear hR hO H1
  go_wp2_with fail
  refine (pick_named B 1 _ _ H2.out.1 (by omega) (by omega) (by omega)).mono ?_
  rintro e w3 ⟨y, rfl, hy, hR, hO, -⟩
  have H3 : Hid (LzwAt B w w3 2) := H2.out.only hO hR
  clear hR hO H2
  obtain ⟨wide, hwd⟩ : ∃ wide : Bool, ((y : Int) == 0) = wide := ⟨_, rfl⟩
  go_upto_region 4 with fail
  go_cut [19, 20, 24] from 21 to 24 (fun _ _ c wc => ∃ (cb : Bool) (q : Nat), c = .bool cb ∧ q ≤ 3 ∧ Hid (LzwAt B w wc q))
  case first =>
    cases wide with
    | false =>
      go_wp2_with fail
      go_meet
      case rel => exact ⟨_, 2, rfl, by omega, H3⟩
    | true =>
      go_wp2_with fail
      refine (pick_named B 2 _ _ H3.out.1 (by omega) (by omega) (by omega)).mono ?_
      rintro e w4 ⟨z, rfl, hz, hR, hO, -⟩
      have H4 : Hid (LzwAt B w w4 3) := H3.out.only hO hR
      clear hR hO H3
      go_wp2_with fail
      go_meet
      case rel => exact ⟨_, 3, rfl, by omega, H4⟩
  obtain ⟨cb, q, rfl, hq, HA⟩ := hcut
  clear H3 hwd
  go_upto_if 24 with fail
  go_cut [6] from 25 to 26 (fun x wc' => ∃ b : Nat, x = .int .i64 (b : Int) ∧ 2 ≤ b ∧ b ≤ 8 ∧ wc' = wc)
  case first =>
    cases cb with
    | false =>
      go_wp2_with fail
      go_meet
      case rel => exact ⟨2 + x0, by go_num, by omega, by omega, rfl⟩
    | true =>
      go_wp2_with fail
      go_meet
      case rel => exact ⟨8, by go_num, by omega, by omega, rfl⟩
  obtain ⟨b, rfl, hb2, hb8, hwc⟩ := hcut
  subst hwc
  clear hx0
  go_wp2_with fail
  refine (l14Low_any B q b _ HA.out.1 (by omega) hb8).mono ?_
  rintro e w5 ⟨⟨t, rfl, hts⟩, ⟨q5, hq5, hR⟩, hO⟩
  have H5 : Hid (LzwAt B w w5 q5) := HA.out.only hO hR
  clear hR hO HA
  go_wp2_with fail
  refine (pick_named B q5 _ _ H5.out.1 (by omega) (by omega) (by omega)).mono ?_
  rintro e w6 ⟨v, rfl, hv, hR, hO, -⟩
  have H6 : Hid (LzwAt B w w6 (q5 + 1)) := H5.out.only hO hR
  clear hR hO H5
  obtain ⟨vb, hvb⟩ : ∃ vb : Bool, ((v : Int) == 0) = vb := ⟨_, rfl⟩
  go_upto_if 30 with fail
  go_cut [8, 9, 10] from 31 to 48 (fun x _ _ wc => ∃ (t : ByteArray) (q : Nat), x = .string t ∧ t.size ≤ 9001 ∧ q ≤ 10000 ∧ Hid (LzwAt B w wc q))
  case first =>
    cases vb with
    | false =>
      go_wp2_with fail
      go_meet
      case rel => exact ⟨t, q5 + 1, rfl, hts, by omega, H6⟩
    | true =>
      have hB6 := H6.out.1.lt
      have H7 : Hid (LzwAt B w (w6.alloc (.cells #[] 5)) (q5 + 1)) := H6.out.alloc _
      have O7 : Hid (OwnT (w6.alloc (.cells #[] 5)) (B + 1) (.slice (some ⟨w6.heap.size, 0, none⟩) 0 0) 0 []) := by
        refine ⟨rfl, .inr ⟨w6.heap.size, 0, #[], rfl, by omega, heap_alloc_new w6 _, Nat.le_refl _, Nat.zero_le _, rfl, rfl⟩⟩
      clear H6
      go_wp2_with fail
      refine (pick_named B (q5 + 1) _ _ H7.out.1 (by omega) (by omega) (by omega)).mono ?_
      rintro e w8 ⟨m, rfl, hm, hR, hO, -⟩
      have H8 : Hid (LzwAt B w w8 (q5 + 2)) := H7.out.only hO hR
      have O8 : Hid (OwnT w8 (B + 1) (.slice (some ⟨w6.heap.size, 0, none⟩) 0 0) 0 []) := O7.out.only hO (by omega)
      clear hR hO H7 O7
      have HPW : Hid (∀ w', Calls Try.prog 35 #[.int .i64 (b : Int)] w' fun e w'' => e = .returned (.int .i64 ((2 ^ b : Nat) : Int)) ∧ w'' = w') := fun w' => l1Pow_any b w' (by omega)
      have hpw := Lz.pow_le hb8
      have hp1 : 1 ≤ 2 ^ b := Nat.one_le_two_pow
      generalize 2 ^ b = P at *
      go_wp2_with fail
      go_loopw [9, 10] (fun bv nv wr => ∃ (k q n : Nat) (l : List UInt8), nv = .int .i64 (k : Int) ∧ k + n ≤ 4899 ∧ q + k ≤ q5 + 2 + 4899 ∧ Hid (OwnT wr (B + 1) bv n l) ∧ Hid (LzwAt B w wr q)) (fun _ nv _ => (intOf nv).toNat)
      case atStart => exact ⟨4100 + m, q5 + 2, 0, [], by go_num, by omega, by omega, O8, H8⟩
      case round =>
        obtain ⟨k, q, n, l, rfl, hkn, hqk, HO, HL⟩ := hrel
        clear O8 H8
        by_cases hk : 0 < k
        · have hki : (0 : Int) < (k : Int) := by omega
          have hBr := HL.out.1.lt
          go_wp2_with fail
          refine (HPW.out _).mono ?_
          rintro e w9 ⟨rfl, hw9⟩
          replace hw9 := hw9.symm
          subst hw9
          go_wp2_with fail
          refine (pick_named B q _ _ HL.out.1 (by omega) (by omega) (by omega)).mono ?_
          rintro e w10 ⟨y2, rfl, hy2, hR, hO, -⟩
          have HL2 : Hid (LzwAt B w w10 (q + 1)) := HL.out.only hO hR
          have HO2 : Hid (OwnT w10 (B + 1) u9 n l) := HO.out.only hO (by omega)
          have hu := wrap_u8_small y2 (by omega)
          have hB10 := hR.lt
          clear hR hO HL HO
          have hyc : (y2 : Int) = (((UInt8.ofNat y2).toNat : Nat) : Int) := by
            rw [UInt8.toNat_ofNat']
            omega
          have HYC : Hid ((y2 : Int) = (((UInt8.ofNat y2).toNat : Nat) : Int)) := hyc
          clear hyc
          go_wp2_with (at_builtin; refine wpList_appT1 w10 (by rfl) _ _ (by rfl) (B + 1) _ n l (y2 : Int) (UInt8.ofNat y2) HYC.out (by rfl) HO2.out (by rfl) (by omega) (by omega) ?_)
          intro g2 cap2 w11 ho11 hg11
          have HL11 : Hid (LzwAt B w w11 (q + 1)) := by
            have hbB : Below (B + 1) w10 w11 := hg11.below (Below.refl _ _) (Nat.le_refl _) (by omega)
            exact ⟨HL2.out.1.kept hbB, HL2.out.2.trans (hbB.mono (by omega))⟩
          have HO11 : Hid (OwnT w11 (B + 1) (.slice (some ⟨g2, 0, none⟩) (n + 1) cap2) (n + 1) (l ++ [UInt8.ofNat y2])) := ho11
          have ek : (k : Int) - 1 = ((k - 1 : Nat) : Int) := by omega
          clear ho11 hg11 HL2 HO2
          go_wp2_with fail
          go_roundw
          case rel => exact ⟨k - 1, q + 1, n + 1, _, by first | rfl | (rw [ek]) | go_num, by omega, by omega, HO11, HL11⟩
          case measure => simp [intOf]; omega
        · have hk0 : k = 0 := by omega
          subst hk0
          obtain ⟨T, hT⟩ : ∃ T : ByteArray, T = ⟨l.toArray⟩ := ⟨_, rfl⟩
          have htx := HO.out.text
          rw [← hT] at htx
          have hTs : T.size ≤ 9001 := by
            have h1 := HO.out.len
            have h2 : T.size = l.length := by rw [hT]; simp [ByteArray.size]
            omega
          clear hT
          go_wp2_with fail
          go_meet
          case rel => exact ⟨T, q, rfl, hTs, by omega, HL⟩
  obtain ⟨t2, q6, rfl, hts2, hq6, HA6⟩ := hcut
  clear H6 hts hvb
  go_wp2_with fail
  refine (pick_named B q6 _ _ HA6.out.1 (by omega) (by omega) (by omega)).mono ?_
  rintro e w7 ⟨v7, rfl, hv7, hR, hO, -⟩
  have H7 : Hid (LzwAt B w w7 (q6 + 1)) := HA6.out.only hO hR
  clear hR hO HA6
  by_cases h0 : v7 = 0
  · subst h0
    have H8 : Hid (LzwAt B w (w7.alloc (.cells #[.int .i64 1, .int .i64 9] 3)) (q6 + 1)) := H7.out.alloc _
    have hWB : w7.heap.size ≠ B := by have := H7.out.1.lt; omega
    go_wp2_with fail
    refine (pick_named B (q6 + 1) _ _ H8.out.1 (by omega) (by omega) (by omega)).mono ?_
    rintro e w8 ⟨j, rfl, hj, hR, hO, -⟩
    have hcj : w8.cell? ⟨w7.heap.size, j, none⟩ = some (.int .i64 ((1 + 8 * j : Nat) : Int)) := (hO.cell w7.heap.size j (by simp) hWB).trans (two_cell w7 j (by omega))
    have H9 : Hid (Below w.heap.size w w8) := by rw [← HBB.out]; exact (H8.out.only hO hR).2
    have hjn : j < 2 := by omega
    have hjb : 1 + 8 * j ≤ 9 := by omega
    obtain ⟨b9, hb9⟩ : ∃ b9 : Nat, b9 = 1 + 8 * j := ⟨_, rfl⟩
    rw [← hb9] at hcj hjb
    clear hR hO H8 H7 hb9
    go_wp2_with fail
    exact bodyPost_ret (v := .tuple #[.string t2, .int .i64 (b9 : Int), .bool wide]) (by simp [results, Try.results12, go_sem]) rfl (lzwDrawn_mk _ _ _ rfl (by omega) hjb H9.out)
  · have g0 : ((v7 : Int) == 0) = false := by rw [beq_eq_false_iff_ne]; omega
    have H9 : Hid (Below w.heap.size w w7) := by rw [← HBB.out]; exact H7.out.2
    clear H7
    by_cases h1 : v7 = 1
    · subst h1
      obtain ⟨T, hT⟩ : ∃ T : ByteArray, t2 ++ ⟨#[255]⟩ = T := ⟨_, rfl⟩
      have hTs : T.size ≤ 9002 := by rw [← hT, ByteArray.size_append]; have : (ByteArray.mk #[255]).size = 1 := rfl; omega
      have hlz : ¬ 9223372036854775807 < t2.size + 1 := by omega
      go_wp2_with fail
      first | rw [hT] | skip
      exact bodyPost_ret (v := .tuple #[.string T, .int .i64 (b : Int), .bool wide]) (by simp [results, Try.results12, go_sem]) rfl (lzwDrawn_mk _ _ _ rfl hTs (by omega) H9.out)
    · have g1 : ((v7 : Int) == 1) = false := by rw [beq_eq_false_iff_ne]; omega
      go_wp2_with fail
      exact bodyPost_ret (v := .tuple #[.string t2, .int .i64 (b : Int), .bool wide]) (by simp [results, Try.results12, go_sem]) rfl (lzwDrawn_mk _ _ _ rfl (by omega) (by omega) H9.out)
end Go.Proofs.Ytjfihmpnbblomaa

/- All numbers of a text are read: the work inside lzwRead[int]. -/
namespace Go.Proofs.Ytjfihmpnbblomaa
open Go.RowKit

/-- what was kept -/
def LzKeptI (w wr : World) (B KB g0 : Nat) (dn : List (Nat × ByteArray)) : Prop :=
  ∃ kv, Boxed wr KB 33 kv ∧ KpI wr w.heap.size kv dn ∧ LzF B KB g0 w wr
/-- how far it is -/
structure LzGoesI (w wr : World) (B b : Nat) (wide : Bool) (s : ByteArray) (KB g0 lo : Nat) (Rs : Except Int (List (Nat × ByteArray))) (dn : List (Nat × ByteArray)) (kv : Value) (p : Nat) (l : List ByteArray) (last : ByteArray) (left g n cap f : Nat) : Prop where
  rdr : LzR wr B b wide s p (.slice (some ⟨g, 0, none⟩) n cap) last left
  own : OwnL wr lo (.slice (some ⟨g, 0, none⟩) n cap) n l
  gB : g ≠ B
  gg : g = g0 ∨ w.heap.size ≤ g
  cap_ : n ≤ cap
  good : Lz.Good b l last
  left_ : left ≤ 5000
  p_ : p ≤ 8 * s.size
  f_ : 8 * s.size + 1 ≤ p + f
  d_ : dn.length ≤ p
  z_ : (textsOf dn).length + left ≤ 5000
  rs : Rs = (Lz.go s b wide f p l last left).map (dn ++ ·)
  box : Boxed wr KB 33 kv
  kept : KpI wr w.heap.size kv dn
  frame : LzF B KB g0 w wr
def LzInvI (w : World) (B b : Nat) (wide : Bool) (s : ByteArray) (KB g0 lo : Nat) (Rs : Except Int (List (Nat × ByteArray))) (e : Value) (wr : World) : Prop :=
  (e = .bool true ∧ ∃ dn, Rs = .ok dn ∧ LzKeptI w wr B KB g0 dn) ∨
  (e = .bool false ∧ ∃ dn kv p l last left g n cap f, LzGoesI w wr B b wide s KB g0 lo Rs dn kv p l last left g n cap f)
def lzMeasI (B z : Nat) (e : Value) (wr : World) : Nat :=
  match e with
  | .bool true => 0
  | _ => match wr.cell? ⟨B, 4, none⟩ with
    | some (.int _ p) => 8 * z + 1 - p.toNat
    | _ => 0

/-- how the work ends -/
def LzWkI (w : World) (B KB g0 : Nat) (Rs : Except Int (List (Nat × ByteArray))) (e : Ending) (w' : World) : Prop :=
  ((∃ v, e = .returned v) ∧ ∃ dn, Rs = .ok dn ∧ LzKeptI w w' B KB g0 dn) ∨ ∃ c, e = fault c ∧ c ≠ 0 ∧ Rs = .error c ∧ LzF B KB g0 w w'

theorem map_moreI (X : Except Int (List (Nat × ByteArray))) (dn : List (Nat × ByteArray)) (z : Nat × ByteArray) : (X.map (z :: ·)).map (dn ++ ·) = X.map ((dn ++ [z]) ++ ·) := by
  cases X <;> simp [Except.map]

set_option linter.unusedSimpArgs false in
set_option maxHeartbeats 4000000 in
set_option maxRecDepth 20000 in
theorem lzWorkI (IB FB KB B b lo g0 n0 cap0 limit : Nat) (wide : Bool) (s : ByteArray) (Rs : Except Int (List (Nat × ByteArray))) (w : World)
    (hIB : Boxed w IB 79 (.pointer (some ⟨B, 0, none⟩))) (hFB : Boxed w FB 73 (.func (.func 47) #[] #[])) (hKB : Boxed w KB 33 (.slice none 0 0))
    (h : LzR w B b wide s 0 (.slice (some ⟨g0, 0, none⟩) n0 cap0) ⟨#[]⟩ limit) (ho : OwnL w lo (.slice (some ⟨g0, 0, none⟩) n0 cap0) n0 (Lz.start b)) (hb : b ≤ 8) (hsz : s.size ≤ 9000) (hlim : limit ≤ 5000)
    (hRs : Rs = Lz.go s b wide (8 * s.size + 1) 0 (Lz.start b) ⟨#[]⟩ limit)
    (d1 : IB ≠ B) (d2 : IB ≠ KB) (d3 : IB ≠ g0) (d4 : FB ≠ B) (d5 : FB ≠ KB) (d6 : FB ≠ g0) (d7 : g0 ≠ B) (d8 : KB ≠ B) (d9 : KB ≠ g0) (hlo : lo ≤ w.heap.size) :
    Calls Try.prog 67 #[.pointer (some ⟨IB, 0, none⟩), .pointer (some ⟨FB, 0, none⟩), .pointer (some ⟨KB, 0, none⟩)] w (LzWkI w B KB g0 Rs) := by
  have start : LzInvI w B b wide s KB g0 lo Rs (.bool false) w := .inr ⟨rfl, [], .slice none 0 0, 0, Lz.start b, ⟨#[]⟩, limit, g0, n0, cap0, 8 * s.size + 1,
    { rdr := h, own := ho, gB := d7, gg := .inl rfl, cap_ := own_capL ho, good := Lz.good_start hb, left_ := hlim, p_ := by omega, f_ := by omega, d_ := by simp, z_ := by simp [textsOf]; omega, rs := by rw [hRs]; cases Lz.go s b wide (8 * s.size + 1) 0 (Lz.start b) ⟨#[]⟩ limit <;> simp [Except.map], box := hKB, kept := kpI_nil w _, frame := LzF.refl _ _ _ _ }⟩
  have HST : Hid (LzInvI w B b wide s KB g0 lo Rs (.bool false) w) := start
  have HK : Hid (Boxed w IB 79 (.pointer (some ⟨B, 0, none⟩)) ∧ Boxed w FB 73 (.func (.func 47) #[] #[]) ∧ Boxed w KB 33 (.slice none 0 0) ∧ B < w.heap.size) := ⟨hIB, hFB, hKB, h.lt⟩
  have HEN : Hid (∀ w', Calls Try.prog 42 #[.agg #[.int .i64 (b : Int), .bool wide]] w' fun e w'' => e = .returned (.int .i64 ((2 ^ b + 1 : Nat) : Int)) ∧ Below w'.heap.size w' w'') := fun w' => lzEnd_any b hb wide w'
  clear hIB hFB hKB h ho start hRs
  go_enter Try.func67, Try.ntmps67
  go_wp2_with fail
  go_loopw [3] (fun e wr => LzInvI w B b wide s KB g0 lo Rs e wr) (fun e wr => lzMeasI B s.size e wr)
  case atStart => exact HST.out
  case round =>
    clear HST
    rcases hrel with ⟨rfl, dn, hR, hK⟩ | ⟨rfl, dn, kv, p, l, last, left, g, n, cap, f, hG⟩
    · have HFIN : Hid (LzWkI w B KB g0 Rs (.returned (.tuple #[])) wr) := .inl ⟨⟨_, rfl⟩, dn, hR, hK⟩
      clear hR hK
      go_wp2_with fail
      go_end0
      exact HFIN.out
    · have HGO : Hid (LzGoesI w wr B b wide s KB g0 lo Rs dn kv p l last left g n cap f) := hG
      clear hG
      have hms : lzMeasI B s.size (.bool false) wr = 8 * s.size + 1 - p := by
        unfold lzMeasI
        rw [HGO.out.rdr.rd.c2]
        simp
      have HMS : Hid (lzMeasI B s.size (.bool false) wr = 8 * s.size + 1 - p) := hms
      clear hms
      have hp := HGO.out.p_
      have hdl := HGO.out.d_
      have hzl := HGO.out.z_
      have ci := (HGO.out.frame.box HK.out.1 d1 d2 d3).cell
      go_wp2_with fail
      refine (lzTake_any B b p left lo n g cap wide s last l wr hb hsz hp HGO.out.rdr HGO.out.own HGO.out.gB (Nat.le_trans hlo HGO.out.frame.size) HGO.out.cap_ HGO.out.good HGO.out.left_).mono ?_
      rintro e w1 (⟨c, hc0, hst, rfl, hg1⟩ | ⟨v, t, l2, last2, left2, hst, rfl, hpN, hgood2, hleft2, hln⟩)
      · have HFIN : Hid (LzWkI w B KB g0 Rs (fault c) w1) := .inr ⟨c, rfl, hc0, by
          obtain ⟨f', rfl⟩ : ∃ f', f = f' + 1 := ⟨f - 1, by have := HGO.out.f_; omega⟩
          rw [HGO.out.rs, Lz.go_err hst]; rfl, HGO.out.frame.take hg1 HGO.out.gg⟩
        clear hst hg1 HGO ci
        unfold fault
        go_wp2_with fail
        exact ⟨rfl, HFIN.out⟩
      · have HSTP : Hid (Lz.step s b wide p l last left = .ok (v, t, l2, last2, left2) ∧ p + Lz.width b wide l.length ≤ 8 * s.size ∧ Lz.Good b l2 last2 ∧ left2 ≤ 5000) := ⟨hst, hpN, hgood2, hleft2⟩
        have hlf := Lz.step_left hst
        obtain ⟨g2, n2, cap2, hg2B, hcap2, hr2, ho2, hg2⟩ := hln
        have HR2 : Hid (LzR w1 B b wide s (p + Lz.width b wide l.length) (.slice (some ⟨g2, 0, none⟩) n2 cap2) last2 left2) := hr2
        have HO2 : Hid (OwnL w1 lo (.slice (some ⟨g2, 0, none⟩) n2 cap2) n2 l2) := ho2
        have HF1 : Hid (LzF B KB g0 w w1) := HGO.out.frame.take hg2 HGO.out.gg
        have hKBg : KB ≠ g := fun e => by
          rcases HGO.out.gg with e2 | e2
          · exact d9 (e.trans e2)
          · have := HK.out.2.2.1.lt; omega
        have hgk : kv.ownBlock ≠ some g := HGO.out.kept.apart HGO.out.own
        have HKB1 : Hid (Boxed w1 KB 33 kv) := (hg2.block KB HGO.out.box.lt d8 (fun e => hKBg (by cases e; rfl))).trans HGO.out.box
        have HKV1 : Hid (KpI w1 w.heap.size kv dn) := HGO.out.kept.besides (fun k hk => hg2.block k (HGO.out.kept.lt k hk).2 (fun e => by have := (HGO.out.kept.lt k hk).1; have := HK.out.2.2.2; omega) (fun e => hgk (by rw [hk, e]; rfl)))
        have HGG2 : Hid (g2 = g0 ∨ w.heap.size ≤ g2) := by
          rcases hg2.at_ with e2 | e2
          · have e3 : g2 = g := by cases e2; rfl
            rw [e3]; exact HGO.out.gg
          · exact .inr (Nat.le_trans HGO.out.frame.size (e2 g2 rfl))
        have cf := (HF1.out.box HK.out.2.1 d4 d5 d6).cell
        have ck := HKB1.out.cell
        have kf := HKB1.out.frozen
        have hs1 : w.heap.size ≤ w1.heap.size := HF1.out.size
        clear hst hpN hgood2 hleft2 hr2 ho2 hg2 ci hgk
        have HNEW : Hid (∀ k, kv.ownBlock = some k → w.heap.size ≤ k) := fun k hk => (HKV1.out.lt k hk).1
        have hKBw := HK.out.2.2.1.lt
        have hBw := HK.out.2.2.2
        have hg2w := (HO2.out.lt g2 rfl).2
        have hgk2 : kv.ownBlock ≠ some g2 := HKV1.out.apart HO2.out
        have hg2K : g2 ≠ KB := fun e => by
          rcases HGG2.out with e2 | e2
          · exact d9 (e.symm.trans e2)
          · omega
        go_wp2_with fail
        refine (lzKeepI w.heap.size kv dn v t w1 HKV1.out (by omega) (by omega) hs1).mono ?_
        rintro e w2 ⟨ao, M, cap3, rfl, ho3, hg3⟩
        have hw12 := hg3.size
        have hKB2 : Boxed w2 KB 33 kv := (hg3.block KB (by have := HF1.out.size; omega) (fun e => by have := HNEW.out KB e.symm; omega)).trans HKB1.out
        have ck2 := hKB2.cell
        have kf2 := hKB2.frozen
        obtain ⟨W3, hW3⟩ : ∃ W3, W3 = w2.setCell ⟨KB, 0, none⟩ (.slice ao M cap3) := ⟨_, rfl⟩
        have hoth : ∀ k, k ≠ KB → W3.heap[k]? = w2.heap[k]? := fun k hk => by rw [hW3]; exact Below.heap_setCell w2 ⟨KB, 0, none⟩ _ k hk
        have HF3 : Hid (LzF B KB g0 w W3) := by show LzF _ _ _ _ _; rw [hW3]; exact (HF1.out.keep hg3 HNEW.out).set _
        have HR3 : Hid (LzR W3 B b wide s (p + Lz.width b wide l.length) (.slice (some ⟨g2, 0, none⟩) n2 cap2) last2 left2) := HR2.out.same ((hoth B (Ne.symm d8)).trans (hg3.block B HR2.out.lt (fun e => by have := HNEW.out B e.symm; omega)))
        have HO3 : Hid (OwnL W3 lo (.slice (some ⟨g2, 0, none⟩) n2 cap2) n2 l2) := HO2.out.kept (fun k hk => by
          have e : k = g2 := by cases hk; rfl
          subst e
          exact (hoth k hg2K).trans (hg3.block k hg2w (fun e => hgk2 e.symm)))
        have HKB3 : Hid (Boxed W3 KB 33 (.slice ao M cap3)) := by show Boxed _ _ _ _; rw [hW3]; exact hKB2.set _
        have HKV3 : Hid (KpI W3 w.heap.size (.slice ao M cap3) (dn ++ [(v, t)])) := ho3.besides (fun k hk => hoth k (fun e => by have := (ho3.lt k hk).1; omega))
        have ci3 := (HF3.out.box HK.out.1 d1 d2 d3).cell
        have c30 := HR3.out.c0
        have c31 := HR3.out.c1
        clear ho3 hg3 hoth hKB2 HF1 HR2 HO2 HKB1 HKV1 cf ck kf hs1 hg2w
        have HW3 : Hid (w2.setCell ⟨KB, 0, none⟩ (.slice ao M cap3) = W3) := hW3.symm
        rw [hW3] at ci3 c30 c31
        clear hW3
        go_wp2_with fail
        refine (HEN.out _).mono ?_
        rintro e w4 ⟨rfl, b4⟩
        rw [HW3.out] at b4
        have hdn : (dn ++ [(v, t)]).length = dn.length + 1 := by rw [List.length_append]; rfl
        have hzn := textsOf_more dn v t
        have hNb := Lz.width_bd hb wide l.length
        have HBX : Hid (Boxed w4 KB 33 (.slice ao M cap3)) := (b4.block KB HKB3.out.lt).trans HKB3.out
        have HKV4 : Hid (KpI w4 w.heap.size (.slice ao M cap3) (dn ++ [(v, t)])) := HKV3.out.besides (fun k hk => b4.block k (HKV3.out.lt k hk).2)
        have HF4 : Hid (LzF B KB g0 w w4) := HF3.out.below b4
        have HR4 : Hid (LzR w4 B b wide s (p + Lz.width b wide l.length) (.slice (some ⟨g2, 0, none⟩) n2 cap2) last2 left2) := HR3.out.kept b4
        have HO4 : Hid (OwnL w4 lo (.slice (some ⟨g2, 0, none⟩) n2 cap2) n2 l2) := HO3.out.up b4
        have HDN : Hid ((dn ++ [(v, t)]).length = dn.length + 1 ∧ (textsOf (dn ++ [(v, t)])).length = (textsOf dn).length + t.size) := ⟨hdn, hzn⟩
        clear b4 HF3 HR3 HO3 HKB3 HKV3 ci3 c30 c31 HW3 ck2 kf2 hdn hzn
        obtain ⟨f', hf'⟩ : ∃ f', f = f' + 1 := ⟨f - 1, by have := HGO.out.f_; omega⟩
        by_cases hve : v = 2 ^ b + 1
        · have HEND : Hid (LzInvI w B b wide s KB g0 lo Rs (.bool true) w4) := .inl ⟨rfl, dn ++ [(v, t)], by rw [HGO.out.rs, hf', Lz.go_end HSTP.out.1 hve]; rfl, _, HBX.out, HKV4.out, HF4.out⟩
          have hbe : ((v : Int) == ((2 ^ b + 1 : Nat) : Int)) = true := by rw [hve]; simp
          generalize 2 ^ b + 1 = E at *
          clear HEN HBX HKV4 HF4 HR4 HO4 HSTP HGO hve hf' HDN hlf
          go_wp2_with fail
          go_roundw
          case rel => first | exact HEND.out | (rw [hbe]; exact HEND.out)
          case measure =>
            have h1 := HMS.out
            have h2 : lzMeasI B s.size (.bool true) w4 = 0 := rfl
            first | omega | (rw [hbe, h1, h2]; omega)
        · have HGO2 : Hid (LzInvI w B b wide s KB g0 lo Rs (.bool false) w4) := .inr ⟨rfl, dn ++ [(v, t)], _, _, l2, last2, left2, g2, n2, cap2, f',
            { rdr := HR4.out, own := HO4.out, gB := hg2B, gg := HGG2.out, cap_ := hcap2, good := HSTP.out.2.2.1, left_ := HSTP.out.2.2.2, p_ := HSTP.out.2.1, f_ := by have := HGO.out.f_; omega, d_ := by rw [HDN.out.1]; omega, z_ := by rw [HDN.out.2]; omega, rs := by rw [HGO.out.rs, hf', Lz.go_on HSTP.out.1 hve, map_moreI], box := HBX.out, kept := HKV4.out, frame := HF4.out }⟩
          have hms4 : lzMeasI B s.size (.bool false) w4 = 8 * s.size + 1 - (p + Lz.width b wide l.length) := by
            unfold lzMeasI
            rw [HR4.out.rd.c2]
            rfl
          have HMS4 : Hid (lzMeasI B s.size (.bool false) w4 = 8 * s.size + 1 - (p + Lz.width b wide l.length)) := hms4
          have hbe : ((v : Int) == ((2 ^ b + 1 : Nat) : Int)) = false := by rw [beq_eq_false_iff_ne]; omega
          have hpN := HSTP.out.2.1
          generalize 2 ^ b + 1 = E at *
          clear HEN HBX HKV4 HF4 HR4 HO4 HSTP HGO hms4 hf' HDN hlf
          go_wp2_with fail
          go_roundw
          case rel => first | exact HGO2.out | (rw [hbe]; exact HGO2.out)
          case measure =>
            have h1 := HMS.out
            have h2 := HMS4.out
            first | omega | (rw [hbe, h1, h2]; omega)
end Go.Proofs.Ytjfihmpnbblomaa

/- lzwRead[int] of the program. -/
namespace Go.Proofs.Ytjfihmpnbblomaa
open Go.RowKit Go.Shelf

theorem KpI.down {w : World} {base base' : Nat} {kv : Value} {dn : List (Nat × ByteArray)} (h : KpI w base kv dn) (hb : base' ≤ base) : KpI w base' kv dn := by
  refine ⟨h.1, ?_⟩
  rcases h.2 with h0 | ⟨g, cap, cur, rfl, hgB, r⟩
  · exact .inl h0
  · exact .inr ⟨g, cap, cur, rfl, Nat.le_trans hb hgB, r⟩
def LzYesI (w : World) (Rs : Except Int (List (Nat × ByteArray))) (KB : Nat) (w' : World) : Prop := ∃ dn kv, Rs = .ok dn ∧ Boxed w' KB 33 kv ∧ KpI w' (KB + 2) kv dn ∧ Below w.heap.size w w'
def LzNoI (w : World) (Rs : Except Int (List (Nat × ByteArray))) (c : Int) (w' : World) : Prop := c ≠ 0 ∧ Rs = .error c ∧ Below w.heap.size w w'
/-- what lzwRead answers -/
def LzRdI (w : World) (Rs : Except Int (List (Nat × ByteArray))) (e : Ending) (w' : World) : Prop :=
  (∃ dn ao n cap, Rs = .ok dn ∧ e = .returned (.tuple #[.slice ao n cap, .int .i64 0]) ∧ KpI w' w.heap.size (.slice ao n cap) dn ∧ Below w.heap.size w w') ∨ ∃ c, c ≠ 0 ∧ Rs = .error c ∧ e = .returned (.tuple #[.slice none 0 0, .int .i64 c]) ∧ Below w.heap.size w w'

set_option maxHeartbeats 1000000 in
theorem lzReadI_no (s : ByteArray) (b limit : Int) (wide : Bool) (w : World) (hs : s.size ≤ 3000000) (hno : ¬ LzFine s b wide limit) :
    Calls Try.prog 48 #[.string s, .agg #[.int .i64 b, .bool wide], .int .i64 limit, .func (.func 47) #[] #[]] w fun e w' => e = .returned (.tuple #[.slice none 0 0, .int .i64 1]) ∧ Below w.heap.size w w' := by
  have HOK : Hid (∀ w', Calls Try.prog 36 #[.agg #[.int .i64 b, .bool wide]] w' fun e w'' => e = .returned (.bool (Lz.ok b wide)) ∧ Below w'.heap.size w' w'') := fun w' => lzOk_any b wide w'
  have HB0 : Hid (Below w.heap.size w ((w.alloc (.cells #[.int .i64 b, .bool wide] 50)).alloc (.cells #[.func (.func 47) #[] #[]] 73))) := ((Below.refl _ _).alloc (Nat.le_refl _) _).alloc (by simp) _
  have hz0 : w.heap.size ≤ ((w.alloc (.cells #[.int .i64 b, .bool wide] 50)).alloc (.cells #[.func (.func 47) #[] #[]] 73)).heap.size := by simp; omega
  unfold LzFine at hno
  generalize hk : Lz.ok b wide = k at *
  clear hk
  cases k with
  | false =>
    clear hno
    go_enter Try.func48, Try.ntmps48
    go_wp2_with fail
    refine (HOK.out _).mono ?_
    rintro e w1 ⟨rfl, b1⟩
    have HB1 : Hid (Below w.heap.size w w1) := HB0.out.trans (b1.mono hz0)
    clear b1 HB0 hz0 HOK
    go_wp2_with fail
    exact bodyPost_ret (v := .tuple #[.slice none 0 0, .int .i64 1]) (by simp [results, Try.results48, go_sem]) rfl ⟨rfl, HB1.out⟩
  | true =>
    by_cases h1 : 9000 < s.size
    · have d1 : decide ((s.size : Int) > 9000) = true := decide_eq_true (by omega)
      clear hno
      go_enter Try.func48, Try.ntmps48
      go_wp2_with fail
      refine (HOK.out _).mono ?_
      rintro e w1 ⟨rfl, b1⟩
      have HB1 : Hid (Below w.heap.size w w1) := HB0.out.trans (b1.mono hz0)
      clear b1 HB0 hz0 HOK
      go_wp2_with fail
      exact bodyPost_ret (v := .tuple #[.slice none 0 0, .int .i64 1]) (by simp [results, Try.results48, go_sem]) rfl ⟨rfl, HB1.out⟩
    · have d1 : decide ((s.size : Int) > 9000) = false := decide_eq_false (by omega)
      by_cases h2 : limit < 0
      · have d2 : decide (limit < 0) = true := decide_eq_true h2
        clear hno
        go_enter Try.func48, Try.ntmps48
        go_wp2_with fail
        refine (HOK.out _).mono ?_
        rintro e w1 ⟨rfl, b1⟩
        have HB1 : Hid (Below w.heap.size w w1) := HB0.out.trans (b1.mono hz0)
        clear b1 HB0 hz0 HOK
        go_wp2_with fail
        exact bodyPost_ret (v := .tuple #[.slice none 0 0, .int .i64 1]) (by simp [results, Try.results48, go_sem]) rfl ⟨rfl, HB1.out⟩
      · have d2 : decide (limit < 0) = false := decide_eq_false h2
        have h3 : limit > 5000 := by
          have : ¬ (0 ≤ limit ∧ limit ≤ 5000) := fun h => hno ⟨rfl, by omega, h.1, h.2⟩
          omega
        have d3 : decide (limit > 5000) = true := decide_eq_true h3
        clear hno
        go_enter Try.func48, Try.ntmps48
        go_wp2_with fail
        refine (HOK.out _).mono ?_
        rintro e w1 ⟨rfl, b1⟩
        have HB1 : Hid (Below w.heap.size w w1) := HB0.out.trans (b1.mono hz0)
        clear b1 HB0 hz0 HOK
        go_wp2_with fail
        exact bodyPost_ret (v := .tuple #[.slice none 0 0, .int .i64 1]) (by simp [results, Try.results48, go_sem]) rfl ⟨rfl, HB1.out⟩

set_option maxHeartbeats 2000000 in
set_option maxRecDepth 20000 in
theorem lzReadI_yes (s : ByteArray) (b limit : Nat) (wide : Bool) (Rs : Except Int (List (Nat × ByteArray))) (w : World) (hf : LzFine s b wide limit) (hRs : Rs = Lz.go s b wide (8 * s.size + 1) 0 (Lz.start b) ⟨#[]⟩ limit) :
    Calls Try.prog 48 #[.string s, .agg #[.int .i64 (b : Int), .bool wide], .int .i64 (limit : Int), .func (.func 47) #[] #[]] w (LzRdI w Rs) := by
  obtain ⟨hok, hsz, -, hlim⟩ := hf
  have hb : b ≤ 8 := by
    unfold Lz.ok at hok
    split at hok
    · have := eq_of_beq hok; omega
    · simp at hok; omega
  have HOK : Hid (∀ w', Calls Try.prog 36 #[.agg #[.int .i64 (b : Int), .bool wide]] w' fun e w'' => e = .returned (.bool true) ∧ Below w'.heap.size w' w'') := fun w' => by rw [← hok]; exact lzOk_any b wide w'
  have HNW : Hid (∀ w', Calls Try.prog 50 #[.string s, .agg #[.int .i64 (b : Int), .bool wide], .int .i64 (limit : Int)] w' (LzNew w' b wide s limit)) := fun w' => lzNew_any b limit wide s hb w'
  obtain ⟨W0, hW0⟩ : ∃ W0, W0 = (w.alloc (.cells #[.int .i64 (b : Int), .bool wide] 50)).alloc (.cells #[.func (.func 47) #[] #[]] 73) := ⟨_, rfl⟩
  have HB0 : Hid (Below w.heap.size w W0) := by show Below _ _ _; rw [hW0]; exact ((Below.refl _ _).alloc (Nat.le_refl _) _).alloc (by simp) _
  have hz0 : W0.heap.size = w.heap.size + 2 := by rw [hW0]; simp
  have HFB : Hid (Boxed W0 (w.heap.size + 1) 73 (.func (.func 47) #[] #[])) := by
    show Boxed _ _ _ _
    rw [hW0]
    exact duo1 ..
  have HCW : Hid (W0.cell? ⟨w.heap.size, 0, none⟩ = some (.int .i64 (b : Int)) ∧ W0.cell? ⟨w.heap.size, 1, none⟩ = some (.bool wide)) := by
    show _ ∧ _
    rw [hW0]
    exact ⟨(alloc_cell _ _ ⟨w.heap.size, 0, none⟩ (by simp)).trans (by simp), (alloc_cell _ _ ⟨w.heap.size, 1, none⟩ (by simp)).trans (by simp)⟩
  have HW0 : Hid (W0 = (w.alloc (.cells #[.int .i64 (b : Int), .bool wide] 50)).alloc (.cells #[.func (.func 47) #[] #[]] 73)) := hW0
  clear hW0
  have d1 : decide ((s.size : Int) > 9000) = false := decide_eq_false (by omega)
  have d2 : decide ((limit : Int) < 0) = false := decide_eq_false (by omega)
  have d3 : decide ((limit : Int) > 5000) = false := decide_eq_false (by omega)
  have hmf : ∀ (fn : Fn) (first cap : Array Value) (w : World), (Instr.makeFunc fn first cap).run Try.prog w = .ok (.func fn first cap) w := fun _ _ _ _ => rfl
  have HRS : Hid (Rs = Lz.go s b wide (8 * s.size + 1) 0 (Lz.start b) ⟨#[]⟩ limit) := hRs
  clear hRs hok
  go_enter Try.func48, Try.ntmps48
  go_wp2_with fail
  refine (HOK.out _).mono ?_
  rintro e w1 ⟨rfl, b1⟩
  rw [← HW0.out] at b1
  have HB1 : Hid (Below w.heap.size w w1) := HB0.out.trans (b1.mono (by omega))
  have hz1 : w.heap.size + 2 ≤ w1.heap.size := by have := b1.size; omega
  have HFB1 : Hid (Boxed w1 (w.heap.size + 1) 73 (.func (.func 47) #[] #[])) := (b1.block _ (by omega)).trans HFB.out
  have c10 : w1.cell? ⟨w.heap.size, 0, none⟩ = some (.int .i64 (b : Int)) := (b1.cell (p := ⟨w.heap.size, 0, none⟩) (by show w.heap.size < _; omega)).trans HCW.out.1
  have c11 : w1.cell? ⟨w.heap.size, 1, none⟩ = some (.bool wide) := (b1.cell (p := ⟨w.heap.size, 1, none⟩) (by show w.heap.size < _; omega)).trans HCW.out.2
  clear b1 HB0 HFB HCW HOK HW0 hz0
  go_wp2_with fail
  refine (HNW.out _).mono ?_
  rintro e w2 ⟨B, g, rfl, hl2, ho2, b2, hB2, hg2, hgB⟩
  have HB2 : Hid (Below w.heap.size w w2) := HB1.out.trans (b2.mono (by omega))
  have HFB2 : Hid (Boxed w2 (w.heap.size + 1) 73 (.func (.func 47) #[] #[])) := (b2.block _ (by omega)).trans HFB1.out
  have HL2 : Hid (LzR w2 B b wide s 0 (.slice (some ⟨g, 0, none⟩) (2 ^ b + 2) (2 ^ b + 2)) ⟨#[]⟩ limit ∧ OwnL w2 w1.heap.size (.slice (some ⟨g, 0, none⟩) (2 ^ b + 2) (2 ^ b + 2)) (2 ^ b + 2) (Lz.start b)) := ⟨hl2, ho2⟩
  have hBw := hl2.lt
  have hgw := (ho2.lt g rfl).2
  have hz2 := b2.size
  clear hl2 ho2 b2 HB1 HFB1 c10 c11 HNW
  obtain ⟨W4, hW4⟩ : ∃ W4, W4 = (w2.alloc (.cells #[.pointer (some ⟨B, 0, none⟩)] 79)).alloc (.cells #[.slice none 0 0] 33) := ⟨_, rfl⟩
  have hs4 : W4.heap.size = w2.heap.size + 2 := by rw [hW4]; simp
  have HB24 : Hid (Below w2.heap.size w2 W4) := by show Below _ _ _; rw [hW4]; exact ((Below.refl _ _).alloc (Nat.le_refl _) _).alloc (by simp) _
  have HX : Hid (Boxed W4 w2.heap.size 79 (.pointer (some ⟨B, 0, none⟩)) ∧ Boxed W4 (w2.heap.size + 1) 33 (.slice none 0 0)) := by
    show Boxed _ _ _ _ ∧ Boxed _ _ _ _
    rw [hW4]
    exact ⟨duo0 .., duo1 ..⟩
  have HWK : Hid (Calls Try.prog 67 #[.pointer (some ⟨w2.heap.size, 0, none⟩), .pointer (some ⟨w.heap.size + 1, 0, none⟩), .pointer (some ⟨w2.heap.size + 1, 0, none⟩)] (W4.alloc (.cells #[.int .i64 0] 3)) fun e w' => Boxed w' W4.heap.size 3 (.int .i64 0) ∧ ((∃ v, e = .returned v) ∧ LzYesI w Rs (w2.heap.size + 1) w' ∨ ∃ c, e = fault c ∧ LzNoI w Rs c w')) := by
    obtain ⟨x1, x2⟩ := HX.out
    have ba : Below W4.heap.size W4 (W4.alloc (.cells #[.int .i64 0] 3)) := (Below.refl _ _).alloc (Nat.le_refl _) _
    have b24 : Below w2.heap.size w2 (W4.alloc (.cells #[.int .i64 0] 3)) := HB24.out.trans (ba.mono (by omega))
    have hsa : (W4.alloc (.cells #[.int .i64 0] 3)).heap.size = w2.heap.size + 3 := by rw [World.size_alloc, hs4]
    refine (lzWorkI w2.heap.size (w.heap.size + 1) (w2.heap.size + 1) B b w1.heap.size g (2 ^ b + 2) (2 ^ b + 2) limit wide s Rs _ ((ba.block _ (by omega)).trans x1) ((b24.block _ (by omega)).trans HFB2.out) ((ba.block _ (by omega)).trans x2) (HL2.out.1.kept b24) (HL2.out.2.up b24) hb hsz (by omega) HRS.out (by omega) (by omega) (by omega) (by omega) (by omega) (by omega) hgB (by omega) (by omega) (by omega)).mono ?_
    intro e w' hwk
    have hfr : LzF B (w2.heap.size + 1) g (W4.alloc (.cells #[.int .i64 0] 3)) w' := by
      rcases hwk with ⟨-, dn, -, kv, -, -, h⟩ | ⟨c, -, -, -, h⟩ <;> exact h
    have hbel : Below w.heap.size w w' := by
      have h1 : Below w.heap.size w (W4.alloc (.cells #[.int .i64 0] 3)) := HB2.out.trans (b24.mono (by omega))
      exact ⟨hfr.os.trans h1.os, hfr.tape.trans h1.tape, hfr.output.trans h1.output, Nat.le_trans h1.size hfr.size, fun k hk => (hfr.block k (by omega) (by omega) (by omega) (by omega)).trans (h1.block k hk)⟩
    refine ⟨hfr.box (Boxed.new W4 3 (.int .i64 0)) (by omega) (by omega) (by omega), ?_⟩
    rcases hwk with ⟨hv, dn, hR, kv, hbx, hkp, -⟩ | ⟨c, he, hc, hR, -⟩
    · exact .inl ⟨hv, dn, kv, hR, hbx, hkp.down (by omega), hbel⟩
    · exact .inr ⟨c, he, hc, hR, hbel⟩
  have HFI : Hid (Calls Try.prog 51 #[.func (.func 67) #[] #[.pointer (some ⟨w2.heap.size, 0, none⟩), .pointer (some ⟨w.heap.size + 1, 0, none⟩), .pointer (some ⟨w2.heap.size + 1, 0, none⟩)]] W4 (FaultOut W4 (LzYesI w Rs (w2.heap.size + 1)) (LzNoI w Rs))) :=
    faultIn_any 67 _ (enters_of Try.func67 (by kernel_rfl) rfl) _ _ W4 HWK.out
  clear HWK HX HL2 HFB2 HB24 HRS
  have hW4' : (w2.alloc (.cells #[.pointer (some ⟨B, 0, none⟩)] 79)).alloc (.cells #[.slice none 0 0] 33) = W4 := hW4.symm
  clear hW4
  go_wp2_with fail
  refine HFI.out.mono ?_
  rintro e w7 ⟨w6, hb6, (⟨rfl, ⟨dn, kv, hR, hbx, hkp, g5⟩, ht⟩ | ⟨c, rfl, ⟨hc0, hR, g5⟩, ht⟩)⟩
  · have hb7 : Boxed w7 (w2.heap.size + 1) 33 kv := by rw [ht]; exact (Below.heap_setCell w6 ⟨W4.heap.size, 0, none⟩ _ _ (fun e => by have e2 : w2.heap.size + 1 = W4.heap.size := e; omega)).trans hbx
    have hk7 : KpI w7 w.heap.size kv dn := by
      rw [ht]
      exact (hkp.besides (fun k hk => Below.heap_setCell w6 ⟨W4.heap.size, 0, none⟩ _ k (fun e => by have e2 : k = W4.heap.size := e; have := (hkp.lt k hk).1; omega))).down (by omega)
    obtain ⟨ao, n, cap, rfl⟩ : ∃ ao n cap, kv = .slice ao n cap := by
      rcases hk7.2 with ⟨rfl, _⟩ | ⟨g, cap, cur, rfl, _⟩
      · exact ⟨_, _, _, rfl⟩
      · exact ⟨_, _, _, rfl⟩
    have HF : Hid (LzRdI w Rs (.returned (.tuple #[.slice ao n cap, .int .i64 0])) w7) := .inl ⟨dn, ao, n, cap, hR, rfl, hk7, by rw [ht]; exact g5.setCell (by show w.heap.size ≤ W4.heap.size; omega) _⟩
    have k1 := hb7.cell
    clear hb7 hk7 hR hbx hkp g5 ht hb6 HFI
    go_wp2_with fail
    exact bodyPost_ret (v := .tuple #[.slice ao n cap, .int .i64 0]) (by simp [results, Try.results48, go_sem]) rfl HF.out
  · have HF : Hid (LzRdI w Rs (.returned (.tuple #[.slice none 0 0, .int .i64 c])) w7) := .inr ⟨c, hc0, hR, rfl, by rw [ht]; exact g5.setCell (by show w.heap.size ≤ W4.heap.size; omega) _⟩
    have hcb : (c != 0) = true := by rw [bne_iff_ne]; exact hc0
    clear hR g5 ht hb6 HFI hc0
    go_wp2_with fail
    exact bodyPost_ret (v := .tuple #[.slice none 0 0, .int .i64 c]) (by simp [results, Try.results48, go_sem]) rfl HF.out
end Go.Proofs.Ytjfihmpnbblomaa

/- LzwCodes of the program. -/
namespace Go.Proofs.Ytjfihmpnbblomaa
open Go.RowKit

set_option maxHeartbeats 1000000 in
theorem impl_lzwCodes (s : ByteArray) (b : Int) (wide : Bool) (w : World) (hs : s.size ≤ 3000000) :
    Calls Try.prog 17 #[.string s, .int .i64 b, .bool wide] w fun e w' => (∃ ao cap, e = .returned (.slice ao (Lz.codes (Lz.res s b wide 5000)).length cap) ∧ Owns w' w.heap.size ao (Lz.codes (Lz.res s b wide 5000))) ∧ Below w.heap.size w w' := by
  by_cases hf : LzFine s b wide 5000
  · obtain ⟨B, rfl⟩ := Int.eq_ofNat_of_zero_le (show 0 ≤ b by have := Lz.ok_bd hf.1; omega)
    have HR := fun w => lzReadI_yes s B 5000 wide (Lz.res s B wide 5000) w hf (Lz.res_yes (limit := 5000) hf)
    generalize hRs : Lz.res s B wide 5000 = R at *
    clear hRs
    have HRD : Hid (∀ w, Calls Try.prog 48 #[.string s, .agg #[.int .i64 (B : Int), .bool wide], .int .i64 5000, .func (.func 47) #[] #[]] w (LzRdI w R)) := HR
    clear HR hf
    go_enter Try.func17, Try.ntmps17
    go_wp2_with fail
    refine (HRD.out _).mono ?_
    rintro e w1 (⟨dn, ao, n, cap, rfl, rfl, hk, bel⟩ | ⟨c, -, rfl, rfl, bel⟩)
    · obtain ⟨ao', cap', he, how⟩ := OwnI.owns hk
      cases he
      have HF : Hid (Owns w1 w.heap.size ao (codesOf dn) ∧ Below w.heap.size w w1) := ⟨how, bel⟩
      have hl := codesOf_len dn
      clear hk how bel HRD
      go_wp2_with fail
      go_ret
      exact ⟨⟨ao, cap, by show Ending.returned _ = .returned (.slice ao (codesOf dn).length cap); rw [hl]; rfl, HF.out.1⟩, HF.out.2⟩
    · go_wp2_with fail
      go_ret
      exact ⟨⟨none, 0, rfl, .inl rfl⟩, bel⟩
  · have HRD : Hid (∀ w, Calls Try.prog 48 #[.string s, .agg #[.int .i64 b, .bool wide], .int .i64 5000, .func (.func 47) #[] #[]] w fun e w' => e = .returned (.tuple #[.slice none 0 0, .int .i64 1]) ∧ Below w.heap.size w w') := fun w => lzReadI_no s b 5000 wide w hs hf
    rw [Lz.res_no hf]
    clear hf
    go_enter Try.func17, Try.ntmps17
    go_wp2_with fail
    refine (HRD.out _).mono ?_
    rintro e w1 ⟨rfl, bel⟩
    go_wp2_with fail
    go_ret
    exact ⟨⟨none, 0, rfl, .inl rfl⟩, bel⟩
end Go.Proofs.Ytjfihmpnbblomaa

/- One of some texts, drawn. -/
namespace Go.Proofs.Ytjfihmpnbblomaa
open Go.RowKit

set_option maxHeartbeats 400000 in
theorem of_list (B p L n : Nat) (ss : List ByteArray) (w : World) (hr : RdAt w B p) (hp : p ≤ 1000000) (hL : B < L) (hn : ss.length = n) (hn0 : 0 < n) (hn1 : n ≤ 100)
    (hc : ∀ i (h : i < ss.length), w.cell? ⟨L, i, none⟩ = some (.string ss[i])) (hs : ∀ t ∈ ss, t.size ≤ 10) :
    Calls Try.prog 26 #[.pointer (some ⟨B, 0, none⟩), .slice (some ⟨L, 0, none⟩) n n] w fun e w' => (∃ t : ByteArray, e = .returned (.string t) ∧ t.size ≤ 10) ∧ RdAt w' B (p + 1) ∧ Only B w w' := by
  have HP : Hid (Calls Try.prog 24 #[.pointer (some ⟨B, 0, none⟩), .int .i64 (n : Int)] w fun e w' => ∃ v : Nat, e = .returned (.int .i64 (v : Int)) ∧ (v : Int) < n ∧ RdAt w' B (p + 1) ∧ Only B w w' ∧ w'.heap.size = w.heap.size) := pick_named B p (n : Int) w hr (by omega) (by omega) (by omega)
  have HC : Hid (∀ i (h : i < ss.length), w.cell? ⟨L, i, none⟩ = some (.string ss[i])) := hc
  have hLw : 0 < n → L < w.heap.size := fun h => World.block_lt_of_cell? _ _ (hc 0 (by omega))
  clear hc hr
  go_enter Try.func26, Try.ntmps26
  go_wp2_with fail
  refine HP.out.mono ?_
  rintro e w1 ⟨v, rfl, hv, hR, hO, -⟩
  have hvn : v < n := by omega
  have hvs : v < ss.length := by omega
  have hcell : w1.cell? ⟨L, v, none⟩ = some (.string ss[v]) := (hO.cell L v (hLw hn0) (by omega)).trans (HC.out v hvs)
  have HF : Hid (RdAt w1 B (p + 1) ∧ Only B w w1 ∧ (ss[v]).size ≤ 10) := ⟨hR, hO, hs _ (List.getElem_mem hvs)⟩
  generalize ss[v] = t at *
  clear hR hO HC HP hLw hs
  go_wp2_with fail
  go_ret
  exact ⟨⟨t, rfl, HF.out.2.2⟩, HF.out.1, HF.out.2.1⟩
end Go.Proofs.Ytjfihmpnbblomaa

/- A limit, drawn. -/
namespace Go.Proofs.Ytjfihmpnbblomaa
open Go.RowKit

theorem mk_size (l : List UInt8) : (ByteArray.mk l.toArray).size = l.length := by simp [ByteArray.size]

/-- five limits of which one is drawn -/
def fives (m : Int) (j : Nat) : Int := if j = 2 then m else if j = 3 then 5001 else if j = 4 then -1 else 5000
theorem five_cell (W : World) (m : Int) (j : Nat) (hj : j < 5) : (W.alloc (.cells #[.int .i64 5000, .int .i64 5000, .int .i64 m, .int .i64 5001, .int .i64 (-1)] 3)).cell? ⟨W.heap.size, j, none⟩ = some (.int .i64 (fives m j)) := by
  rw [World.cell?_alloc_at _ _ _ _ rfl]
  have h : j = 0 ∨ j = 1 ∨ j = 2 ∨ j = 3 ∨ j = 4 := by omega
  rcases h with rfl | rfl | rfl | rfl | rfl <;> rfl

set_option maxHeartbeats 2000000 in
set_option maxRecDepth 20000 in
theorem l14Limit_any (B p : Nat) (w : World) (hr : RdAt w B p) (hp : p ≤ 100000) :
    Calls Try.prog 28 #[.pointer (some ⟨B, 0, none⟩)] w fun e w' => (∃ lm : Int, e = .returned (.int .i64 lm)) ∧ RdAt w' B (p + 2) ∧ Only B w w' := by
  have HR : Hid (RdAt w B p) := hr
  clear hr
  go_enter Try.func28, Try.ntmps28
  go_wp2_with fail
  refine (pick_named B p _ _ HR.out (by omega) (by omega) (by omega)).mono ?_
  rintro e w1 ⟨m, rfl, hm, hR1, hO1, -⟩
  have HR1 : Hid (RdAt (w1.alloc (.cells #[.int .i64 5000, .int .i64 5000, .int .i64 (m : Int), .int .i64 5001, .int .i64 (-1)] 3)) B (p + 1)) := hR1.alloc _
  have HO1 : Hid (Only B w (w1.alloc (.cells #[.int .i64 5000, .int .i64 5000, .int .i64 (m : Int), .int .i64 5001, .int .i64 (-1)] 3))) := hO1.alloc hR1.lt _
  have hWB : w1.heap.size ≠ B := by have := hR1.lt; omega
  clear hR1 hO1 HR
  go_wp2_with fail
  refine (pick_named B (p + 1) _ _ HR1.out (by omega) (by omega) (by omega)).mono ?_
  rintro e w2 ⟨y, rfl, hy, hR2, hO2, -⟩
  obtain ⟨Y, hY⟩ : ∃ Y : Nat, Y = y * 5 := ⟨_, rfl⟩
  obtain ⟨j, hj⟩ : ∃ j : Nat, j = Y / 14 := ⟨_, rfl⟩
  have e1 : (y : Int) * 5 = (Y : Int) := by omega
  have e2 : (Y : Int) / 14 = (j : Int) := by omega
  have e3 : (Y : Int).tdiv 14 = (j : Int) := by rw [Int.tdiv_eq_ediv_of_nonneg (by omega)]; exact e2
  have hYb : Y ≤ 65 := by omega
  have hjb : j < 5 := by omega
  have hji : (j : Int) < 5 := by omega
  have hcj : w2.cell? ⟨w1.heap.size, j, none⟩ = some (.int .i64 (fives m j)) := (hO2.cell w1.heap.size j (by simp) hWB).trans (five_cell w1 m j hjb)
  have HF : Hid (RdAt w2 B (p + 2) ∧ Only B w w2) := ⟨hR2, HO1.out.trans hO2⟩
  clear hR2 hO2 HR1 HO1 hY hj
  generalize fives m j = z at *
  go_wp2_with fail
  go_ret
  exact ⟨⟨z, rfl⟩, HF.out⟩

end Go.Proofs.Ytjfihmpnbblomaa

/- A text as bytes, and back. -/
namespace Go.Proofs.Ytjfihmpnbblomaa
open Go.RowKit

/-- the bytes of a text, laid anew -/
theorem conv_bytes (s : ByteArray) (w : World) : ∃ (cap : Nat) (w2 : World), Sem.run Try.prog (convert 9 22 (.string s)) w = .ok (.slice (some ⟨w.heap.size, 0, none⟩) s.size cap) w2 ∧
    (∀ i (h : i < s.size), w2.cell? ⟨w.heap.size, i, none⟩ = some (.int .u8 ((s[i]).toNat : Int)) ∧ w2.frozen? ⟨w.heap.size, i, none⟩ = false) ∧ Below w.heap.size w w2 ∧ w2.heap.size = w.heap.size + 1 := by
  refine ⟨_, _, run_bytes_of_string w 9 22 5 s Try.underlying9 Try.underlying22 Try.underlying5, ?_, ?_, ?_⟩
  · intro i h
    generalize grownCap w s.size 0 5 = cap
    have hg : (w.drew.alloc (.cells (bytesRow s cap) 5 ((bytesRow s cap).size, (bytesRow s cap).size + 1))).heap[w.heap.size]? = some (.cells (bytesRow s cap) 5 ((bytesRow s cap).size, (bytesRow s cap).size + 1)) := heap_alloc_new w.drew _
    refine ⟨?_, ?_⟩
    · rw [cell_of_row _ _ _ _ _ _ hg, bytesRow_at s cap i h]; rfl
    · unfold World.frozen?
      simp only [hg]
      have hsz : s.size ≤ (bytesRow s cap).size := by unfold bytesRow; simp
      simp
      omega
  · exact (Below.refl _ _).drew.alloc (Nat.le_refl _) _
  · simp

theorem text_back (W : World) (L cap n : Nat) (l : List UInt8) (hn : l.length = n) (hc : ∀ j (hj : j < l.length), W.cell? ⟨L, j, none⟩ = some (.int .u8 ((l[j]).toNat : Int))) :
    Sem.run Try.prog (convert 22 9 (.slice (some ⟨L, 0, none⟩) n cap)) W = .ok (.string ⟨l.toArray⟩) W := by
  subst hn
  refine run_convert_bytes_back W 22 9 5 ⟨L, 0, none⟩ cap l Try.underlying22 Try.underlying5 Try.underlying9 ?_
  intro j hj
  rw [show (⟨L, 0, none⟩ : Addr).add j = ⟨L, j, none⟩ from by simp [Addr.add]; try omega]
  exact hc j hj
end Go.Proofs.Ytjfihmpnbblomaa

/- A text of which a byte is another one. -/
namespace Go.Proofs.Ytjfihmpnbblomaa
open Go.RowKit

theorem size_of_empty {s : ByteArray} (h : s.toList.isEmpty = true) : s.size = 0 := by
  rw [ByteArray.toList_eq, List.isEmpty_iff] at h
  show s.data.size = 0
  rw [← Array.length_toList, h]; rfl

theorem bent_cells (s : ByteArray) (W : World) (L K v : Nat) (hK : K < s.size) (hv : v < 256) (hc : ∀ i (h : i < s.size), W.cell? ⟨L, i, none⟩ = some (.int .u8 ((s[i]).toNat : Int))) :
    ∃ l : List UInt8, l.length = s.size ∧ ∀ j (hj : j < l.length), (W.setCell ⟨L, K, none⟩ (.int .u8 (v : Int))).cell? ⟨L, j, none⟩ = some (.int .u8 ((l[j]).toNat : Int)) := by
  have hl : (s.data.toList.set K (UInt8.ofNat v)).length = s.size := by rw [List.length_set, Array.length_toList]; rfl
  refine ⟨s.data.toList.set K (UInt8.ofNat v), hl, fun j hj => ?_⟩
  by_cases e : K = j
  · subst e
    rw [World.cell?_setCell_same _ _ _ (hc K hK), List.getElem_set_self]
    simp
    omega
  · rw [World.cell?_setCell_other _ _ _ _ (fun h => e (by have := congrArg Addr.off h; simpa using this)), hc j (by rw [← hl]; exact hj), List.getElem_set_ne e]
    rfl

set_option maxHeartbeats 2000000 in
set_option maxRecDepth 20000 in
theorem l14Bend_any (B p : Nat) (s : ByteArray) (w : World) (hr : RdAt w B p) (hp : p ≤ 100000) (hs : s.size ≤ 100000) :
    Calls Try.prog 25 #[.pointer (some ⟨B, 0, none⟩), .string s] w fun e w' => (∃ t : ByteArray, e = .returned (.string t) ∧ t.size = s.size) ∧ (∃ q, q ≤ p + 2 ∧ RdAt w' B q) ∧ Only B w w' := by
  have hlt0 := hr.lt
  have HR0 : Hid (RdAt w B p) := hr
  clear hr
  by_cases hz : s.size = 0
  · have he : s = ByteArray.empty := by
      have : s.data.size = 0 := hz
      cases s with
      | mk d => simp at this; subst this; rfl
    subst he
    go_enter Try.func25, Try.ntmps25
    go_wp2_with fail
    go_ret
    exact ⟨⟨_, rfl, rfl⟩, ⟨p, by omega, HR0.out⟩, Only.refl _ _⟩
  · obtain ⟨cap, w2, hcv, hcl, belc, hsz2⟩ := conv_bytes s w
    have HCV : Hid (∀ i (h : i < s.size), w2.cell? ⟨w.heap.size, i, none⟩ = some (.int .u8 ((s[i]).toNat : Int)) ∧ w2.frozen? ⟨w.heap.size, i, none⟩ = false) := hcl
    have HR2 : Hid (RdAt w2 B p) := HR0.out.kept (belc.mono hlt0)
    have HO2 : Hid (Only B w w2) := Only.of_below belc hlt0
    have hse : s.toList.isEmpty = false := by
      rcases h : s.toList.isEmpty with _ | _
      · rfl
      · exact absurd (size_of_empty h) hz
    have hG : w.heap.size < w2.heap.size := by omega
    have hGB : w.heap.size ≠ B := by omega
    have hs1 : (1 : Int) ≤ (s.size : Int) := by omega
    clear hcl belc hsz2 HR0
    go_enter Try.func25, Try.ntmps25
    go_wp2_with fail
    clear hcv
    refine (pick_named B p _ _ HR2.out (by omega) (by omega) (by omega)).mono ?_
    rintro e w3 ⟨K, rfl, hK, hR3, hO3, -⟩
    have hKs : K < s.size := by omega
    have HC3 : Hid (∀ i (h : i < s.size), w3.cell? ⟨w.heap.size, i, none⟩ = some (.int .u8 ((s[i]).toNat : Int)) ∧ w3.frozen? ⟨w.heap.size, i, none⟩ = false) := fun i h => ⟨(hO3.cell w.heap.size i hG hGB).trans (HCV.out i h).1, (World.frozen?_of_block (w := w2) (a := ⟨w.heap.size, i, none⟩) (hO3.rest w.heap.size hG hGB)).trans (HCV.out i h).2⟩
    have HR3 : Hid (RdAt w3 B (p + 1)) := hR3
    have HO3 : Hid (Only B w w3) := HO2.out.trans hO3
    have hG3 : w.heap.size < w3.heap.size := Nat.lt_of_lt_of_le hG hO3.below.size
    clear hR3 hO3 HR2 HO2 HCV
    obtain ⟨x, hx⟩ : ∃ x : Nat, x = (s[K]'hKs).toNat := ⟨_, rfl⟩
    have hxb : x < 256 := by rw [hx]; exact UInt8.toNat_lt _
    obtain ⟨ck, fk⟩ := HC3.out K hKs
    rw [← hx] at ck
    have HV : Hid (∀ y : Nat, y < 255 → bits .xor .u8 (x : Int) (IntKind.u8.wrap (IntKind.i64.wrap (1 + (y : Int)))) = ((x ^^^ (1 + y) : Nat) : Int) ∧ x ^^^ (1 + y) < 256) := fun y hy => by
      have e1 : IntKind.i64.wrap (1 + (y : Int)) = ((1 + y : Nat) : Int) := by
        rw [← wrap_i64_nat (1 + y) (by omega)]; congr 1
      refine ⟨?_, Nat.xor_lt_two_pow (n := 8) (by omega) (by omega)⟩
      rw [e1, IntKind.wrap_u8', show ((1 + y : Nat) : Int) % 256 = ((1 + y : Nat) : Int) by omega, u8_xor_nat _ _ hxb (by omega)]
    have HX : Hid (x = (s[K]'hKs).toNat) := hx
    clear hx
    have HRd : Hid (RdAt w3.drew B (p + 1)) := HR3.out.drew
    have hKi : (K : Int) < (s.size : Int) := by omega
    go_wp2_with fail
    go_region_with (go_at_call 24; refine (pick_named B (p + 1) _ _ HRd.out (by omega) (by omega) (by omega)).mono ?_; rintro e w4 ⟨y, rfl, hy, hR4, hO4, -⟩; have HR4 : Hid (RdAt w4 B (p + 2)) := hR4; have HO4 : Hid (Only B w3.drew w4) := hO4; have ck4 : w4.cell? ⟨w.heap.size, K, none⟩ = some (.int .u8 (x : Int)) := (hO4.cell w.heap.size K hG3 hGB).trans ck; have fk4 : w4.frozen? ⟨w.heap.size, K, none⟩ = false := (World.frozen?_of_block (w := w3.drew) (a := ⟨w.heap.size, K, none⟩) (hO4.rest w.heap.size hG3 hGB)).trans fk; clear hR4 hO4)
    all_goals
      have hyn : y < 255 := by omega
      obtain ⟨hv1, hv2⟩ := HV.out y hyn
      rw [hv1]
      have hall : ∀ i (h : i < s.size), w4.cell? ⟨w.heap.size, i, none⟩ = some (.int .u8 ((s[i]).toNat : Int)) := fun i h => (HO4.out.cell w.heap.size i hG3 hGB).trans (HC3.out i h).1
      obtain ⟨l, hl, hlc⟩ := bent_cells s w4 w.heap.size K _ hKs hv2 hall
      have htb := text_back _ w.heap.size cap s.size l hl hlc
      have HF : Hid (RdAt (w4.setCell ⟨w.heap.size, K, none⟩ (.int .u8 ((x ^^^ (1 + y) : Nat) : Int))) B (p + 2) ∧ Only B w (w4.setCell ⟨w.heap.size, K, none⟩ (.int .u8 ((x ^^^ (1 + y) : Nat) : Int)))) :=
        ⟨HR4.out.kept ((Below.refl _ _).setCell (by show B + 1 ≤ w.heap.size; omega) _), ((HO3.out.drewN 1).trans HO4.out).set (Nat.le_refl _) hlt0 K _⟩
      have HL : Hid ((ByteArray.mk l.toArray).size = s.size) := by show l.toArray.size = s.size; rw [List.size_toArray]; exact hl
      clear hall hlc hl HR4 HO4 ck4 fk4 ck fk HRd HR3 HO3 HC3 HX HV hv1 hv2
      go_wp2_with fail
      go_ret
      exact ⟨⟨_, rfl, HL.out⟩, ⟨p + 2, by omega, HF.out.1⟩, HF.out.2⟩
end Go.Proofs.Ytjfihmpnbblomaa

/- Some bits, and some more behind, are all of them at once. -/
namespace Go.Proofs.Ytjfihmpnbblomaa
namespace Bg

theorem low_add (b : Nat → Nat) (k : Nat) : ∀ m, low b (k + m) = low b k + low (fun i => b (k + i)) m * 2 ^ k := by
  intro m
  induction m with
  | zero => simp [low]
  | succ m ih =>
    show low b (k + m) + b (k + m) * 2 ^ (k + m) = _
    rw [ih]
    show _ = low b k + (low (fun i => b (k + i)) m + b (k + m) * 2 ^ m) * 2 ^ k
    rw [Nat.add_mul, Nat.mul_assoc, ← Nat.pow_add, Nat.add_comm m k]
    omega

theorem big_add (b : Nat → Nat) (k : Nat) : ∀ m, big b (k + m) = big b k * 2 ^ m + big (fun i => b (k + i)) m := by
  intro m
  induction m with
  | zero => simp [big]
  | succ m ih =>
    show 2 * big b (k + m) + b (k + m) = _
    rw [ih, Nat.pow_succ, ← Nat.mul_assoc]
    show _ = _ + (2 * big (fun i => b (k + i)) m + b (k + m))
    omega

theorem num_lt (b : Nat → Nat) (hb : ∀ i, b i < 2) (k : Nat) (hi : Bool) : num b k hi < 2 ^ k := by
  cases hi
  · exact low_lt b hb k
  · exact big_lt b hb k
end Bg
end Go.Proofs.Ytjfihmpnbblomaa

/- What comes of one number, by the specification. -/
namespace Go.Proofs.Ytjfihmpnbblomaa
open Go.RowKit

theorem SzS.len {w0 : World} {base B b : Nat} {wide : Bool} {s : ByteArray} {limit p : Nat} {l : List ByteArray} {last : ByteArray} {o : List UInt8} {cs : List Int} {c : Int} {w : World} (h : SzS w0 base B b wide s limit p l last o cs c w) : ∃ g cap ov cv, SzP w0 base B b wide s limit p l last o cs c g l.length cap ov cv w := by
  obtain ⟨g, n, cap, ov, cv, h⟩ := h
  have := h.ol.len
  subst this
  exact ⟨g, cap, ov, cv, h⟩

/-- what comes of a number -/
def SzOut (w0 : World) (base B b : Nat) (wide : Bool) (s : ByteArray) (limit p : Nat) (l : List ByteArray) (last : ByteArray) (o : List UInt8) (cs : List Int) (R : Except Int (Nat × ByteArray × List ByteArray × ByteArray × Nat)) (e : Ending) (w' : World) : Prop :=
  (∃ c, c ≠ 0 ∧ R = .error c ∧ e = .returned (.bool false) ∧ SzS w0 base B b wide s limit p l last o cs c w') ∨
  (∃ v t l2 last2 left2, R = .ok (v, t, l2, last2, left2) ∧ Lz.Good b l2 last2 ∧ (o ++ t.data.toList).length + left2 = limit ∧ e = .returned (.bool (decide (v ≠ 2 ^ b + 1))) ∧ SzS w0 base B b wide s limit p l2 last2 (o ++ t.data.toList) cs 0 w')

theorem szStep_any (w0 : World) (base B b limit p q v left N : Nat) (wide : Bool) (s last : ByteArray) (l : List ByteArray) (o : List UInt8) (cs : List Int) (w : World) (hb : b ≤ 8) (hB : base ≤ B) (hlim : limit ≤ 5000) (hleft : o.length + left = limit) (gd : Lz.Good b l last)
    (hN : N = Lz.width b wide l.length) (hin : q + N ≤ 8 * s.size) (hv : v = Lz.num s wide q N) (hv4 : v ≤ 4096)
    (h : SzS w0 base B b wide s limit p l last o cs 0 w) :
    Calls Try.prog 56 #[.pointer (some ⟨B, 0, none⟩), .int .i64 (v : Int)] w (SzOut w0 base B b wide s limit p l last o cs (Lz.step s b wide q l last left)) := by
  obtain ⟨g, cap, ov, cv, h⟩ := h.len
  have hlen := gd.ge
  have hlast := gd.last
  have hsn : ¬ 8 * s.size < q + N := by omega
  unfold Lz.step
  simp only [← hN, ← hv, if_neg hsn]
  by_cases h1 : v = 2 ^ b
  · rw [if_pos h1]
    refine (szStep_clear w0 base B b limit p v g l.length cap wide s last l o cs ov cv w hb hB hlen hv4 hlim (by omega) (by omega) h h1).mono ?_
    rintro e w' ⟨rfl, hs⟩
    refine .inr ⟨_, _, _, _, _, rfl, Lz.good_start hb, by simp; omega, by rw [decide_eq_true (by omega)], ?_⟩
    rw [show (ByteArray.mk #[]).data.toList = [] from rfl, List.append_nil]
    exact hs
  · rw [if_neg h1]
    by_cases h2 : v = 2 ^ b + 1
    · rw [if_pos h2]
      refine (szStep_end w0 base B b limit p v g l.length cap wide s last l o cs ov cv w hb hB hlen hv4 hlim (by omega) (by omega) h h2).mono ?_
      rintro e w' ⟨rfl, hs⟩
      refine .inr ⟨_, _, _, _, _, rfl, gd, by simp; omega, by rw [decide_eq_false (by omega)], ?_⟩
      rw [show (ByteArray.mk #[]).data.toList = [] from rfl, List.append_nil]
      exact hs
    · rw [if_neg h2]
      by_cases h3 : l.length < v ∨ (v = l.length ∧ last.size = 0)
      · rw [if_pos h3]
        rcases h3 with h3 | ⟨h3, h4⟩
        · refine (szStep_bada w0 base B b limit p v g l.length cap wide s last l o cs ov cv w hb hB hlen hv4 hlim (by omega) (by omega) h h1 h2 h3).mono ?_
          rintro e w' ⟨rfl, hs⟩
          exact .inl ⟨1, by decide, rfl, rfl, hs⟩
        · refine (szStep_badb w0 base B b limit p v g l.length cap wide s last l o cs ov cv w hb hB hlen hv4 hlim (by omega) (by omega) h h1 h2 h3 h4).mono ?_
          rintro e w' ⟨rfl, hs⟩
          exact .inl ⟨1, by decide, rfl, rfl, hs⟩
      · rw [if_neg h3]
        obtain ⟨t, ht⟩ : ∃ t, t = Lz.text l last v := ⟨_, rfl⟩
        have hts := Lz.text_pos gd h1 h2 h3
        rw [← ht] at hts ⊢
        have e3 : t.data.toList.length = t.size := rfl
        by_cases hk : v < l.length
        · have htk : t = l[v] := by rw [ht]; unfold Lz.text; rw [dif_pos hk]
          by_cases h5 : left < t.size
          · rw [if_pos h5]
            refine (szStep_longk w0 base B b limit p v g l.length cap wide s last l o cs ov cv w hb hB hlen hv4 hlim (by omega) (by omega) h h1 h2 hk t htk hts.2 (by omega)).mono ?_
            rintro e w' ⟨rfl, hs⟩
            exact .inl ⟨3, by decide, rfl, rfl, hs⟩
          · rw [if_neg h5]
            by_cases h6 : 0 < last.size ∧ l.length < 4096
            · refine (szStep_moreky w0 base B b limit p v g l.length cap wide s last l o cs ov cv w hb hB hlen hv4 hlim (by omega) (by omega) h h1 h2 hk t htk hts.1 hts.2 (by omega) h6.1 h6.2).mono ?_
              rintro e w' ⟨rfl, hs⟩
              refine .inr ⟨_, _, _, _, _, rfl, Lz.learn_good gd (by omega), by rw [List.length_append, e3]; omega, by rw [decide_eq_true h2], ?_⟩
              unfold Lz.learn
              rw [if_pos h6]
              exact hs
            · refine (szStep_morekn w0 base B b limit p v g l.length cap wide s last l o cs ov cv w hb hB hlen hv4 hlim (by omega) (by omega) h h1 h2 hk t htk hts.1 hts.2 (by omega) h6).mono ?_
              rintro e w' ⟨rfl, hs⟩
              refine .inr ⟨_, _, _, _, _, rfl, Lz.learn_good gd (by omega), by rw [List.length_append, e3]; omega, by rw [decide_eq_true h2], ?_⟩
              unfold Lz.learn
              rw [if_neg h6]
              exact hs
        · have htk : t = last ++ last.extract 0 1 := by rw [ht]; unfold Lz.text; rw [dif_neg hk]
          have hvl : v = l.length := by omega
          have hl1 : 1 ≤ last.size := by omega
          by_cases h5 : left < t.size
          · rw [if_pos h5]
            refine (szStep_longn w0 base B b limit p v g l.length cap wide s last l o cs ov cv w hb hB hlen hv4 hlim (by omega) (by omega) h h1 h2 hvl hl1 t htk hts.2 (by omega)).mono ?_
            rintro e w' ⟨rfl, hs⟩
            exact .inl ⟨3, by decide, rfl, rfl, hs⟩
          · rw [if_neg h5]
            by_cases h6 : 0 < last.size ∧ l.length < 4096
            · refine (szStep_moreny w0 base B b limit p v g l.length cap wide s last l o cs ov cv w hb hB hlen hv4 hlim (by omega) (by omega) h h1 h2 hvl hl1 t htk hts.1 hts.2 (by omega) h6.1 h6.2).mono ?_
              rintro e w' ⟨rfl, hs⟩
              refine .inr ⟨_, _, _, _, _, rfl, Lz.learn_good gd (by omega), by rw [List.length_append, e3]; omega, by rw [decide_eq_true h2], ?_⟩
              unfold Lz.learn
              rw [if_pos h6]
              exact hs
            · refine (szStep_morenn w0 base B b limit p v g l.length cap wide s last l o cs ov cv w hb hB hlen hv4 hlim (by omega) (by omega) h h1 h2 hvl hl1 t htk hts.1 hts.2 (by omega) h6).mono ?_
              rintro e w' ⟨rfl, hs⟩
              refine .inr ⟨_, _, _, _, _, rfl, Lz.learn_good gd (by omega), by rw [List.length_append, e3]; omega, by rw [decide_eq_true h2], ?_⟩
              unfold Lz.learn
              rw [if_neg h6]
              exact hs

theorem Lz.num_lt (s : ByteArray) (wide : Bool) (q N : Nat) (h : N ≤ 12) : Lz.num s wide q N ≤ 4096 := by
  have := Bg.num_lt (fun i => bitAt s wide (q + i)) (fun i => bitAt_lt _ _ _) N wide
  have h2 : 2 ^ N ≤ 2 ^ 12 := Nat.pow_le_pow_right (by omega) h
  unfold Lz.num
  omega

/-- a number is put behind the others -/
theorem SzP.push {w0 : World} {base B b : Nat} {wide : Bool} {s : ByteArray} {limit p : Nat} {l : List ByteArray} {last : ByteArray} {o : List UInt8} {cs : List Int} {c : Int} {g n cap : Nat} {ov cv : Value} {w w2 : World} {g2 cap2 : Nat} {x : Int} (h : SzP w0 base B b wide s limit p l last o cs c g n cap ov cv w) (hB : base ≤ B)
    (ho : OwnI w2 base (.slice (some ⟨g2, 0, none⟩) (cs.length + 1) cap2) (cs.length + 1) (cs ++ [x])) (hg : Grew base w w2 cv g2) :
    SzR w2 B b wide s limit p (.slice (some ⟨g, 0, none⟩) n cap) last ov cv c ∧ SzP w0 base B b wide s limit p l last o (cs ++ [x]) c g n cap ov (.slice (some ⟨g2, 0, none⟩) (cs.length + 1) cap2) (w2.setCell ⟨B, 8, none⟩ (.slice (some ⟨g2, 0, none⟩) (cs.length + 1) cap2)) := by
  have hcB := h.r.apart h.oi (by decide)
  have hr2 : SzR w2 B b wide s limit p (.slice (some ⟨g, 0, none⟩) n cap) last ov cv c := h.r.same (hg.block _ h.r.lt (fun e => hcB e.symm))
  have hbase : base ≤ w.heap.size := by have := h.r.lt; omega
  have hol : OwnL w2 base (.slice (some ⟨g, 0, none⟩) n cap) n l := ownsRow_besides h.ol (fun k hk => hg.block k (World.ownsRow.lt h.ol k hk).2 (fun e => rows_apart h.oi h.ol (by decide) k e.symm hk))
  have hot : OwnT w2 base ov o.length o := ownsRow_besides h.ot (fun k hk => hg.block k (World.ownsRow.lt h.ot k hk).2 (fun e => rows_apart h.oi h.ot (by decide) k e.symm hk))
  refine ⟨hr2, hr2.set rfl, row_set hol (hr2.apart hol (by decide)), row_set hot (hr2.apart hot (by decide)), ?_, (hg.below h.bel (Nat.le_refl _) hbase).setCell hB _⟩
  have := row_set (i := 8) (u := .slice (some ⟨g2, 0, none⟩) (cs.length + 1) cap2) ho (hr2.apart ho (by decide))
  unfold OwnI
  rw [List.length_append]
  exact this

theorem sz_new (w0 w : World) (base b limit : Nat) (wide : Bool) (s : ByteArray) (g n cap : Nat) (l : List ByteArray) (ho : OwnL w base (.slice (some ⟨g, 0, none⟩) n cap) n l) (hb : Below base w0 w) (hs : base ≤ w.heap.size) :
    SzP w0 base w.heap.size b wide s limit 0 l ⟨#[]⟩ [] [] 0 g n cap (.slice none 0 0) (.slice none 0 0) (w.alloc (.cells #[.string s, .int .i64 (b : Int), .bool wide, .int .i64 (limit : Int), .int .i64 0, .slice (some ⟨g, 0, none⟩) n cap, .string ⟨#[]⟩, .slice none 0 0, .slice none 0 0, .int .i64 0] 55)) :=
  ⟨World.alloc_heap_new w _, ho.alloc _, ownT_nil _ _, ownI_nil _ _, hb.alloc hs _⟩

end Go.Proofs.Ytjfihmpnbblomaa

/- All numbers of a text are read by the specification. -/
namespace Go.Proofs.Ytjfihmpnbblomaa
open Go.RowKit

/-- how far it is -/
structure SzGo (w : World) (B b : Nat) (wide : Bool) (s : ByteArray) (limit : Nat) (Rs : Except Int (List (Nat × ByteArray))) (dn : List (Nat × ByteArray)) (p : Nat) (l : List ByteArray) (last : ByteArray) (left f : Nat) (wr : World) : Prop where
  st : SzS w w.heap.size B b wide s limit p l last (textsOf dn) (codesOf dn) 0 wr
  good : Lz.Good b l last
  left_ : (textsOf dn).length + left = limit
  p_ : p ≤ 8 * s.size
  f_ : 8 * s.size + 1 ≤ p + f
  d_ : dn.length ≤ p
  rs : Rs = (Lz.go s b wide f p l last left).map (dn ++ ·)
/-- how it ends -/
def SzFin (w : World) (B b : Nat) (wide : Bool) (s : ByteArray) (limit : Nat) (Rs : Except Int (List (Nat × ByteArray))) (wr : World) : Prop :=
  ∃ p l last o cs c, SzS w w.heap.size B b wide s limit p l last o cs c wr ∧ ((∃ dn, Rs = .ok dn ∧ c = 0 ∧ o = textsOf dn ∧ cs = codesOf dn) ∨ (c ≠ 0 ∧ Rs = .error c))
def SzInv (w : World) (B b : Nat) (wide : Bool) (s : ByteArray) (limit : Nat) (Rs : Except Int (List (Nat × ByteArray))) (e : Value) (wr : World) : Prop :=
  (e = .bool false ∧ SzFin w B b wide s limit Rs wr) ∨ (e = .bool true ∧ ∃ dn p l last left f, SzGo w B b wide s limit Rs dn p l last left f wr)
def szMeas (B z : Nat) (e : Value) (wr : World) : Nat :=
  match e with
  | .bool false => 0
  | _ => match wr.cell? ⟨B, 4, none⟩ with
    | some (.int _ p) => 8 * z + 2 - p.toNat
    | _ => 0
theorem map_push (X : Except Int (List (Nat × ByteArray))) (dn : List (Nat × ByteArray)) (z : Nat × ByteArray) : (X.map (z :: ·)).map (dn ++ ·) = X.map ((dn ++ [z]) ++ ·) := by
  cases X <;> simp [Except.map]

/-- what l6All answers -/
def SzAll (w : World) (b : Nat) (wide : Bool) (s : ByteArray) (limit : Nat) (Rs : Except Int (List (Nat × ByteArray))) (e : Ending) (w' : World) : Prop :=
  ∃ B, e = .returned (.pointer (some ⟨B, 0, none⟩)) ∧ SzFin w B b wide s limit Rs w'

set_option maxHeartbeats 4000000 in
set_option maxRecDepth 20000 in
theorem l6All_any (b limit : Nat) (wide : Bool) (s : ByteArray) (Rs : Except Int (List (Nat × ByteArray))) (w : World) (hb : b ≤ 8) (hsz : s.size ≤ 9000) (hlim : limit ≤ 5000) (hRs : Rs = Lz.go s b wide (8 * s.size + 1) 0 (Lz.start b) ⟨#[]⟩ limit) :
    Calls Try.prog 33 #[.string s, .int .i64 (b : Int), .bool wide, .int .i64 (limit : Int)] w (SzAll w b wide s limit Rs) := by
  have HST : Hid (∀ w', Calls Try.prog 54 #[.int .i64 (b : Int)] w' fun e w'' => ∃ g cap, e = .returned (.slice (some ⟨g, 0, none⟩) (2 ^ b + 2) cap) ∧ OwnL w'' w'.heap.size (.slice (some ⟨g, 0, none⟩) (2 ^ b + 2) cap) (2 ^ b + 2) (Lz.start b) ∧ Below w'.heap.size w' w'') := fun w' => l6Start_any b hb w'
  have HRS : Hid (Rs = Lz.go s b wide (8 * s.size + 1) 0 (Lz.start b) ⟨#[]⟩ limit) := hRs
  clear hRs
  go_enter Try.func33, Try.ntmps33
  go_wp2_with fail
  refine (HST.out _).mono ?_
  rintro e w1 ⟨g, cap, rfl, ho1, b1⟩
  have hw1 := b1.size
  have hP1 := sz_new w w1 w.heap.size b limit wide s g (2 ^ b + 2) cap (Lz.start b) ho1 b1 hw1
  have hgo : SzGo w w1.heap.size b wide s limit Rs [] 0 (Lz.start b) ⟨#[]⟩ limit (8 * s.size + 1) _ :=
    { st := ⟨_, _, _, _, _, hP1⟩, good := Lz.good_start hb, left_ := by simp [textsOf], p_ := by omega, f_ := by omega, d_ := by simp, rs := by rw [HRS.out]; cases Lz.go s b wide (8 * s.size + 1) 0 (Lz.start b) ⟨#[]⟩ limit <;> simp [Except.map] }
  have HGO1 : Hid (SzInv w w1.heap.size b wide s limit Rs (.bool true) (w1.alloc (.cells #[.string s, .int .i64 (b : Int), .bool wide, .int .i64 (limit : Int), .int .i64 0, .slice (some ⟨g, 0, none⟩) (2 ^ b + 2) cap, .string ⟨#[]⟩, .slice none 0 0, .slice none 0 0, .int .i64 0] 55))) := .inr ⟨rfl, [], 0, _, _, _, _, hgo⟩
  clear hP1 hgo ho1 b1 HST HRS
  have HB0 : w.heap.size ≤ w1.heap.size := hw1
  clear hw1
  go_wp2_with fail
  generalize hBB : w1.heap.size = B at *
  clear hBB
  go_loopw [10] (fun e wr => SzInv w B b wide s limit Rs e wr) (fun e wr => szMeas B s.size e wr)
  case atStart => exact HGO1.out
  case round =>
    clear HGO1
    rcases hrel with ⟨rfl, hF⟩ | ⟨rfl, dn, p, l, last, left, f, hG⟩
    · have HF : Hid (SzAll w b wide s limit Rs (.returned (.pointer (some ⟨B, 0, none⟩))) wr) := ⟨B, rfl, hF⟩
      clear hF
      go_wp2_with fail
      go_ret
      exact HF.out
    · have HGO : Hid (SzGo w B b wide s limit Rs dn p l last left f wr) := hG
      obtain ⟨g, cap, ov, cv, hP⟩ := hG.st.len
      have HP : Hid (SzP w w.heap.size B b wide s limit p l last (textsOf dn) (codesOf dn) 0 g l.length cap ov cv wr) := hP
      clear hG
      have hms : szMeas B s.size (.bool true) wr = 8 * s.size + 2 - p := by
        unfold szMeas
        rw [hP.r.cell 4]
        rfl
      have HMS : Hid (szMeas B s.size (.bool true) wr = 8 * s.size + 2 - p) := hms
      have hpb := HGO.out.p_
      have hlen := HGO.out.good.ge
      obtain ⟨N, hN⟩ : ∃ N : Nat, N = Lz.width b wide l.length := ⟨_, rfl⟩
      have hNb := Lz.width_bd hb wide l.length
      rw [← hN] at hNb
      obtain ⟨f', hf'⟩ : ∃ f', f = f' + 1 := ⟨f - 1, by have := HGO.out.f_; omega⟩
      by_cases hno : 8 * s.size < p + N
      · have HNX : Hid (Calls Try.prog 55 #[.pointer (some ⟨B, 0, none⟩)] wr fun e w' => e = .returned (.int .i64 (-1)) ∧ SzFin w B b wide s limit Rs w') := by
          refine (szNext_no B b limit p l.length g cap wide s last ov cv 0 wr hb hsz hlen hpb hP.r (by omega)).mono ?_
          rintro e w' ⟨rfl, -, q, rfl⟩
          refine ⟨rfl, p, l, last, _, _, 2, ⟨_, _, _, _, _, (HP.out.drewN q).set HB0 rfl⟩, .inr ⟨by decide, ?_⟩⟩
          rw [HGO.out.rs, hf', Lz.go_err (c := 2) (by unfold Lz.step; simp only [← hN, if_pos hno])]
          rfl
        clear hP hms
        go_wp2_with fail
        refine HNX.out.mono ?_
        rintro e w2 ⟨rfl, hF⟩
        have HF : Hid (SzAll w b wide s limit Rs (.returned (.pointer (some ⟨B, 0, none⟩))) w2) := ⟨B, rfl, hF⟩
        clear hF
        go_wp2_with fail
        go_ret
        exact HF.out
      · obtain ⟨v, hv⟩ : ∃ v, v = Lz.num s wide p N := ⟨_, rfl⟩
        have hv4 : v ≤ 4096 := by rw [hv]; exact Lz.num_lt s wide p N (by omega)
        have HNX : Hid (Calls Try.prog 55 #[.pointer (some ⟨B, 0, none⟩)] wr fun e w' => e = .returned (.int .i64 (v : Int)) ∧ SzP w w.heap.size B b wide s limit (p + N) l last (textsOf dn) (codesOf dn) 0 g l.length cap ov cv w') := by
          refine (szNext_yes B b limit p l.length g cap v N wide s last ov cv 0 wr hb hsz hlen hP.r hN (by omega) hv).mono ?_
          rintro e w' ⟨rfl, -, q, rfl⟩
          exact ⟨rfl, (HP.out.drewN q).set HB0 rfl⟩
        have HEQ : Hid (N = Lz.width b wide l.length ∧ v = Lz.num s wide p N ∧ f = f' + 1) := ⟨hN, hv, hf'⟩
        clear hP hms hN hv hf'
        go_wp2_with fail
        refine HNX.out.mono ?_
        rintro e w2 ⟨rfl, hP2⟩
        have HP2 : Hid (SzP w w.heap.size B b wide s limit (p + N) l last (textsOf dn) (codesOf dn) 0 g l.length cap ov cv w2) := hP2
        have c8 := hP2.r.cell 8
        simp at c8
        have hbw2 : w.heap.size ≤ w2.heap.size := hP2.bel.size
        have hdn : dn.length ≤ p := HGO.out.d_
        have hcl : (codesOf dn).length ≤ 72000 := by rw [codesOf_len]; omega
        clear hP2 HNX HP
        go_wp2_with (at_builtin; refine wpList_app1 w2 (by rfl) _ _ (by rfl) w.heap.size _ (codesOf dn).length (codesOf dn) (v : Int) (by rfl) HP2.out.oi (by rfl) (Nat.le_trans hcl (by decide)) hbw2 ?_)
        intro g2 cap2 w3 ho3 hg3
        obtain ⟨hr3, hP4⟩ := HP2.out.push HB0 ho3 hg3
        have HP4 : Hid (SzP w w.heap.size B b wide s limit (p + N) l last (textsOf dn) (codesOf dn ++ [(v : Int)]) 0 g l.length cap ov (.slice (some ⟨g2, 0, none⟩) ((codesOf dn).length + 1) cap2) (w3.setCell ⟨B, 8, none⟩ (.slice (some ⟨g2, 0, none⟩) ((codesOf dn).length + 1) cap2))) := hP4
        have k8 := hr3.cell 8
        have kf8 := hr3.free 8
        simp at k8
        clear ho3 hg3 hr3 hP4 c8 HP2
        generalize hL8 : (codesOf dn).length = L8 at *
        go_wp2_with fail
        refine (szStep_any w w.heap.size B b limit (p + N) p v left N wide s last l (textsOf dn) (codesOf dn ++ [(v : Int)]) _ hb HB0 hlim HGO.out.left_ HGO.out.good HEQ.out.1 (by omega) HEQ.out.2.1 hv4 ⟨_, _, _, _, _, HP4.out⟩).mono ?_
        obtain ⟨hN, hv, hf'⟩ := HEQ.out
        rintro e w5 (⟨c, hc0, hst, rfl, hS5⟩ | ⟨v2, t, l2, last2, left2, hst, hgd2, hlf2, rfl, hS5⟩)
        · have HF : Hid (SzInv w B b wide s limit Rs (.bool false) w5) := .inl ⟨rfl, _, _, _, _, _, _, hS5, .inr ⟨hc0, by rw [HGO.out.rs, hf', Lz.go_err hst]; rfl⟩⟩
          clear hst hS5 HP4 HGO k8 kf8 hN hv hf' HEQ
          go_wp2_with fail
          go_roundw
          case rel => exact HF.out
          case measure =>
            have h1 := HMS.out
            have h2 : szMeas B s.size (.bool false) w5 = 0 := rfl
            omega
        · have hvv : v2 = v := by
            unfold Lz.step at hst
            simp only [← hN, ← hv, if_neg hno] at hst
            split at hst
            · cases hst; rfl
            · split at hst
              · cases hst; rfl
              · split at hst
                · cases hst
                · split at hst
                  · cases hst
                  · cases hst; rfl
          subst hvv
          have hcs : codesOf dn ++ [(v2 : Int)] = codesOf (dn ++ [(v2, t)]) := (codesOf_snoc dn v2 t).symm
          have hts : textsOf dn ++ t.data.toList = textsOf (dn ++ [(v2, t)]) := (textsOf_snoc dn v2 t).symm
          rw [hcs, hts] at hS5
          rw [hts] at hlf2
          obtain ⟨g5, cap5, ov5, cv5, hP5⟩ := hS5.len
          by_cases hve : v2 = 2 ^ b + 1
          · have HF : Hid (SzInv w B b wide s limit Rs (.bool false) w5) := .inl ⟨rfl, _, _, _, _, _, _, hS5, .inl ⟨dn ++ [(v2, t)], by rw [HGO.out.rs, hf', Lz.go_end hst hve]; rfl, rfl, rfl, rfl⟩⟩
            rw [decide_eq_false (show ¬ (v2 ≠ 2 ^ b + 1) from fun h => h hve)]
            clear hst hS5 HP4 HGO k8 kf8 hcs hts hP5 hve hv hN hf' HEQ
            go_wp2_with fail
            go_roundw
            case rel => exact HF.out
            case measure =>
              have h1 := HMS.out
              have h2 : szMeas B s.size (.bool false) w5 = 0 := rfl
              omega
          · have hgo : SzGo w B b wide s limit Rs (dn ++ [(v2, t)]) (p + N) l2 last2 left2 f' w5 :=
              { st := hS5, good := hgd2, left_ := hlf2, p_ := by omega, f_ := by have := HGO.out.f_; omega, d_ := by rw [List.length_append]; simp; omega, rs := by rw [HGO.out.rs, hf', Lz.go_on hst hve, map_push, ← hN] }
            have HF : Hid (SzInv w B b wide s limit Rs (.bool true) w5) := .inr ⟨rfl, _, _, _, _, _, _, hgo⟩
            have hm5 : szMeas B s.size (.bool true) w5 = 8 * s.size + 2 - (p + N) := by
              unfold szMeas
              rw [hP5.r.cell 4]
              rfl
            have HM5 : Hid (szMeas B s.size (.bool true) w5 = 8 * s.size + 2 - (p + N)) := hm5
            rw [decide_eq_true (show v2 ≠ 2 ^ b + 1 from hve)]
            clear hst hS5 HP4 HGO k8 kf8 hcs hts hP5 hve hv hm5 hgo hN hf' HEQ
            go_wp2_with fail
            go_roundw
            case rel => exact HF.out
            case measure =>
              have h1 := HMS.out
              have h2 := HM5.out
              omega
end Go.Proofs.Ytjfihmpnbblomaa

/- Ints appended to a row of the call's own: none or more. -/
namespace Go.Proofs.Ytjfihmpnbblomaa
open Go.RowKit

/-- nothing is appended -/
theorem append_nothing (a : Option Addr) (n cap : Nat) (h : n ≤ cap) (b : Option Addr) (c : Nat) (ty : TypeId) (w : World) :
    (Builtin.append_ #[33, 33] ty #[.slice a n cap, .slice b 0 c]).run Try.prog w = .ok (.slice a n cap) w := by
  obtain ⟨i0, hi0, hz0, hz1, hz2⟩ := info_parts info_int
  cases a <;> cases b <;> simp [Builtin.append_, run_underlying Try.underlying33, sizeOf, typeInfo, hi0, Builtin.lenOf, Builtin.firstCells, h, storeCells, loadCells, loadCellsFrom]

theorem run_append_ints (ty : TypeId) (base : Nat) (v : Value) (n : Nat) (l : List Int) (w : World) (hown : OwnI w base v n l) (ca : Option Addr) (m c : Nat) (cs : List Int) (hc : Ints w ca cs) (hm : cs.length = m) (h63 : n + m ≤ 9000000) (hbase : base ≤ w.heap.size) :
    ∃ a cap w', (Builtin.append_ #[33, 33] ty #[v, .slice ca m c]).run Try.prog w = .ok (.slice a (n + m) cap) w' ∧ OwnI w' base (.slice a (n + m) cap) (n + m) (l ++ cs) ∧ w.grownBy w' v.ownBlock := by
  obtain ⟨i0, hi0, hz0, hz1, hz2⟩ := info_parts info_int
  rcases Nat.eq_zero_or_pos m with h0 | hp
  · subst h0
    have hcs : cs = [] := List.eq_nil_of_length_eq_zero hm
    subst hcs
    obtain ⟨ao, cap, rfl, _⟩ := hown.owns
    have hle : n ≤ cap := by
      rcases hown.2 with ⟨e, h0⟩ | ⟨g, cap', cur, e, _, _, h1, _⟩
      · cases e; omega
      · cases e; exact h1
    refine ⟨ao, cap, w, append_nothing ao n cap hle ca c ty w, by simpa using hown, ⟨rfl, rfl, rfl, Nat.le_refl _, fun _ _ _ => rfl⟩⟩
  · rcases hc with e | ⟨b, off, rfl, hb, hcell⟩
    · rw [e] at hm; simp at hm; omega
    · obtain ⟨g, cap, w', hr, h2, h3, _, _⟩ := run_append_lies (P := Try.prog) w 33 ty base 3 i0 (.int .i64 0) 1 8 Try.underlying33 hi0 hz0 hz1 hz2 rfl (by decide) v n (intsV l) hown ⟨b, off, none⟩ m c (intsV cs) (by rw [intsV_len]; omega)
        (fun j u hu => by
          have hj : j < cs.length := by
            rcases Nat.lt_or_ge j cs.length with h | h
            · exact h
            · rw [List.getElem?_eq_none (by rw [intsV_len]; exact h)] at hu; cases hu
          rw [intsV_get cs j hj] at hu
          cases hu
          have hadd : (⟨b, off, none⟩ : Addr).add j = ⟨b, off + j, none⟩ := by unfold Addr.add; split <;> simp_all
          rw [hadd]; exact hcell j hj)
        (fun u hu => by simp [intsV] at hu; obtain ⟨x, _, rfl⟩ := hu; rfl) hp (by unfold maxLen; omega) (by omega) hbase w.heap.size rfl
      exact ⟨some ⟨g, 0, none⟩, cap, w', hr, by show World.ownsRow _ _ _ _ _ _ _; rw [show intsV (l ++ cs) = intsV l ++ intsV cs by simp [intsV]]; exact h2, h3⟩

theorem wp_append_ints {w : World} {o : Oper} {a : Act} {K : Act → World → Prop} {Q : Exit → Act → World → Prop} (s x : Operand)
    (ho : o.op = .call { callee := .builtin .append, args := #[s, x], argTypes := #[33, 33] })
    (base : Nat) (v : Value) (n : Nat) (l : List Int) (hs : a.eval s = v) (hown : OwnI w base v n l) (ca : Option Addr) (m c : Nat) (cs : List Int) (hx : a.eval x = .slice ca m c) (hc : Ints w ca cs) (hm : cs.length = m) (h63 : n + m ≤ 9000000) (hbase : base ≤ w.heap.size)
    (h : ∀ a' cap w', OwnI w' base (.slice a' (n + m) cap) (n + m) (l ++ cs) → w.grownBy w' v.ownBlock → K (a.put o.dst (.slice a' (n + m) cap)) w') : o.wp Try.prog a w K Q := by
  obtain ⟨a', cap, w', hr, h2, h3⟩ := run_append_ints o.type base v n l w hown ca m c cs hc hm h63 hbase
  unfold Oper.wp execOp
  simp only [ho, resolve, invoke, builtin, Sem.run_bind, Sem.run_pure, Result.andThen_ok, List.map_toArray, List.map_cons, List.map_nil, hs, hx, hr]
  exact h a' cap w' h2 h3

theorem wpList_append_ints {w : World} {ops : Array Oper} {rest : List Oper} {o : Oper} {a : Act} {Q : Exit → Act → World → Prop} (hgd : o.guard = none) (s x : Operand)
    (ho : o.op = .call { callee := .builtin .append, args := #[s, x], argTypes := #[33, 33] })
    (base : Nat) (v : Value) (n : Nat) (l : List Int) (hs : a.eval s = v) (hown : OwnI w base v n l) (ca : Option Addr) (m c : Nat) (cs : List Int) (hx : a.eval x = .slice ca m c) (hc : Ints w ca cs) (hm : cs.length = m) (h63 : n + m ≤ 9000000) (hbase : base ≤ w.heap.size)
    (h : ∀ a' cap w', OwnI w' base (.slice a' (n + m) cap) (n + m) (l ++ cs) → w.grownBy w' v.ownBlock → wpList Try.prog ops Q rest (a.put o.dst (.slice a' (n + m) cap)) w') : wpList Try.prog ops Q (o :: rest) a w :=
  wpList_plain hgd fun _ hK => wp_append_ints s x ho base v n l hs hown ca m c cs hx hc hm h63 hbase fun a' cap w' h2 h3 => hK _ _ (h a' cap w' h2 h3)

theorem step_append_ints {w : World} {ops : Array Oper} {o : Oper} {a : Act} {K : Act → World → Prop} {Q : Exit → Act → World → Prop} {E : Prop} (hgd : o.guard = none) (s x : Operand)
    (ho : o.op = .call { callee := .builtin .append, args := #[s, x], argTypes := #[33, 33] })
    (base : Nat) (v : Value) (n : Nat) (l : List Int) (hs : a.eval s = v) (hown : OwnI w base v n l) (ca : Option Addr) (m c : Nat) (cs : List Int) (hx : a.eval x = .slice ca m c) (hc : Ints w ca cs) (hm : cs.length = m) (h63 : n + m ≤ 9000000) (hbase : base ≤ w.heap.size)
    (h : ∀ a' cap w', OwnI w' base (.slice a' (n + m) cap) (n + m) (l ++ cs) → w.grownBy w' v.ownBlock → K (a.put o.dst (.slice a' (n + m) cap)) w') :
    if Region.wanted o (yielded ops a.tmps) = true then Oper.wp Try.prog o a w K Q else E := by
  have hw : Region.wanted o (yielded ops a.tmps) = true := by simp [Region.wanted, hgd]
  rw [if_pos hw]
  exact wp_append_ints s x ho base v n l hs hown ca m c cs hx hc hm h63 hbase h
end Go.Proofs.Ytjfihmpnbblomaa

/- LzwCodes and LzwGet of the specification. -/
namespace Go.Proofs.Ytjfihmpnbblomaa
open Go.RowKit

theorem ints_nil (w : World) (a : Option Addr) : Ints w a [] := .inl rfl

theorem SzFin.open {w : World} {B b : Nat} {wide : Bool} {s : ByteArray} {limit : Nat} {Rs : Except Int (List (Nat × ByteArray))} {wr : World} (h : SzFin w B b wide s limit Rs wr) :
    Below w.heap.size w wr ∧ ((∃ dn ov cv, Rs = .ok dn ∧ wr.cell? ⟨B, 9, none⟩ = some (.int .i64 0) ∧ wr.cell? ⟨B, 7, none⟩ = some ov ∧ wr.cell? ⟨B, 8, none⟩ = some cv ∧ OwnT wr w.heap.size ov (textsOf dn).length (textsOf dn) ∧ OwnI wr w.heap.size cv (codesOf dn).length (codesOf dn)) ∨ (∃ c, c ≠ 0 ∧ Rs = .error c ∧ wr.cell? ⟨B, 9, none⟩ = some (.int .i64 c))) := by
  obtain ⟨p, l, last, o, cs, c, ⟨g, n, cap, ov, cv, hP⟩, h⟩ := h
  refine ⟨hP.bel, ?_⟩
  rcases h with ⟨dn, h1, rfl, rfl, rfl⟩ | ⟨h1, h2⟩
  · exact .inl ⟨dn, ov, cv, h1, hP.r.cell 9, hP.r.cell 7, hP.r.cell 8, hP.ot, hP.oi⟩
  · exact .inr ⟨c, h1, h2, hP.r.cell 9⟩

set_option maxHeartbeats 1000000 in
theorem spec_lzwCodes (s : ByteArray) (b : Int) (wide : Bool) (w : World) (hs : s.size ≤ 3000000) :
    Calls Try.prog 18 #[.string s, .int .i64 b, .bool wide] w fun e w' => (∃ ao cap, e = .returned (.slice ao (Lz.codes (Lz.res s b wide 5000)).length cap) ∧ Ints w' ao (Lz.codes (Lz.res s b wide 5000))) ∧ Below w.heap.size w w' := by
  have HOK : Hid (∀ w, Calls Try.prog 31 #[.int .i64 b, .bool wide] w fun e w' => e = .returned (.bool (Lz.ok b wide)) ∧ w' = w) := fun w => l6Ok_any b wide w
  by_cases hf : LzFine s b wide 5000
  · obtain ⟨B, rfl⟩ := Int.eq_ofNat_of_zero_le (show 0 ≤ b by have := Lz.ok_bd hf.1; omega)
    have HR := fun w => l6All_any B 5000 wide s (Lz.res s B wide 5000) w (by have := Lz.ok_bd hf.1; omega) hf.2.1 (by omega) (Lz.res_yes (limit := 5000) hf)
    have hlen := Lz.codes_len s B 5000 wide
    generalize hRs : Lz.res s B wide 5000 = R at *
    clear hRs
    have HRD : Hid (∀ w, Calls Try.prog 33 #[.string s, .int .i64 (B : Int), .bool wide, .int .i64 5000] w (SzAll w B wide s 5000 R)) := HR
    rw [hf.1] at HOK
    have d1 : decide ((s.size : Int) > 9000) = false := decide_eq_false (by have := hf.2.1; omega)
    clear HR hf
    go_enter Try.func18, Try.ntmps18
    go_wp2_with fail
    refine (HOK.out _).mono ?_
    rintro e w1 ⟨rfl, hw1⟩
    replace hw1 := hw1.symm
    subst hw1
    go_wp2_with fail
    refine (HRD.out _).mono ?_
    rintro e w2 ⟨A, rfl, hF⟩
    obtain ⟨bel, (⟨dn, ov, cv, rfl, c9, c7, c8, hot, hoi⟩ | ⟨c, hc0, rfl, c9⟩)⟩ := hF.open
    · obtain ⟨ao, cap, rfl, how⟩ := OwnI.owns hoi
      have HI : Hid (Ints w2 ao (codesOf dn)) := how.ints
      have HI0 : Hid (Ints (w2.alloc (.cells #[] 3)) ao (codesOf dn)) := how.ints.kept ((Below.refl _ _).alloc (Nat.le_refl _) _)
      have HN : Hid (OwnI (w2.alloc (.cells #[] 3)) w2.heap.size (.slice (some ⟨w2.heap.size, 0, none⟩) 0 0) 0 []) := ownI_none w2
      have hlen' : (codesOf dn).length ≤ 72001 := hlen
      have HB : Hid (Below w.heap.size w w2) := bel
      have hAl : A < w2.heap.size := World.block_lt_of_cell? w2 ⟨A, 9, none⟩ c9
      clear hot hoi how bel hF hlen HRD HOK
      generalize hL : (codesOf dn).length = L at *
      have HL : Hid ((codesOf dn).length = L) := hL
      clear hL
      go_wp2_with (at_builtin; refine wpList_append_ints (by rfl) _ _ (by rfl) w2.heap.size _ 0 [] (by rfl) HN.out ao L cap (codesOf dn) (by rfl) HI0.out HL.out (by omega) (by rw [World.size_alloc]; omega) ?_)
      intro a' cap' w3 ho3 hg3
      have HF : Hid (Ints w3 a' (codesOf dn) ∧ Below w.heap.size w w3) := by
        obtain ⟨ao2, cap2, he, how2⟩ := OwnI.owns ho3
        cases he
        refine ⟨how2.ints, ?_⟩
        exact (HB.out.alloc HB.out.size _).grown hg3 (by rw [World.size_alloc]; have := HB.out.size; omega) (fun k hk => by cases hk; exact HB.out.size)
      clear ho3 hg3
      go_wp2_with fail
      go_ret
      exact ⟨⟨a', cap', by show _ = Ending.returned (.slice a' (codesOf dn).length cap'); rw [HL.out]; first | rfl | (conv => rhs; rw [← Nat.zero_add L]) | (conv => lhs; rw [Nat.zero_add L]), HF.out.1⟩, HF.out.2⟩
    · have hcb : (c != 0) = true := by rw [bne_iff_ne]; exact hc0
      clear hF HRD HOK hlen hc0
      go_wp2_with fail
      go_ret
      exact ⟨⟨_, _, rfl, ints_nil _ _⟩, bel.alloc bel.size _⟩
  · rw [Lz.res_no hf]
    have hno : Lz.ok b wide = false ∨ (Lz.ok b wide = true ∧ 9000 < s.size) := by
      cases h : Lz.ok b wide with
      | false => exact .inl rfl
      | true =>
        refine .inr ⟨rfl, ?_⟩
        rcases Nat.lt_or_ge 9000 s.size with h9 | h9
        · exact h9
        · exact absurd ⟨h, h9, by omega, by omega⟩ hf
    clear hf
    rcases hno with h0 | ⟨h0, h9⟩
    · rw [h0] at HOK
      go_enter Try.func18, Try.ntmps18
      go_wp2_with fail
      refine (HOK.out _).mono ?_
      rintro e w1 ⟨rfl, hw1⟩
      replace hw1 := hw1.symm
      subst hw1
      go_wp2_with fail
      go_ret
      exact ⟨⟨_, _, rfl, ints_nil _ _⟩, (Below.refl _ _).alloc (Nat.le_refl _) _⟩
    · rw [h0] at HOK
      have d1 : decide ((s.size : Int) > 9000) = true := decide_eq_true (by omega)
      go_enter Try.func18, Try.ntmps18
      go_wp2_with fail
      refine (HOK.out _).mono ?_
      rintro e w1 ⟨rfl, hw1⟩
      replace hw1 := hw1.symm
      subst hw1
      go_wp2_with fail
      go_ret
      exact ⟨⟨_, _, rfl, ints_nil _ _⟩, (Below.refl _ _).alloc (Nat.le_refl _) _⟩

set_option maxHeartbeats 1000000 in
theorem spec_lzwGet (s : ByteArray) (b : Int) (wide : Bool) (limit : Int) (w : World) (hs : s.size ≤ 3000000) :
    Calls Try.prog 10 #[.string s, .int .i64 b, .bool wide, .int .i64 limit] w fun e w' => e = .returned (.tuple #[.string ⟨(Lz.out (Lz.res s b wide limit)).toArray⟩, .int .i64 (Lz.code (Lz.res s b wide limit))]) ∧ Below w.heap.size w w' := by
  have HOK : Hid (∀ w, Calls Try.prog 31 #[.int .i64 b, .bool wide] w fun e w' => e = .returned (.bool (Lz.ok b wide)) ∧ w' = w) := fun w => l6Ok_any b wide w
  have HIN : Hid (∀ w, Calls Try.prog 32 #[.int .i64 limit, .int .i64 0, .int .i64 5000] w fun e w' => e = .returned (.bool (inB limit 0 5000)) ∧ w' = w) := fun w => l6In_any limit 0 5000 w
  by_cases hf : LzFine s b wide limit
  · obtain ⟨B, rfl⟩ := Int.eq_ofNat_of_zero_le (show 0 ≤ b by have := Lz.ok_bd hf.1; omega)
    obtain ⟨M, rfl⟩ := Int.eq_ofNat_of_zero_le (show 0 ≤ limit from hf.2.2.1)
    have HR := fun w => l6All_any B M wide s (Lz.res s B wide M) w (by have := Lz.ok_bd hf.1; omega) hf.2.1 (by have := hf.2.2.2; omega) (Lz.res_yes hf)
    generalize hRs : Lz.res s B wide M = R at *
    clear hRs
    have HRD : Hid (∀ w, Calls Try.prog 33 #[.string s, .int .i64 (B : Int), .bool wide, .int .i64 (M : Int)] w (SzAll w B wide s M R)) := HR
    rw [hf.1] at HOK
    rw [show inB M 0 5000 = true from decide_eq_true hf.2.2] at HIN
    have d1 : decide ((s.size : Int) > 9000) = false := decide_eq_false (by have := hf.2.1; omega)
    clear HR hf
    go_enter Try.func10, Try.ntmps10
    go_wp2_with fail
    refine (HOK.out _).mono ?_
    rintro e w1 ⟨rfl, hw1⟩
    replace hw1 := hw1.symm
    subst hw1
    go_wp2_with fail
    refine (HIN.out _).mono ?_
    rintro e w1 ⟨rfl, hw1⟩
    replace hw1 := hw1.symm
    subst hw1
    go_wp2_with fail
    refine (HRD.out _).mono ?_
    rintro e w2 ⟨A, rfl, hF⟩
    obtain ⟨bel, (⟨dn, ov, cv, rfl, c9, c7, c8, hot, hoi⟩ | ⟨c, hc0, rfl, c9⟩)⟩ := hF.open
    · have htx := OwnT.text hot
      obtain ⟨ao, n, cap, rfl⟩ : ∃ ao n cap, ov = .slice ao n cap := by
        rcases hot.2 with ⟨rfl, _⟩ | ⟨g, cap, cur, rfl, _⟩
        · exact ⟨_, _, _, rfl⟩
        · exact ⟨_, _, _, rfl⟩
      clear hot hoi hF HRD HOK HIN c8
      go_wp2_with fail
      go_ret2
      exact ⟨rfl, bel⟩
    · have hcb : (c != 0) = true := by rw [bne_iff_ne]; exact hc0
      clear hF HRD HOK hc0 HIN
      go_wp2_with fail
      go_quiet (fail)
      go_wp2_with fail
      go_ret2
      exact ⟨rfl, below_drewN bel _⟩
  · rw [Lz.res_no hf]
    have hno : Lz.ok b wide = false ∨ (Lz.ok b wide = true ∧ (9000 < s.size ∨ (s.size ≤ 9000 ∧ inB limit 0 5000 = false))) := by
      cases h : Lz.ok b wide with
      | false => exact .inl rfl
      | true =>
        refine .inr ⟨rfl, ?_⟩
        rcases Nat.lt_or_ge 9000 s.size with h9 | h9
        · exact .inl h9
        · exact .inr ⟨h9, decide_eq_false (fun hl => hf ⟨h, h9, hl.1, hl.2⟩)⟩
    clear hf
    rcases hno with h0 | ⟨h0, h9 | ⟨h9, h5⟩⟩
    · rw [h0] at HOK
      go_enter Try.func10, Try.ntmps10
      go_wp2_with fail
      refine (HOK.out _).mono ?_
      rintro e w1 ⟨rfl, hw1⟩
      replace hw1 := hw1.symm
      subst hw1
      go_wp2_with fail
      go_ret2
      exact ⟨rfl, Below.refl _ _⟩
    · rw [h0] at HOK
      have d1 : decide ((s.size : Int) > 9000) = true := decide_eq_true (by omega)
      go_enter Try.func10, Try.ntmps10
      go_wp2_with fail
      refine (HOK.out _).mono ?_
      rintro e w1 ⟨rfl, hw1⟩
      replace hw1 := hw1.symm
      subst hw1
      go_wp2_with fail
      go_ret2
      exact ⟨rfl, Below.refl _ _⟩
    · rw [h0] at HOK
      rw [h5] at HIN
      have d1 : decide ((s.size : Int) > 9000) = false := decide_eq_false (by omega)
      go_enter Try.func10, Try.ntmps10
      go_wp2_with fail
      refine (HOK.out _).mono ?_
      rintro e w1 ⟨rfl, hw1⟩
      replace hw1 := hw1.symm
      subst hw1
      go_wp2_with fail
      refine (HIN.out _).mono ?_
      rintro e w1 ⟨rfl, hw1⟩
      replace hw1 := hw1.symm
      subst hw1
      go_wp2_with fail
      go_ret2
      exact ⟨rfl, Below.refl _ _⟩
end Go.Proofs.Ytjfihmpnbblomaa
