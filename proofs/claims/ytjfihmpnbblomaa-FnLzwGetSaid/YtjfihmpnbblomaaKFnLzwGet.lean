/- Texts laid together: LzNew, LzFine, LzReadB, LzAns, LzTopB, LzFacts, WiPow, DrawLzw, DrawLzwPut, OfList, LimWalks, ConvWalks, BendWalks, LpMath, LpSmall, LpPut, LzOne, LzAll, LzSpecTop, DrawLzwGet, LawLzwGet. -/
import Derived.Test.YtjfihmpnbblomaaLzRdr
import Derived.Test.YtjfihmpnbblomaaLzStart
import Derived.Laws.MakeOwn
import Derived.Deep.RegionHeld3
import Derived.Test.YtjfihmpnbblomaaLzSmall
import Derived.RangeFuncBox
import Derived.Test.YtjfihmpnbblomaaLzWorkB
import Derived.Shelf.Abstract
import Derived.Test.YtjfihmpnbblomaaLzKeep
import Derived.Test.YtjfihmpnbblomaaProg
import Derived.Test.YtjfihmpnbblomaaBase
import Derived.Test.YtjfihmpnbblomaaDrawWalks
import Derived.Test.YtjfihmpnbblomaaOwnText
import Derived.Test.YtjfihmpnbblomaaEachReg
import Derived.Deep.Cut
import Derived.Deep.CutRange
import Derived.Test.YtjfihmpnbblomaaTextWalks
import Derived.Test.YtjfihmpnbblomaaStrWalks
import Derived.Laws.IdiomStrings
import Derived.Below
import Derived.Test.YtjfihmpnbblomaaOnlyB
import Derived.Test.YtjfihmpnbblomaaLzMath
import Derived.Test.YtjfihmpnbblomaaBpMath
import Derived.Test.YtjfihmpnbblomaaBitOwn
import Derived.BigQuiet
import Derived.Deep.QuietTactic
import Derived.Test.YtjfihmpnbblomaaBpSpecTop
import Derived.Test.YtjfihmpnbblomaaLzStep2
import Derived.Test.YtjfihmpnbblomaaLzStep3
import Derived.Test.YtjfihmpnbblomaaLzStep4
import Derived.Test.YtjfihmpnbblomaaLzStep5
import Derived.Test.YtjfihmpnbblomaaBgMath2
import Derived.Test.YtjfihmpnbblomaaAppInts
/- A new reader of LZW, of the program. -/
namespace Go.Proofs.Ytjfihmpnbblomaa
open Go.RowKit

/-- the first k are there, the others are nothing yet -/
def Lz.part (n k : Nat) : List ByteArray := Lz.ones k ++ List.replicate (n - k) ⟨#[]⟩
theorem Lz.ones_len (k : Nat) : (Lz.ones k).length = k := by simp [Lz.ones]
theorem Lz.part_set (n k : Nat) (h : k < n) : (Lz.part n k).set k (Lz.one k) = Lz.part n (k + 1) := by
  unfold Lz.part
  rw [Lz.ones_snoc, show n - k = (n - (k + 1)) + 1 by omega, List.replicate_succ, List.append_assoc, List.set_append_right _ _ (by rw [Lz.ones_len]; omega), Lz.ones_len, Nat.sub_self]
  rfl
theorem Lz.part_start (b : Nat) : Lz.part (2 ^ b + 2) (2 ^ b) = Lz.start b := by
  unfold Lz.part
  rw [Nat.add_sub_cancel_left]
  rfl
theorem txtsV_set (l : List ByteArray) (j : Nat) (x : ByteArray) : (txtsV l).set j (.string x) = txtsV (l.set j x) := by simp [txtsV, List.map_set]
theorem txtsV_rep (n : Nat) : txtsV (List.replicate n ⟨#[]⟩) = List.replicate n (.string ⟨#[]⟩) := by simp [txtsV]

theorem make_txts (n : Nat) (hl : n ≤ 2000000) (w : World) :
    (Instr.makeSlice 43 (.int .i64 (n : Int)) (.int .i64 (n : Int))).run Try.prog w = .ok (.slice (some ⟨w.heap.size, 0, none⟩) n n) (w.alloc (.cells (madeCells #[.string ⟨#[]⟩] n) 9)) := by
  obtain ⟨i0, hi, hz0, hz1, hz2⟩ := info_parts info_string
  have h := run_make (P := Try.prog) w 43 9 i0 (.string ⟨#[]⟩) Try.underlying43 hi hz0 .i64 .i64 (n : Int) (n : Int) (by omega) (by omega) (by rw [hz2]; omega) (by omega)
  rw [h, Int.toNat_natCast, hz1, Nat.mul_one]
  rfl
theorem own_txts (w : World) (n : Nat) (hl : n ≤ 2000000) : OwnL (w.alloc (.cells (madeCells #[.string ⟨#[]⟩] n) 9)) w.heap.size (.slice (some ⟨w.heap.size, 0, none⟩) n n) n (Lz.part n 0) := by
  unfold OwnL
  have e : txtsV (Lz.part n 0) = (madeCells #[Value.string ⟨#[]⟩] n).toList := by
    rw [toList_madeCells_one]
    exact txtsV_rep n
  rw [e]
  exact World.ownsRow_lit w _ n (Nat.le_refl _) (by unfold maxLen; omega) (by rw [size_madeCells, Nat.mul_one])

theorem alloc_cell (w : World) (o : Obj) (p : Addr) (h : p.block < w.heap.size) : (w.alloc o).cell? p = w.cell? p := ((Below.refl w.heap.size w).alloc (Nat.le_refl _) o).cell h

theorem orderOf_any (hi : Bool) (w : World) : Calls Try.prog 61 #[.bool hi] w fun e w' => e = .returned (ordV hi) ∧ w' = w := by
  cases hi
  · exact orderOf_low w
  · exact orderOf_high w

theorem lzr_new (w : World) (b : Nat) (wide : Bool) (s : ByteArray) (tv : Value) (limit : Nat) : LzR (w.alloc (.cells #[.int .i64 (b : Int), .bool wide, ordV wide, .string s, .int .i64 0, tv, .string ⟨#[]⟩, .int .i64 (limit : Int)] 89)) w.heap.size b wide s 0 tv ⟨#[]⟩ limit := by
  have hc : ∀ i, (w.alloc (.cells #[.int .i64 (b : Int), .bool wide, ordV wide, .string s, .int .i64 0, tv, .string ⟨#[]⟩, .int .i64 (limit : Int)] 89)).cell? ⟨w.heap.size, i, none⟩ = (#[.int .i64 (b : Int), .bool wide, ordV wide, .string s, .int .i64 0, tv, .string ⟨#[]⟩, .int .i64 (limit : Int)] : Array Value)[i]? := fun i => World.cell?_alloc_at _ _ _ _ rfl
  have hf : ∀ i, (w.alloc (.cells #[.int .i64 (b : Int), .bool wide, ordV wide, .string s, .int .i64 0, tv, .string ⟨#[]⟩, .int .i64 (limit : Int)] 89)).frozen? ⟨w.heap.size, i, none⟩ = false := fun i => World.frozen?_alloc_at _ _ _ _ rfl
  exact ⟨hc 0, hc 1, ⟨hc 2, hc 3, hc 4, hf 4⟩, hc 5, hc 6, hc 7, hf 5, hf 6, hf 7⟩

/-- what comes of it -/
def LzNew (w : World) (b : Nat) (wide : Bool) (s : ByteArray) (limit : Nat) (e : Ending) (w' : World) : Prop :=
  ∃ B g, e = .returned (.pointer (some ⟨B, 0, none⟩)) ∧ LzR w' B b wide s 0 (.slice (some ⟨g, 0, none⟩) (2 ^ b + 2) (2 ^ b + 2)) ⟨#[]⟩ limit ∧ OwnL w' w.heap.size (.slice (some ⟨g, 0, none⟩) (2 ^ b + 2) (2 ^ b + 2)) (2 ^ b + 2) (Lz.start b) ∧ Below w.heap.size w w' ∧ w.heap.size ≤ B ∧ w.heap.size ≤ g ∧ g ≠ B

set_option maxHeartbeats 2000000 in
theorem lzNew_any (b limit : Nat) (wide : Bool) (s : ByteArray) (hb : b ≤ 8) (w : World) :
    Calls Try.prog 50 #[.string s, .agg #[.int .i64 (b : Int), .bool wide], .int .i64 (limit : Int)] w (LzNew w b wide s limit) := by
  have HFI : Hid (∀ w', Calls Try.prog 58 #[.agg #[.int .i64 (b : Int), .bool wide]] w' fun e w'' => e = .returned (.int .i64 ((2 ^ b + 2 : Nat) : Int)) ∧ Below w'.heap.size w' w'') := fun w' => lzFirst_any b hb wide w'
  have HCL : Hid (∀ w', Calls Try.prog 57 #[.agg #[.int .i64 (b : Int), .bool wide]] w' fun e w'' => e = .returned (.int .i64 ((2 ^ b : Nat) : Int)) ∧ Below w'.heap.size w' w'') := fun w' => lzClear_any b hb wide w'
  have hp := Lz.pow_le hb
  have HPS : Hid (Lz.part (2 ^ b + 2) (2 ^ b) = Lz.start b) := Lz.part_start b
  have HQ : Hid (∀ B g e w', e = .returned (.pointer (some ⟨B, 0, none⟩)) → LzR w' B b wide s 0 (.slice (some ⟨g, 0, none⟩) (2 ^ b + 2) (2 ^ b + 2)) ⟨#[]⟩ limit → OwnL w' w.heap.size (.slice (some ⟨g, 0, none⟩) (2 ^ b + 2) (2 ^ b + 2)) (2 ^ b + 2) (Lz.start b) → Below w.heap.size w w' → w.heap.size ≤ B → w.heap.size ≤ g → g ≠ B → LzNew w b wide s limit e w') := fun B g e w' h1 h2 h3 h4 h5 h6 h7 => ⟨B, g, h1, h2, h3, h4, h5, h6, h7⟩
  generalize hS : Lz.start b = S at *
  clear hS
  obtain ⟨n, hn⟩ : ∃ n : Nat, n = 2 ^ b + 2 := ⟨_, rfl⟩
  rw [← hn] at HFI HPS HQ
  obtain ⟨P, hP⟩ : ∃ P : Nat, P = 2 ^ b := ⟨_, rfl⟩
  rw [← hP] at HCL HPS hp
  have hPn : n = P + 2 := by omega
  have hPn' : P + 1 < n := by omega
  have hnb : n ≤ 258 := by omega
  clear hn hP hPn
  have B0 : Hid (Below w.heap.size w (w.alloc (.cells #[.int .i64 (b : Int), .bool wide] 50))) := (Below.refl _ _).alloc (Nat.le_refl _) _
  go_enter Try.func50, Try.ntmps50
  go_wp2_with fail
  refine (HFI.out _).mono ?_
  rintro e w1 ⟨rfl, b1⟩
  have hz1 : w.heap.size < w1.heap.size := by have := b1.size; simp at this; omega
  obtain ⟨hc1, -⟩ : (∀ o, w1.cell? ⟨w.heap.size, o, none⟩ = (w.alloc (.cells #[.int .i64 (b : Int), .bool wide] 50)).cell? ⟨w.heap.size, o, none⟩) ∧ True := ⟨fun o => b1.cell (p := ⟨w.heap.size, o, none⟩) (by simp), trivial⟩
  have c10 : w1.cell? ⟨w.heap.size, 0, none⟩ = some (.int .i64 (b : Int)) := by rw [hc1]; simp
  have c11 : w1.cell? ⟨w.heap.size, 1, none⟩ = some (.bool wide) := by rw [hc1]; simp
  have B1 : Hid (Below w.heap.size w w1) := B0.out.trans (b1.mono (by simp))
  have hmk := make_txts n (by omega) w1
  clear b1 hc1 B0 HFI
  go_wp2_with fail
  refine (HCL.out _).mono ?_
  rintro e w2 ⟨rfl, b2⟩
  have hz2 : w1.heap.size < w2.heap.size := by have := b2.size; simp at this; omega
  have c20 : w2.cell? ⟨w.heap.size, 0, none⟩ = some (.int .i64 (b : Int)) := by rw [b2.cell (p := ⟨w.heap.size, 0, none⟩) (by simp; omega), alloc_cell _ _ _ hz1]; exact c10
  have c21 : w2.cell? ⟨w.heap.size, 1, none⟩ = some (.bool wide) := by rw [b2.cell (p := ⟨w.heap.size, 1, none⟩) (by simp; omega), alloc_cell _ _ _ hz1]; exact c11
  have B2 : Hid (Below w.heap.size w w2) := (B1.out.alloc B1.out.size _).trans (b2.mono (by have := B1.out.size; simp; omega))
  have O2 : Hid (OwnL w2 w1.heap.size (.slice (some ⟨w1.heap.size, 0, none⟩) n n) n (Lz.part n 0)) := (own_txts w1 n (by omega)).kept (fun k hk => by
    have e : k = w1.heap.size := by cases hk; rfl
    subst e
    exact b2.block _ (by simp))
  clear b2 B1 c10 c11 hmk HCL
  generalize w1.heap.size = g at *
  go_wp2_with fail
  go_loopw [14] (fun i wr => ∃ k : Nat, k ≤ P ∧ i = .int .i64 (k : Int) ∧ OwnL wr g (.slice (some ⟨g, 0, none⟩) n n) n (Lz.part n k) ∧ Below w.heap.size w wr ∧ wr.cell? ⟨w.heap.size, 0, none⟩ = some (.int .i64 (b : Int)) ∧ wr.cell? ⟨w.heap.size, 1, none⟩ = some (.bool wide)) (fun i _ => P - (intOf i).toNat)
  case atStart => exact ⟨0, Nat.zero_le _, rfl, O2.out, B2.out, c20, c21⟩
  case round =>
    obtain ⟨k, hk, rfl, ho, hbel, d0, d1⟩ := hrel
    clear O2 B2 c20 c21
    have HO : Hid (OwnL wr g (.slice (some ⟨g, 0, none⟩) n n) n (Lz.part n k)) := ho
    have HB : Hid (Below w.heap.size w wr) := hbel
    have hgr := (ho.lt g rfl).2
    by_cases hlt : k < P
    · have hu := wrap_u8_small k (by omega)
      have htx : Sem.run Try.prog (convert 22 9 (.slice (some ⟨wr.heap.size, 0, none⟩) 1 1)) (wr.alloc (.cells #[.int .u8 (k : Int)] 5)) = .ok (.string (Lz.one k)) (wr.alloc (.cells #[.int .u8 (k : Int)] 5)) := run_text1 wr k wr.heap.size rfl
      have hkl : k < (Lz.part n k).length := by rw [ho.len]; omega
      have hck := ho.cell k hkl
      have hfk : wr.frozen? ⟨g, k, none⟩ = false := World.ownsRow.frozenAt ho k
      generalize hx : (Lz.part n k)[k] = x at *
      clear hx ho hbel
      have hgk : (k : Int) < (n : Int) := by omega
      obtain ⟨W2, hW2⟩ : ∃ W2, W2 = (wr.alloc (.cells #[.int .u8 (k : Int)] 5)).setCell ⟨g, k, none⟩ (.string (Lz.one k)) := ⟨_, rfl⟩
      have hst := (World.ownsRow.stored (HO.out.alloc (.cells #[.int .u8 (k : Int)] 5)) k (.string (Lz.one k))).1
      rw [txtsV_set, Lz.part_set n k (by omega), ← hW2] at hst
      have HO2 : Hid (OwnL W2 g (.slice (some ⟨g, 0, none⟩) n n) n (Lz.part n (k + 1))) := hst
      have HB2 : Hid (Below w.heap.size w W2) := by show Below _ _ _; rw [hW2]; exact (HB.out.alloc HB.out.size _).setCell (by show w.heap.size ≤ g; omega) _
      have e0 : W2.cell? ⟨w.heap.size, 0, none⟩ = some (.int .i64 (b : Int)) := by
        rw [hW2, World.cell?_setCell_other _ _ _ _ (fun e => by have := congrArg Addr.block e; simp at this; omega), alloc_cell _ _ _ (by show w.heap.size < _; omega)]; exact d0
      have e1 : W2.cell? ⟨w.heap.size, 1, none⟩ = some (.bool wide) := by
        rw [hW2, World.cell?_setCell_other _ _ _ _ (fun e => by have := congrArg Addr.block e; simp at this; omega), alloc_cell _ _ _ (by show w.heap.size < _; omega)]; exact d1
      have HE : Hid (W2.cell? ⟨w.heap.size, 0, none⟩ = some (.int .i64 (b : Int)) ∧ W2.cell? ⟨w.heap.size, 1, none⟩ = some (.bool wide)) := ⟨e0, e1⟩
      have HW2 : Hid (W2 = (wr.alloc (.cells #[.int .u8 (k : Int)] 5)).setCell ⟨g, k, none⟩ (.string (Lz.one k))) := hW2
      clear hst e0 e1 hW2 d0 d1 HPS HQ
      go_wp2_with fail
      go_roundw
      case rel =>
        refine ⟨k + 1, by omega, by go_num, ?_⟩
        rw [← World.setCell_alloc_past _ _ _ _ hgr, ← HW2.out]
        exact ⟨HO2.out, HB2.out, HE.out.1, HE.out.2⟩
      case measure => simp [intOf]; omega
    · have e : P = k := by omega
      subst e
      have HO2 : Hid (OwnL wr w.heap.size (.slice (some ⟨g, 0, none⟩) n n) n S) := by
        show OwnL _ _ _ _ _
        rw [← HPS.out]; exact ho.down (by omega)
      have HOR : Hid (∀ w', Calls Try.prog 61 #[.bool wide] w' fun e w'' => e = .returned (ordV wide) ∧ w'' = w') := fun w' => orderOf_any wide w'
      have hgw : g ≠ wr.heap.size := by omega
      clear ho hbel HO HPS
      obtain ⟨ov, hov⟩ : ∃ f, ordV wide = .func (.func f) #[] #[] := by cases wide <;> exact ⟨_, rfl⟩
      have HOV : Hid (ordV wide = .func (.func ov) #[] #[]) := hov
      rw [hov] at HOR
      clear hov
      go_wp2_with fail
      go_region_held3 (fun w' => w'.cell? ⟨w.heap.size, 0, none⟩ = some (.int .i64 (b : Int)) ∧ w'.cell? ⟨w.heap.size, 1, none⟩ = some (.bool wide)) (go_keep) ((go_at_call 61; refine (HOR.out _).mono ?_; rintro e w3 ⟨rfl, hw3⟩; subst hw3))
      all_goals go_wp2_with fail
      all_goals go_ret
      all_goals
        refine HQ.out wr.heap.size g _ _ rfl ?_ ((HO2.out.alloc _).drew) ((HB.out.alloc HB.out.size _).drew) HB.out.size (by omega) hgw
        rw [← HOV.out]
        exact (lzr_new wr b wide s _ limit).drew
end Go.Proofs.Ytjfihmpnbblomaa

/- What can be read by LZW at all; two new blocks. -/
namespace Go.Proofs.Ytjfihmpnbblomaa
open Go.RowKit

def LzFine (s : ByteArray) (b : Int) (wide : Bool) (limit : Int) : Prop := Lz.ok b wide = true ∧ s.size ≤ 9000 ∧ 0 ≤ limit ∧ limit ≤ 5000
theorem duo1 (w : World) (a b : Obj) : ((w.alloc a).alloc b).heap[w.heap.size + 1]? = some b := by
  have := World.alloc_heap_new (w.alloc a) b; simpa using this
theorem duo0 (w : World) (a b : Obj) : ((w.alloc a).alloc b).heap[w.heap.size]? = some a :=
  (Below.heap_alloc _ _ _ (by simp)).trans (World.alloc_heap_new w a)
end Go.Proofs.Ytjfihmpnbblomaa

/- lzwRead[byte] of the program. -/
namespace Go.Proofs.Ytjfihmpnbblomaa
open Go.RowKit Go.Shelf

theorem KpB.down {w : World} {base base' : Nat} {kv : Value} {dn : List (Nat × ByteArray)} (h : KpB w base kv dn) (hb : base' ≤ base) : KpB w base' kv dn := by
  refine ⟨h.1, ?_⟩
  rcases h.2 with h0 | ⟨g, cap, cur, rfl, hgB, r⟩
  · exact .inl h0
  · exact .inr ⟨g, cap, cur, rfl, Nat.le_trans hb hgB, r⟩
def LzYesB (w : World) (Rs : Except Int (List (Nat × ByteArray))) (KB : Nat) (w' : World) : Prop := ∃ dn kv, Rs = .ok dn ∧ Boxed w' KB 22 kv ∧ KpB w' (KB + 2) kv dn ∧ Below w.heap.size w w'
def LzNoB (w : World) (Rs : Except Int (List (Nat × ByteArray))) (c : Int) (w' : World) : Prop := c ≠ 0 ∧ Rs = .error c ∧ Below w.heap.size w w'
/-- what lzwRead answers -/
def LzRdB (w : World) (Rs : Except Int (List (Nat × ByteArray))) (e : Ending) (w' : World) : Prop :=
  (∃ dn ao n cap, Rs = .ok dn ∧ e = .returned (.tuple #[.slice ao n cap, .int .i64 0]) ∧ KpB w' w.heap.size (.slice ao n cap) dn ∧ Below w.heap.size w w') ∨ ∃ c, c ≠ 0 ∧ Rs = .error c ∧ e = .returned (.tuple #[.slice none 0 0, .int .i64 c]) ∧ Below w.heap.size w w'

set_option maxHeartbeats 1000000 in
theorem lzReadB_no (s : ByteArray) (b limit : Int) (wide : Bool) (w : World) (hs : s.size ≤ 3000000) (hno : ¬ LzFine s b wide limit) :
    Calls Try.prog 30 #[.string s, .agg #[.int .i64 b, .bool wide], .int .i64 limit, .func (.func 29) #[] #[]] w fun e w' => e = .returned (.tuple #[.slice none 0 0, .int .i64 1]) ∧ Below w.heap.size w w' := by
  have HOK : Hid (∀ w', Calls Try.prog 36 #[.agg #[.int .i64 b, .bool wide]] w' fun e w'' => e = .returned (.bool (Lz.ok b wide)) ∧ Below w'.heap.size w' w'') := fun w' => lzOk_any b wide w'
  have HB0 : Hid (Below w.heap.size w ((w.alloc (.cells #[.int .i64 b, .bool wide] 50)).alloc (.cells #[.func (.func 29) #[] #[]] 46))) := ((Below.refl _ _).alloc (Nat.le_refl _) _).alloc (by simp) _
  have hz0 : w.heap.size ≤ ((w.alloc (.cells #[.int .i64 b, .bool wide] 50)).alloc (.cells #[.func (.func 29) #[] #[]] 46)).heap.size := by simp; omega
  unfold LzFine at hno
  generalize hk : Lz.ok b wide = k at *
  clear hk
  cases k with
  | false =>
    clear hno
    go_enter Try.func30, Try.ntmps30
    go_wp2_with fail
    refine (HOK.out _).mono ?_
    rintro e w1 ⟨rfl, b1⟩
    have HB1 : Hid (Below w.heap.size w w1) := HB0.out.trans (b1.mono hz0)
    clear b1 HB0 hz0 HOK
    go_wp2_with fail
    exact bodyPost_ret (v := .tuple #[.slice none 0 0, .int .i64 1]) (by simp [results, Try.results30, go_sem]) rfl ⟨rfl, HB1.out⟩
  | true =>
    by_cases h1 : 9000 < s.size
    · have d1 : decide ((s.size : Int) > 9000) = true := decide_eq_true (by omega)
      clear hno
      go_enter Try.func30, Try.ntmps30
      go_wp2_with fail
      refine (HOK.out _).mono ?_
      rintro e w1 ⟨rfl, b1⟩
      have HB1 : Hid (Below w.heap.size w w1) := HB0.out.trans (b1.mono hz0)
      clear b1 HB0 hz0 HOK
      go_wp2_with fail
      exact bodyPost_ret (v := .tuple #[.slice none 0 0, .int .i64 1]) (by simp [results, Try.results30, go_sem]) rfl ⟨rfl, HB1.out⟩
    · have d1 : decide ((s.size : Int) > 9000) = false := decide_eq_false (by omega)
      by_cases h2 : limit < 0
      · have d2 : decide (limit < 0) = true := decide_eq_true h2
        clear hno
        go_enter Try.func30, Try.ntmps30
        go_wp2_with fail
        refine (HOK.out _).mono ?_
        rintro e w1 ⟨rfl, b1⟩
        have HB1 : Hid (Below w.heap.size w w1) := HB0.out.trans (b1.mono hz0)
        clear b1 HB0 hz0 HOK
        go_wp2_with fail
        exact bodyPost_ret (v := .tuple #[.slice none 0 0, .int .i64 1]) (by simp [results, Try.results30, go_sem]) rfl ⟨rfl, HB1.out⟩
      · have d2 : decide (limit < 0) = false := decide_eq_false h2
        have h3 : limit > 5000 := by
          have : ¬ (0 ≤ limit ∧ limit ≤ 5000) := fun h => hno ⟨rfl, by omega, h.1, h.2⟩
          omega
        have d3 : decide (limit > 5000) = true := decide_eq_true h3
        clear hno
        go_enter Try.func30, Try.ntmps30
        go_wp2_with fail
        refine (HOK.out _).mono ?_
        rintro e w1 ⟨rfl, b1⟩
        have HB1 : Hid (Below w.heap.size w w1) := HB0.out.trans (b1.mono hz0)
        clear b1 HB0 hz0 HOK
        go_wp2_with fail
        exact bodyPost_ret (v := .tuple #[.slice none 0 0, .int .i64 1]) (by simp [results, Try.results30, go_sem]) rfl ⟨rfl, HB1.out⟩

set_option maxHeartbeats 2000000 in
set_option maxRecDepth 20000 in
theorem lzReadB_yes (s : ByteArray) (b limit : Nat) (wide : Bool) (Rs : Except Int (List (Nat × ByteArray))) (w : World) (hf : LzFine s b wide limit) (hRs : Rs = Lz.go s b wide (8 * s.size + 1) 0 (Lz.start b) ⟨#[]⟩ limit) :
    Calls Try.prog 30 #[.string s, .agg #[.int .i64 (b : Int), .bool wide], .int .i64 (limit : Int), .func (.func 29) #[] #[]] w (LzRdB w Rs) := by
  obtain ⟨hok, hsz, -, hlim⟩ := hf
  have hb : b ≤ 8 := by
    unfold Lz.ok at hok
    split at hok
    · have := eq_of_beq hok; omega
    · simp at hok; omega
  have HOK : Hid (∀ w', Calls Try.prog 36 #[.agg #[.int .i64 (b : Int), .bool wide]] w' fun e w'' => e = .returned (.bool true) ∧ Below w'.heap.size w' w'') := fun w' => by rw [← hok]; exact lzOk_any b wide w'
  have HNW : Hid (∀ w', Calls Try.prog 50 #[.string s, .agg #[.int .i64 (b : Int), .bool wide], .int .i64 (limit : Int)] w' (LzNew w' b wide s limit)) := fun w' => lzNew_any b limit wide s hb w'
  obtain ⟨W0, hW0⟩ : ∃ W0, W0 = (w.alloc (.cells #[.int .i64 (b : Int), .bool wide] 50)).alloc (.cells #[.func (.func 29) #[] #[]] 46) := ⟨_, rfl⟩
  have HB0 : Hid (Below w.heap.size w W0) := by show Below _ _ _; rw [hW0]; exact ((Below.refl _ _).alloc (Nat.le_refl _) _).alloc (by simp) _
  have hz0 : W0.heap.size = w.heap.size + 2 := by rw [hW0]; simp
  have HFB : Hid (Boxed W0 (w.heap.size + 1) 46 (.func (.func 29) #[] #[])) := by
    show Boxed _ _ _ _
    rw [hW0]
    exact duo1 ..
  have HCW : Hid (W0.cell? ⟨w.heap.size, 0, none⟩ = some (.int .i64 (b : Int)) ∧ W0.cell? ⟨w.heap.size, 1, none⟩ = some (.bool wide)) := by
    show _ ∧ _
    rw [hW0]
    exact ⟨(alloc_cell _ _ ⟨w.heap.size, 0, none⟩ (by simp)).trans (by simp), (alloc_cell _ _ ⟨w.heap.size, 1, none⟩ (by simp)).trans (by simp)⟩
  have HW0 : Hid (W0 = (w.alloc (.cells #[.int .i64 (b : Int), .bool wide] 50)).alloc (.cells #[.func (.func 29) #[] #[]] 46)) := hW0
  clear hW0
  have d1 : decide ((s.size : Int) > 9000) = false := decide_eq_false (by omega)
  have d2 : decide ((limit : Int) < 0) = false := decide_eq_false (by omega)
  have d3 : decide ((limit : Int) > 5000) = false := decide_eq_false (by omega)
  have hmf : ∀ (fn : Fn) (first cap : Array Value) (w : World), (Instr.makeFunc fn first cap).run Try.prog w = .ok (.func fn first cap) w := fun _ _ _ _ => rfl
  have HRS : Hid (Rs = Lz.go s b wide (8 * s.size + 1) 0 (Lz.start b) ⟨#[]⟩ limit) := hRs
  clear hRs hok
  go_enter Try.func30, Try.ntmps30
  go_wp2_with fail
  refine (HOK.out _).mono ?_
  rintro e w1 ⟨rfl, b1⟩
  rw [← HW0.out] at b1
  have HB1 : Hid (Below w.heap.size w w1) := HB0.out.trans (b1.mono (by omega))
  have hz1 : w.heap.size + 2 ≤ w1.heap.size := by have := b1.size; omega
  have HFB1 : Hid (Boxed w1 (w.heap.size + 1) 46 (.func (.func 29) #[] #[])) := (b1.block _ (by omega)).trans HFB.out
  have c10 : w1.cell? ⟨w.heap.size, 0, none⟩ = some (.int .i64 (b : Int)) := (b1.cell (p := ⟨w.heap.size, 0, none⟩) (by show w.heap.size < _; omega)).trans HCW.out.1
  have c11 : w1.cell? ⟨w.heap.size, 1, none⟩ = some (.bool wide) := (b1.cell (p := ⟨w.heap.size, 1, none⟩) (by show w.heap.size < _; omega)).trans HCW.out.2
  clear b1 HB0 HFB HCW HOK HW0 hz0
  go_wp2_with fail
  refine (HNW.out _).mono ?_
  rintro e w2 ⟨B, g, rfl, hl2, ho2, b2, hB2, hg2, hgB⟩
  have HB2 : Hid (Below w.heap.size w w2) := HB1.out.trans (b2.mono (by omega))
  have HFB2 : Hid (Boxed w2 (w.heap.size + 1) 46 (.func (.func 29) #[] #[])) := (b2.block _ (by omega)).trans HFB1.out
  have HL2 : Hid (LzR w2 B b wide s 0 (.slice (some ⟨g, 0, none⟩) (2 ^ b + 2) (2 ^ b + 2)) ⟨#[]⟩ limit ∧ OwnL w2 w1.heap.size (.slice (some ⟨g, 0, none⟩) (2 ^ b + 2) (2 ^ b + 2)) (2 ^ b + 2) (Lz.start b)) := ⟨hl2, ho2⟩
  have hBw := hl2.lt
  have hgw := (ho2.lt g rfl).2
  have hz2 := b2.size
  clear hl2 ho2 b2 HB1 HFB1 c10 c11 HNW
  obtain ⟨W4, hW4⟩ : ∃ W4, W4 = (w2.alloc (.cells #[.pointer (some ⟨B, 0, none⟩)] 79)).alloc (.cells #[.slice none 0 0] 22) := ⟨_, rfl⟩
  have hs4 : W4.heap.size = w2.heap.size + 2 := by rw [hW4]; simp
  have HB24 : Hid (Below w2.heap.size w2 W4) := by show Below _ _ _; rw [hW4]; exact ((Below.refl _ _).alloc (Nat.le_refl _) _).alloc (by simp) _
  have HX : Hid (Boxed W4 w2.heap.size 79 (.pointer (some ⟨B, 0, none⟩)) ∧ Boxed W4 (w2.heap.size + 1) 22 (.slice none 0 0)) := by
    show Boxed _ _ _ _ ∧ Boxed _ _ _ _
    rw [hW4]
    exact ⟨duo0 .., duo1 ..⟩
  have HWK : Hid (Calls Try.prog 52 #[.pointer (some ⟨w2.heap.size, 0, none⟩), .pointer (some ⟨w.heap.size + 1, 0, none⟩), .pointer (some ⟨w2.heap.size + 1, 0, none⟩)] (W4.alloc (.cells #[.int .i64 0] 3)) fun e w' => Boxed w' W4.heap.size 3 (.int .i64 0) ∧ ((∃ v, e = .returned v) ∧ LzYesB w Rs (w2.heap.size + 1) w' ∨ ∃ c, e = fault c ∧ LzNoB w Rs c w')) := by
    obtain ⟨x1, x2⟩ := HX.out
    have ba : Below W4.heap.size W4 (W4.alloc (.cells #[.int .i64 0] 3)) := (Below.refl _ _).alloc (Nat.le_refl _) _
    have b24 : Below w2.heap.size w2 (W4.alloc (.cells #[.int .i64 0] 3)) := HB24.out.trans (ba.mono (by omega))
    have hsa : (W4.alloc (.cells #[.int .i64 0] 3)).heap.size = w2.heap.size + 3 := by rw [World.size_alloc, hs4]
    refine (lzWorkB w2.heap.size (w.heap.size + 1) (w2.heap.size + 1) B b w1.heap.size g (2 ^ b + 2) (2 ^ b + 2) limit wide s Rs _ ((ba.block _ (by omega)).trans x1) ((b24.block _ (by omega)).trans HFB2.out) ((ba.block _ (by omega)).trans x2) (HL2.out.1.kept b24) (HL2.out.2.up b24) hb hsz (by omega) HRS.out (by omega) (by omega) (by omega) (by omega) (by omega) (by omega) hgB (by omega) (by omega) (by omega)).mono ?_
    intro e w' hwk
    have hfr : LzF B (w2.heap.size + 1) g (W4.alloc (.cells #[.int .i64 0] 3)) w' := by
      rcases hwk with ⟨-, dn, -, kv, -, -, h⟩ | ⟨c, -, -, -, h⟩ <;> exact h
    have hbel : Below w.heap.size w w' := by
      have h1 : Below w.heap.size w (W4.alloc (.cells #[.int .i64 0] 3)) := HB2.out.trans (b24.mono (by omega))
      exact ⟨hfr.os.trans h1.os, hfr.tape.trans h1.tape, hfr.output.trans h1.output, Nat.le_trans h1.size hfr.size, fun k hk => (hfr.block k (by omega) (by omega) (by omega) (by omega)).trans (h1.block k hk)⟩
    refine ⟨hfr.box (Boxed.new W4 3 (.int .i64 0)) (by omega) (by omega) (by omega), ?_⟩
    rcases hwk with ⟨hv, dn, hR, kv, hbx, hkp, -⟩ | ⟨c, he, hc, hR, -⟩
    · exact .inl ⟨hv, dn, kv, hR, hbx, hkp.down (by omega), hbel⟩
    · exact .inr ⟨c, he, hc, hR, hbel⟩
  have HFI : Hid (Calls Try.prog 51 #[.func (.func 52) #[] #[.pointer (some ⟨w2.heap.size, 0, none⟩), .pointer (some ⟨w.heap.size + 1, 0, none⟩), .pointer (some ⟨w2.heap.size + 1, 0, none⟩)]] W4 (FaultOut W4 (LzYesB w Rs (w2.heap.size + 1)) (LzNoB w Rs))) :=
    faultIn_any 52 _ (enters_of Try.func52 (by kernel_rfl) rfl) _ _ W4 HWK.out
  clear HWK HX HL2 HFB2 HB24 HRS
  have hW4' : (w2.alloc (.cells #[.pointer (some ⟨B, 0, none⟩)] 79)).alloc (.cells #[.slice none 0 0] 22) = W4 := hW4.symm
  clear hW4
  go_wp2_with fail
  refine HFI.out.mono ?_
  rintro e w7 ⟨w6, hb6, (⟨rfl, ⟨dn, kv, hR, hbx, hkp, g5⟩, ht⟩ | ⟨c, rfl, ⟨hc0, hR, g5⟩, ht⟩)⟩
  · have hb7 : Boxed w7 (w2.heap.size + 1) 22 kv := by rw [ht]; exact (Below.heap_setCell w6 ⟨W4.heap.size, 0, none⟩ _ _ (fun e => by have e2 : w2.heap.size + 1 = W4.heap.size := e; omega)).trans hbx
    have hk7 : KpB w7 w.heap.size kv dn := by
      rw [ht]
      exact (hkp.besides (fun k hk => Below.heap_setCell w6 ⟨W4.heap.size, 0, none⟩ _ k (fun e => by have e2 : k = W4.heap.size := e; have := (hkp.lt k hk).1; omega))).down (by omega)
    obtain ⟨ao, n, cap, rfl⟩ : ∃ ao n cap, kv = .slice ao n cap := by
      rcases hk7.2 with ⟨rfl, _⟩ | ⟨g, cap, cur, rfl, _⟩
      · exact ⟨_, _, _, rfl⟩
      · exact ⟨_, _, _, rfl⟩
    have HF : Hid (LzRdB w Rs (.returned (.tuple #[.slice ao n cap, .int .i64 0])) w7) := .inl ⟨dn, ao, n, cap, hR, rfl, hk7, by rw [ht]; exact g5.setCell (by show w.heap.size ≤ W4.heap.size; omega) _⟩
    have k1 := hb7.cell
    clear hb7 hk7 hR hbx hkp g5 ht hb6 HFI
    go_wp2_with fail
    exact bodyPost_ret (v := .tuple #[.slice ao n cap, .int .i64 0]) (by simp [results, Try.results30, go_sem]) rfl HF.out
  · have HF : Hid (LzRdB w Rs (.returned (.tuple #[.slice none 0 0, .int .i64 c])) w7) := .inr ⟨c, hc0, hR, rfl, by rw [ht]; exact g5.setCell (by show w.heap.size ≤ W4.heap.size; omega) _⟩
    have hcb : (c != 0) = true := by rw [bne_iff_ne]; exact hc0
    clear hR g5 ht hb6 HFI hc0
    go_wp2_with fail
    exact bodyPost_ret (v := .tuple #[.slice none 0 0, .int .i64 c]) (by simp [results, Try.results30, go_sem]) rfl HF.out
end Go.Proofs.Ytjfihmpnbblomaa

/- What is read by LZW: the answers. -/
namespace Go.Proofs.Ytjfihmpnbblomaa
open Go.RowKit

instance (s : ByteArray) (b : Int) (wide : Bool) (limit : Int) : Decidable (LzFine s b wide limit) := by unfold LzFine; infer_instance
/-- all numbers with what they put out, or a code -/
def Lz.res (s : ByteArray) (b : Int) (wide : Bool) (limit : Int) : Except Int (List (Nat × ByteArray)) :=
  if LzFine s b wide limit then Lz.go s b.toNat wide (8 * s.size + 1) 0 (Lz.start b.toNat) ⟨#[]⟩ limit.toNat else .error 1
def Lz.codes (R : Except Int (List (Nat × ByteArray))) : List Int := match R with | .ok dn => codesOf dn | .error _ => []
def Lz.out (R : Except Int (List (Nat × ByteArray))) : List UInt8 := match R with | .ok dn => textsOf dn | .error _ => []
def Lz.code (R : Except Int (List (Nat × ByteArray))) : Int := match R with | .ok _ => 0 | .error c => c

theorem Lz.ok_bd {b : Int} {wide : Bool} (h : Lz.ok b wide = true) : 2 ≤ b ∧ b ≤ 8 := by
  unfold Lz.ok at h
  split at h
  · have := eq_of_beq h; omega
  · simp at h; omega
theorem Lz.res_no {s : ByteArray} {b limit : Int} {wide : Bool} (h : ¬ LzFine s b wide limit) : Lz.res s b wide limit = .error 1 := by unfold Lz.res; rw [if_neg h]
theorem Lz.res_yes {s : ByteArray} {b limit : Nat} {wide : Bool} (h : LzFine s b wide limit) : Lz.res s b wide limit = Lz.go s b wide (8 * s.size + 1) 0 (Lz.start b) ⟨#[]⟩ limit := by unfold Lz.res; rw [if_pos h, Int.toNat_natCast, Int.toNat_natCast]

/-- all that is told of what comes of it -/
theorem Lz.go_len {s : ByteArray} {b : Nat} {wide : Bool} : ∀ {f p : Nat} {l : List ByteArray} {last : ByteArray} {left : Nat} {dn : List (Nat × ByteArray)}, Lz.go s b wide f p l last left = .ok dn → dn.length ≤ f ∧ (textsOf dn).length ≤ left
  | 0, p, l, last, left, dn, h => by unfold Lz.go at h; cases h
  | f + 1, p, l, last, left, dn, h => by
    cases hs : Lz.step s b wide p l last left with
    | error c => rw [Lz.go_err hs] at h; cases h
    | ok r =>
      obtain ⟨v, t, l2, last2, left2⟩ := r
      have hl := Lz.step_left hs
      by_cases hv : v = 2 ^ b + 1
      · rw [Lz.go_end hs hv] at h
        cases h
        have : textsOf [(v, t)] = t.data.toList := by simp [textsOf]
        rw [this]
        exact ⟨by simp, by show t.size ≤ _; omega⟩
      · rw [Lz.go_on hs hv] at h
        cases hg : Lz.go s b wide f (p + Lz.width b wide l.length) l2 last2 left2 with
        | error c => rw [hg] at h; cases h
        | ok dn' =>
          rw [hg] at h
          have ih := Lz.go_len hg
          have e : dn = (v, t) :: dn' := by cases h; rfl
          subst e
          have e2 : textsOf ((v, t) :: dn') = t.data.toList ++ textsOf dn' := by simp [textsOf]
          have e3 : t.data.toList.length = t.size := rfl
          rw [e2, List.length_append, e3, List.length_cons]
          omega
theorem Lz.res_len {s : ByteArray} {b limit : Int} {wide : Bool} {dn : List (Nat × ByteArray)} (h : Lz.res s b wide limit = .ok dn) : dn.length ≤ 72001 ∧ (textsOf dn).length ≤ 5000 ∧ ((textsOf dn).length : Int) ≤ limit := by
  unfold Lz.res at h
  split at h
  · rename_i hf
    obtain ⟨h1, h2, h3, h4⟩ := hf
    have := Lz.go_len h
    omega
  · cases h
theorem Lz.codes_len (s : ByteArray) (b limit : Int) (wide : Bool) : (Lz.codes (Lz.res s b wide limit)).length ≤ 72001 := by
  cases h : Lz.res s b wide limit with
  | error c => show 0 ≤ _; omega
  | ok dn => show (codesOf dn).length ≤ _; rw [codesOf_len]; exact (Lz.res_len h).1
theorem Lz.out_len (s : ByteArray) (b limit : Int) (wide : Bool) : (Lz.out (Lz.res s b wide limit)).length ≤ 5000 := by
  cases h : Lz.res s b wide limit with
  | error c => show 0 ≤ _; omega
  | ok dn => exact (Lz.res_len h).2.1
end Go.Proofs.Ytjfihmpnbblomaa

/- LzwGet of the program. -/
namespace Go.Proofs.Ytjfihmpnbblomaa
open Go.RowKit

set_option maxHeartbeats 1000000 in
theorem impl_lzwGet (s : ByteArray) (b : Int) (wide : Bool) (limit : Int) (w : World) (hs : s.size ≤ 3000000) :
    Calls Try.prog 9 #[.string s, .int .i64 b, .bool wide, .int .i64 limit] w fun e w' => e = .returned (.tuple #[.string ⟨(Lz.out (Lz.res s b wide limit)).toArray⟩, .int .i64 (Lz.code (Lz.res s b wide limit))]) ∧ Below w.heap.size w w' := by
  by_cases hf : LzFine s b wide limit
  · obtain ⟨B, rfl⟩ := Int.eq_ofNat_of_zero_le (show 0 ≤ b by have := Lz.ok_bd hf.1; omega)
    obtain ⟨M, rfl⟩ := Int.eq_ofNat_of_zero_le (show 0 ≤ limit from hf.2.2.1)
    have HR := fun w => lzReadB_yes s B M wide (Lz.res s B wide M) w hf (Lz.res_yes hf)
    generalize hRs : Lz.res s B wide M = R at *
    clear hRs
    have HRD : Hid (∀ w, Calls Try.prog 30 #[.string s, .agg #[.int .i64 (B : Int), .bool wide], .int .i64 (M : Int), .func (.func 29) #[] #[]] w (LzRdB w R)) := HR
    clear HR hf
    go_enter Try.func9, Try.ntmps9
    go_wp2_with fail
    refine (HRD.out _).mono ?_
    rintro e w1 (⟨dn, ao, n, cap, rfl, rfl, hk, bel⟩ | ⟨c, -, rfl, rfl, bel⟩)
    · have htx := OwnT.text hk
      clear HRD hk
      go_wp2_with fail
      go_ret2
      exact ⟨rfl, bel⟩
    · have htx := text_nilT w1
      go_wp2_with fail
      go_ret2
      exact ⟨rfl, bel⟩
  · have HRD : Hid (∀ w, Calls Try.prog 30 #[.string s, .agg #[.int .i64 b, .bool wide], .int .i64 limit, .func (.func 29) #[] #[]] w fun e w' => e = .returned (.tuple #[.slice none 0 0, .int .i64 1]) ∧ Below w.heap.size w w') := fun w => lzReadB_no s b limit wide w hs hf
    rw [Lz.res_no hf]
    clear hf
    go_enter Try.func9, Try.ntmps9
    go_wp2_with fail
    refine (HRD.out _).mono ?_
    rintro e w1 ⟨rfl, bel⟩
    have htx := text_nilT w1
    go_wp2_with fail
    go_ret2
    exact ⟨rfl, bel⟩
end Go.Proofs.Ytjfihmpnbblomaa

/- What is read by LZW: less room, and how great a byte may be. -/
namespace Go.Proofs.Ytjfihmpnbblomaa

/-- one number with less room -/
theorem Lz.step_less {s : ByteArray} {b : Nat} {wide : Bool} {p : Nat} {l : List ByteArray} {last : ByteArray} {left left' v : Nat} {t : ByteArray} {l2 : List ByteArray} {last2 : ByteArray} {left2 : Nat}
    (h : Lz.step s b wide p l last left = .ok (v, t, l2, last2, left2)) (_hl : left' ≤ left) : Lz.step s b wide p l last left' = if left' < t.size then .error 3 else .ok (v, t, l2, last2, left' - t.size) := by
  unfold Lz.step at h ⊢
  simp only at h ⊢
  have e0 : (ByteArray.mk #[]).size = 0 := rfl
  split at h
  · cases h
  · rename_i h1
    rw [if_neg h1]
    split at h
    · rename_i h2
      rw [if_pos h2]
      cases h
      rw [e0, if_neg (by omega)]
      rfl
    · rename_i h2
      rw [if_neg h2]
      split at h
      · rename_i h3
        rw [if_pos h3]
        cases h
        rw [e0, if_neg (by omega)]
        rfl
      · rename_i h3
        rw [if_neg h3]
        split at h
        · cases h
        · rename_i h4
          rw [if_neg h4]
          split at h
          · cases h
          · cases h
            rfl

theorem Lz.go_less {s : ByteArray} {b : Nat} {wide : Bool} : ∀ {f p : Nat} {l : List ByteArray} {last : ByteArray} {left left' : Nat} {dn : List (Nat × ByteArray)}, Lz.go s b wide f p l last left = .ok dn → left' < (textsOf dn).length → Lz.go s b wide f p l last left' = .error 3
  | 0, p, l, last, left, left', dn, h, _ => by unfold Lz.go at h; cases h
  | f + 1, p, l, last, left, left', dn, h, hl => by
    have hlen := (Lz.go_len h).2
    cases hs : Lz.step s b wide p l last left with
    | error c => rw [Lz.go_err hs] at h; cases h
    | ok r =>
      obtain ⟨v, t, l2, last2, left2⟩ := r
      have hst := Lz.step_left hs
      have hless := Lz.step_less hs (left' := left') (by omega)
      have e3 : t.data.toList.length = t.size := rfl
      by_cases hv : v = 2 ^ b + 1
      · rw [Lz.go_end hs hv] at h
        cases h
        have e : textsOf [(v, t)] = t.data.toList := by simp [textsOf]
        rw [e, e3] at hl
        rw [if_pos hl] at hless
        exact Lz.go_err hless
      · rw [Lz.go_on hs hv] at h
        cases hg : Lz.go s b wide f (p + Lz.width b wide l.length) l2 last2 left2 with
        | error c => rw [hg] at h; cases h
        | ok dn' =>
          rw [hg] at h
          have e : dn = (v, t) :: dn' := by cases h; rfl
          subst e
          have e2 : textsOf ((v, t) :: dn') = t.data.toList ++ textsOf dn' := by simp [textsOf]
          rw [e2, List.length_append, e3] at hl
          by_cases ht : left' < t.size
          · rw [if_pos ht] at hless
            exact Lz.go_err hless
          · rw [if_neg ht] at hless
            rw [Lz.go_on hless hv, Lz.go_less hg (by omega)]
            rfl

def Lz.low (b : Nat) (x : ByteArray) : Prop := ∀ c ∈ x.data.toList, c.toNat < 2 ^ b
theorem Lz.low_nil (b : Nat) : Lz.low b ⟨#[]⟩ := fun c h => by cases h
theorem Lz.low_app {b : Nat} {x y : ByteArray} (hx : Lz.low b x) (hy : Lz.low b y) : Lz.low b (x ++ y) := fun c h => by
  rw [ByteArray.data_append, Array.toList_append, List.mem_append] at h
  exact h.elim (hx c) (hy c)
theorem Lz.low_cut {b : Nat} {x : ByteArray} (hx : Lz.low b x) (i j : Nat) : Lz.low b (x.extract i j) := fun c h => by
  rw [ByteArray.data_extract, Array.toList_extract] at h
  exact hx c (List.mem_of_mem_drop (List.mem_of_mem_take h))
theorem Lz.low_start {b : Nat} (hb : b ≤ 8) : ∀ x ∈ Lz.start b, Lz.low b x := by
  intro x hx
  unfold Lz.start at hx
  rw [List.mem_append, List.mem_map] at hx
  rcases hx with ⟨i, hi, rfl⟩ | hx
  · intro c hc
    have h1 := List.mem_range.1 hi
    have h2 := Lz.pow_le hb
    have e : c = UInt8.ofNat i := by simpa [Lz.one] using hc
    rw [e, UInt8.toNat_ofNat']
    omega
  · have e : x = ⟨#[]⟩ := by simpa using hx
    rw [e]; exact Lz.low_nil b
theorem Lz.step_low {s : ByteArray} {b : Nat} {wide : Bool} {p : Nat} {l : List ByteArray} {last : ByteArray} {left v : Nat} {t : ByteArray} {l2 : List ByteArray} {last2 : ByteArray} {left2 : Nat} (hb : b ≤ 8)
    (h : Lz.step s b wide p l last left = .ok (v, t, l2, last2, left2)) (hl : ∀ x ∈ l, Lz.low b x) (hla : Lz.low b last) : Lz.low b t ∧ (∀ x ∈ l2, Lz.low b x) ∧ Lz.low b last2 := by
  have htx : ∀ v, Lz.low b (Lz.text l last v) := fun v => by
    unfold Lz.text
    split
    · exact hl _ (List.getElem_mem _)
    · exact Lz.low_app hla (Lz.low_cut hla 0 1)
  unfold Lz.step at h
  simp only at h
  split at h
  · cases h
  · split at h
    · cases h; exact ⟨Lz.low_nil b, Lz.low_start hb, Lz.low_nil b⟩
    · split at h
      · cases h; exact ⟨Lz.low_nil b, hl, hla⟩
      · split at h
        · cases h
        · split at h
          · cases h
          · cases h
            refine ⟨htx _, ?_, htx _⟩
            intro x hx
            unfold Lz.learn at hx
            split at hx
            · rw [List.mem_append, List.mem_singleton] at hx
              rcases hx with hx | rfl
              · exact hl x hx
              · exact Lz.low_app hla (Lz.low_cut (htx _) 0 1)
            · exact hl x hx
theorem Lz.go_low {s : ByteArray} {b : Nat} {wide : Bool} (hb : b ≤ 8) : ∀ {f p : Nat} {l : List ByteArray} {last : ByteArray} {left : Nat} {dn : List (Nat × ByteArray)}, Lz.go s b wide f p l last left = .ok dn → (∀ x ∈ l, Lz.low b x) → Lz.low b last → ∀ c ∈ textsOf dn, c.toNat < 2 ^ b
  | 0, p, l, last, left, dn, h, _, _ => by unfold Lz.go at h; cases h
  | f + 1, p, l, last, left, dn, h, hl, hla => by
    cases hs : Lz.step s b wide p l last left with
    | error c => rw [Lz.go_err hs] at h; cases h
    | ok r =>
      obtain ⟨v, t, l2, last2, left2⟩ := r
      obtain ⟨h1, h2, h3⟩ := Lz.step_low hb hs hl hla
      by_cases hv : v = 2 ^ b + 1
      · rw [Lz.go_end hs hv] at h
        cases h
        intro c hc
        exact h1 c (by simpa [textsOf] using hc)
      · rw [Lz.go_on hs hv] at h
        cases hg : Lz.go s b wide f (p + Lz.width b wide l.length) l2 last2 left2 with
        | error c => rw [hg] at h; cases h
        | ok dn' =>
          rw [hg] at h
          have e : dn = (v, t) :: dn' := by cases h; rfl
          subst e
          intro c hc
          have e2 : textsOf ((v, t) :: dn') = t.data.toList ++ textsOf dn' := by simp [textsOf]
          rw [e2, List.mem_append] at hc
          exact hc.elim (h1 c) (Lz.go_low hb hg h2 h3 c)

theorem Lz.step_cn {s : ByteArray} {b : Nat} {wide : Bool} {p : Nat} {l : List ByteArray} {last : ByteArray} {left : Nat} {c : Int} (h : Lz.step s b wide p l last left = .error c) : c ≠ 0 := by
  unfold Lz.step at h
  simp only at h
  split at h
  · cases h; decide
  · split at h
    · cases h
    · split at h
      · cases h
      · split at h
        · cases h; decide
        · split at h
          · cases h; decide
          · cases h
theorem Lz.go_cn {s : ByteArray} {b : Nat} {wide : Bool} : ∀ {f p : Nat} {l : List ByteArray} {last : ByteArray} {left : Nat} {c : Int}, Lz.go s b wide f p l last left = .error c → c ≠ 0
  | 0, p, l, last, left, c, h => by unfold Lz.go at h; cases h; decide
  | f + 1, p, l, last, left, c, h => by
    cases hs : Lz.step s b wide p l last left with
    | error c' => rw [Lz.go_err hs] at h; cases h; exact Lz.step_cn hs
    | ok r =>
      obtain ⟨v, t, l2, last2, left2⟩ := r
      by_cases hv : v = 2 ^ b + 1
      · rw [Lz.go_end hs hv] at h; cases h
      · rw [Lz.go_on hs hv] at h
        cases hg : Lz.go s b wide f (p + Lz.width b wide l.length) l2 last2 left2 with
        | error c' => rw [hg] at h; cases h; exact Lz.go_cn hg
        | ok dn' => rw [hg] at h; cases h
theorem Lz.res_cn {s : ByteArray} {b limit : Int} {wide : Bool} {c : Int} (h : Lz.res s b wide limit = .error c) : c ≠ 0 := by
  unfold Lz.res at h
  split at h
  · exact Lz.go_cn h
  · cases h; decide

/-- all that the law asks of what is read -/
theorem Lz.res_facts {s : ByteArray} {b : Nat} {wide : Bool} {lm : Int} {dn : List (Nat × ByteArray)} (h : Lz.res s b wide lm = .ok dn) :
    ((textsOf dn).length : Int) ≤ lm ∧ (textsOf dn).length ≤ 5000 ∧ (∀ c ∈ textsOf dn, c.toNat < 2 ^ b) ∧ (textsOf dn ≠ [] → Lz.code (Lz.res s b wide (((textsOf dn).length : Int) - 1)) = 3) := by
  have hl := Lz.res_len h
  refine ⟨hl.2.2, hl.2.1, ?_, ?_⟩
  · unfold Lz.res at h
    split at h
    · rename_i hf
      have hb := Lz.ok_bd hf.1
      rw [Int.toNat_natCast] at h
      exact Lz.go_low (by omega) h (Lz.low_start (by omega)) (Lz.low_nil _)
    · cases h
  · intro hne
    have hpos : 0 < (textsOf dn).length := List.length_pos_iff.2 hne
    unfold Lz.res at h
    split at h
    · rename_i hf
      have hf2 : LzFine s b wide (((textsOf dn).length : Int) - 1) := ⟨hf.1, hf.2.1, by omega, by omega⟩
      unfold Lz.res
      rw [if_pos hf2, Lz.go_less h (by omega)]
      rfl
    · cases h
end Go.Proofs.Ytjfihmpnbblomaa

/- Small helpers of the laws: a power of two, a number between two. -/
namespace Go.Proofs.Ytjfihmpnbblomaa
open Go.RowKit

set_option maxHeartbeats 1000000 in
theorem wiPow_any (n : Nat) (w : World) (hn : n ≤ 20) :
    Calls Try.prog 11 #[.int .i64 (n : Int)] w fun e w' => e = .returned (.int .i64 ((2 ^ n : Nat) : Int)) ∧ w' = w := by
  go_enter Try.func11, Try.ntmps11
  go_wp2_with fail
  go_loop [3, 4] (fun x i => ∃ k y : Nat, k ≤ n ∧ i = .int .i64 (k : Int) ∧ Hid (y = 2 ^ k) ∧ y ≤ 1048576 ∧ x = .int .i64 (y : Int)) (fun _ i => n - (intOf i).toNat)
  case atStart => exact ⟨0, 1, Nat.zero_le _, rfl, rfl, by omega, rfl⟩
  case round =>
    obtain ⟨k, y, hk, rfl, HY, hy, rfl⟩ := hrel
    by_cases hlt : k < n
    · have hki : (k : Int) < (n : Int) := by omega
      have hk60 : (k : Int) < 60 := by omega
      have hk60d : decide ((k : Int) < 60) = true := by simp; omega
      have HY2 : Hid (y * 2 = 2 ^ (k + 1)) := by show _ = _; rw [Nat.pow_succ, HY.out]
      have hb : y * 2 ≤ 1048576 := by
        rw [HY2.out]
        exact Nat.le_trans (Nat.pow_le_pow_right (by omega) (show k + 1 ≤ 20 by omega)) (by decide)
      go_wp2_with fail
      go_round
      case rel => exact ⟨k + 1, y * 2, by omega, by go_num, HY2, hb, by go_num⟩
      case measure => simp [intOf]; omega
    · have hki : ¬ (k : Int) < (n : Int) := by omega
      obtain rfl : k = n := by omega
      have hkd : decide ((k : Int) < (k : Int)) = false := by simp
      go_wp2_with fail
      go_ret
      exact ⟨by rw [HY.out]; rfl, rfl⟩
set_option maxHeartbeats 400000 in
theorem wiIn_yes (n lo hi : Int) (w : World) (h1 : lo ≤ n) (h2 : n ≤ hi) :
    Calls Try.prog 19 #[.int .i64 n, .int .i64 lo, .int .i64 hi] w fun e w' => e = .returned (.bool true) ∧ w' = w := by
  have hd : decide (n ≤ hi) = true := by simp; omega
  have hd2 : decide (n ≥ lo) = true := by simp; omega
  go_enter Try.func19, Try.ntmps19
  go_wp2_with fail
  go_ret
  exact ⟨rfl, rfl⟩
end Go.Proofs.Ytjfihmpnbblomaa

/- A text, bits, and whether it is wide, drawn of a code. -/
namespace Go.Proofs.Ytjfihmpnbblomaa
open Go.RowKit

theorem Only.drewW {B : Nat} {w w' : World} (h : Only B w w') : Only B w w'.drew := ⟨⟨h.below.os, h.below.tape, h.below.output, h.below.size, h.below.block⟩, h.rest⟩

/-- one byte in a block of its own -/
def LayO (v : Value) (w : World) (x : Nat) : Prop := ∃ b : Nat, v = .slice (some ⟨b, 0, none⟩) 1 1 ∧ w.cell? ⟨b, 0, none⟩ = some (.int .u8 (x : Int))
theorem LayO.kept {v : Value} {w w' : World} {x : Nat} (h : LayO v w x) (hb : Below w.heap.size w w') : LayO v w' x := by
  obtain ⟨b, h1, h2⟩ := h
  exact ⟨b, h1, (hb.cell (p := ⟨b, 0, none⟩) (World.block_lt_of_cell? w _ h2)).trans h2⟩
theorem layO_new (w : World) (x : Nat) : LayO (.slice (some ⟨w.heap.size, 0, none⟩) 1 1) (w.alloc (.cells #[.int .u8 (x : Int)] 5)) x := ⟨w.heap.size, rfl, by simp⟩
theorem layO_text {w : World} {b d : Nat} (h : w.cell? ⟨b, 0, none⟩ = some (.int .u8 (d : Int))) : Sem.run Try.prog (convert 22 9 (.slice (some ⟨b, 0, none⟩) 1 1)) w = .ok (.string ⟨#[UInt8.ofNat d]⟩) w := by
  refine run_text w ⟨b, 0, none⟩ 1 [d] ?_
  intro j v hj
  match j, hj with
  | 0, hj => simp at hj; subst hj; simpa [Addr.add] using h

set_option linter.unusedSimpArgs false in
set_option maxHeartbeats 2000000 in
set_option maxRecDepth 20000 in
theorem l14Low_any (B p b : Nat) (w : World) (hr : RdAt w B p) (hp : p ≤ 10000) (hb : b ≤ 8) :
    Calls Try.prog 34 #[.pointer (some ⟨B, 0, none⟩), .int .i64 (b : Int)] w fun e w' => (∃ t : ByteArray, e = .returned (.string t) ∧ t.size ≤ 9001) ∧ (∃ q, q ≤ p + 100 ∧ RdAt w' B q) ∧ Only B w w' := by
  have HTX : Hid (Calls Try.prog 27 #[.pointer (some ⟨B, 0, none⟩)] w fun e w' => (∃ t : ByteArray, e = .returned (.string t) ∧ t.size ≤ 9001 ∧ (t.size ≤ 2400 ∨ 9000 ≤ t.size)) ∧ (∃ q, q ≤ p + 100 ∧ RdAt w' B q) ∧ Only B w w') := text_two B p w hr (by omega)
  have HPW : Hid (∀ w', Calls Try.prog 35 #[.int .i64 (b : Int)] w' fun e w'' => e = .returned (.int .i64 ((2 ^ b : Nat) : Int)) ∧ w'' = w') := fun w' => l1Pow_any b w' (by omega)
  have hpw := Lz.pow_le hb
  have hp1 : 1 ≤ 2 ^ b := Nat.one_le_two_pow
  generalize 2 ^ b = P at *
  clear hr
  go_enter Try.func34, Try.ntmps34
  go_wp2_with fail
  refine HTX.out.mono ?_
  rintro e w1 ⟨⟨s, rfl, hs, -⟩, ⟨q, hq, hR1⟩, hO1⟩
  have HX : Hid (RdAt w1 B q ∧ Only B w w1) := ⟨hR1, hO1⟩
  clear hR1 hO1 HTX
  go_wp2_with fail
  go_loopw [6, 7] (fun tv iv wr => ∃ (k : Nat) (t : ByteArray), k ≤ s.size ∧ iv = .int .i64 (k : Int) ∧ tv = .string t ∧ t.size = k ∧ Hid (RdAt wr B q ∧ Only B w wr)) (fun _ iv _ => s.size - (intOf iv).toNat)
  case atStart => exact ⟨0, ⟨#[]⟩, Nat.zero_le _, rfl, rfl, rfl, HX⟩
  case round =>
    obtain ⟨k, t, hk, rfl, rfl, htk, HR⟩ := hrel
    clear HX
    have HTK : Hid (t.size = k) := htk
    by_cases hlt : k < s.size
    · obtain ⟨y, hy⟩ : ∃ y, y = (s[k]).toNat := ⟨_, rfl⟩
      have hsy : (s[k]).toNat = y := hy.symm
      have hyb : y < 256 := by rw [hy]; exact UInt8.toNat_lt _
      obtain ⟨z, hz⟩ : ∃ z, z = y % P := ⟨_, rfl⟩
      have hzb : z < 256 := by rw [hz]; exact Nat.lt_of_le_of_lt (Nat.mod_le _ _) hyb
      have e1 : (y : Int) % (P : Int) = (z : Int) := by rw [hz]; simp
      have e2 : (y : Int).tmod (P : Int) = (z : Int) := by rw [Int.tmod_eq_emod_of_nonneg (by omega)]; exact e1
      have e4 : IntKind.i64.wrap (y : Int) = (y : Int) := wrap_i64_nat y (by omega)
      have e3 : IntKind.i64.wrap (z : Int) = (z : Int) := wrap_i64_nat z (by omega)
      have hu := wrap_u8_small z hzb
      have hP0 : ¬ P = 0 := by omega
      have hki : (k : Int) < (s.size : Int) := by omega
      have hlz : ¬ 9223372036854775807 < t.size + 1 := by omega
      obtain ⟨X, hX⟩ : ∃ X : ByteArray, X = ⟨#[UInt8.ofNat z]⟩ := ⟨_, rfl⟩
      have hXs : X.size = 1 := by rw [hX]; rfl
      have HXX : Hid (X = ⟨#[UInt8.ofNat z]⟩) := hX
      clear hy hz hX htk
      go_wp2_with fail
      refine wp_region_told (S := (fun wy => RdAt wy B q ∧ Only B w wy)) 12 29 [.is (.string t), .is (.string s), .is (.int .i64 (k : Int)), .is (.int .u8 (y : Int)), .is (.int .i64 (y : Int)), .is (.int .i64 (b : Int)), .is (.int .i64 (P : Int)), .is (.int .i64 (z : Int)), .is (.int .u8 (z : Int)), .own (fun v w => LayO v w z) (fun _ _ _ b h => h.kept b), .is (.string X), .is (.string (t ++ X))] (by kernel_rfl) (by kernel_rfl) (by rfl) (fun _ _ _ _ hd h => ⟨hd.trans h.1, h.2⟩) (fun vs => by simp only [puts, List.getElem?_toArray, List.getElem?_cons_succ, List.getElem?_cons_zero, Option.bind_some, Act.put, List.setIfInBounds_toArray, List.set_cons_zero, List.set_cons_succ]; exact rfl) ⟨HR.out.1.drew, HR.out.2.drewW⟩ ?_ ?_
      · refine TellsFrom.cons rfl (fun vs wz hS hd K hK => ?_) ?_
        · try dsimp only at hK ⊢
          try simp only [List.getElem_toArray, List.getElem_cons_succ, List.getElem_cons_zero, Act.put, List.setIfInBounds_toArray, List.set_cons_zero, List.set_cons_succ]
              go_simp
          exact hK.out _ _ hS (Below.refl _ _) rfl
        refine TellsFrom.cons rfl (fun vs wz hS hd K hK => ?_) ?_
        · try dsimp only at hK ⊢
          try simp only [List.getElem_toArray, List.getElem_cons_succ, List.getElem_cons_zero, Act.put, List.setIfInBounds_toArray, List.set_cons_zero, List.set_cons_succ]
              go_simp
          exact hK.out _ _ hS (Below.refl _ _) rfl
        refine TellsFrom.cons rfl (fun vs wz hS hd K hK => ?_) ?_
        · try dsimp only at hK ⊢
          try simp only [List.getElem_toArray, List.getElem_cons_succ, List.getElem_cons_zero, Act.put, List.setIfInBounds_toArray, List.set_cons_zero, List.set_cons_succ]
              go_simp
          exact hK.out _ _ hS (Below.refl _ _) rfl
        refine TellsFrom.cons rfl (fun vs wz hS hd K hK => ?_) ?_
        · try dsimp only at hK ⊢
          have h1 : vs 1 = (.string s) := hd 1 (by kernel_rfl)
          generalize vs 1 = x1 at *
          subst h1
          have h2 : vs 2 = (.int .i64 (k : Int)) := hd 2 (by kernel_rfl)
          generalize vs 2 = x2 at *
          subst h2
          try simp only [List.getElem_toArray, List.getElem_cons_succ, List.getElem_cons_zero, Act.put, List.setIfInBounds_toArray, List.set_cons_zero, List.set_cons_succ]
              go_simp
          exact hK.out _ _ hS (Below.refl _ _) rfl
        refine TellsFrom.cons rfl (fun vs wz hS hd K hK => ?_) ?_
        · try dsimp only at hK ⊢
          have h3 : vs 3 = (.int .u8 (y : Int)) := hd 3 (by kernel_rfl)
          generalize vs 3 = x3 at *
          subst h3
          try simp only [List.getElem_toArray, List.getElem_cons_succ, List.getElem_cons_zero, Act.put, List.setIfInBounds_toArray, List.set_cons_zero, List.set_cons_succ]
              go_simp
          exact hK.out _ _ hS (Below.refl _ _) rfl
        refine TellsFrom.cons rfl (fun vs wz hS hd K hK => ?_) ?_
        · try dsimp only at hK ⊢
          try simp only [List.getElem_toArray, List.getElem_cons_succ, List.getElem_cons_zero, Act.put, List.setIfInBounds_toArray, List.set_cons_zero, List.set_cons_succ]
              go_simp
          exact hK.out _ _ hS (Below.refl _ _) rfl
        refine TellsFrom.cons rfl (fun vs wz hS hd K hK => ?_) ?_
        · try dsimp only at hK ⊢
          have h5 : vs 5 = (.int .i64 (b : Int)) := hd 5 (by kernel_rfl)
          generalize vs 5 = x5 at *
          subst h5
          try simp only [List.getElem_toArray, List.getElem_cons_succ, List.getElem_cons_zero, Act.put, List.setIfInBounds_toArray, List.set_cons_zero, List.set_cons_succ]
          go_simp
          refine (HPW.out _).mono ?_
          rintro e v1 ⟨rfl, hv1⟩
          subst hv1
          exact hK.out _ _ hS (Below.refl _ _) rfl
        refine TellsFrom.cons rfl (fun vs wz hS hd K hK => ?_) ?_
        · try dsimp only at hK ⊢
          have h4 : vs 4 = (.int .i64 (y : Int)) := hd 4 (by kernel_rfl)
          generalize vs 4 = x4 at *
          subst h4
          have h6 : vs 6 = (.int .i64 (P : Int)) := hd 6 (by kernel_rfl)
          generalize vs 6 = x6 at *
          subst h6
          try simp only [List.getElem_toArray, List.getElem_cons_succ, List.getElem_cons_zero, Act.put, List.setIfInBounds_toArray, List.set_cons_zero, List.set_cons_succ]
              go_simp
          exact hK.out _ _ hS (Below.refl _ _) rfl
        refine TellsFrom.cons rfl (fun vs wz hS hd K hK => ?_) ?_
        · try dsimp only at hK ⊢
          have h7 : vs 7 = (.int .i64 (z : Int)) := hd 7 (by kernel_rfl)
          generalize vs 7 = x7 at *
          subst h7
          try simp only [List.getElem_toArray, List.getElem_cons_succ, List.getElem_cons_zero, Act.put, List.setIfInBounds_toArray, List.set_cons_zero, List.set_cons_succ]
              go_simp
          exact hK.out _ _ hS (Below.refl _ _) rfl
        refine TellsFrom.cons rfl (fun vs wz hS hd K hK => ?_) ?_
        · try dsimp only at hK ⊢
          have h8 : vs 8 = (.int .u8 (z : Int)) := hd 8 (by kernel_rfl)
          generalize vs 8 = x8 at *
          subst h8
          try simp only [List.getElem_toArray, List.getElem_cons_succ, List.getElem_cons_zero, Act.put, List.setIfInBounds_toArray, List.set_cons_zero, List.set_cons_succ]
          go_simp
          exact hK.out _ _ ⟨hS.1.alloc _, hS.2.alloc hS.1.lt _⟩ ((Below.refl _ _).alloc (Nat.le_refl _) _) (layO_new wz z)
        refine TellsFrom.cons rfl (fun vs wz hS hd K hK => ?_) ?_
        · try dsimp only at hK ⊢
          have h9 : LayO (vs 9) wz z := hd 9 (by kernel_rfl)
          generalize vs 9 = x9 at *
          obtain ⟨B9, rfl, hC9⟩ := h9
          try simp only [List.getElem_toArray, List.getElem_cons_succ, List.getElem_cons_zero, Act.put, List.setIfInBounds_toArray, List.set_cons_zero, List.set_cons_succ]
          have ht : Sem.run Try.prog (convert 22 9 (.slice (some ⟨B9, 0, none⟩) 1 1)) wz = .ok (.string X) wz := by rw [HXX.out]; exact layO_text hC9
          go_simp
          exact hK.out _ _ hS (Below.refl _ _) rfl
        refine TellsFrom.cons rfl (fun vs wz hS hd K hK => ?_) ?_
        · try dsimp only at hK ⊢
          have h0 : vs 0 = (.string t) := hd 0 (by kernel_rfl)
          generalize vs 0 = x0 at *
          subst h0
          have h10 : vs 10 = (.string X) := hd 10 (by kernel_rfl)
          generalize vs 10 = x10 at *
          subst h10
          try simp only [List.getElem_toArray, List.getElem_cons_succ, List.getElem_cons_zero, Act.put, List.setIfInBounds_toArray, List.set_cons_zero, List.set_cons_succ]
              go_simp
          exact hK.out _ _ hS (Below.refl _ _) rfl
        exact TellsFrom.nil
      · intro vs wz hS hd
        try dsimp only
        have h11 : vs 11 = .string (t ++ X) := hd 11 (by omega)
        clear hd
        generalize vs 0 = y0 at *
        generalize vs 1 = y1 at *
        generalize vs 2 = y2 at *
        generalize vs 3 = y3 at *
        generalize vs 4 = y4 at *
        generalize vs 5 = y5 at *
        generalize vs 6 = y6 at *
        generalize vs 7 = y7 at *
        generalize vs 8 = y8 at *
        generalize vs 9 = y9 at *
        generalize vs 10 = y10 at *
        generalize vs 11 = y11 at *
        subst h11
        have HF : Hid (RdAt wz B q ∧ Only B w wz) := hS
        clear hS
        refine wpAnyH_take (i := 12) (v := .string (t ++ X)) rfl (by kernel_rfl) (by kernel_rfl) (by kernel_rfl) (fun _ _ _ h => h) (Or.inl ⟨by rfl, ?_⟩) trivial ?_
        · intro wy _
          go_simp
        try simp only [List.getElem_toArray, List.getElem_cons_succ, List.getElem_cons_zero, Act.put, List.setIfInBounds_toArray, List.set_cons_zero, List.set_cons_succ]
        refine wpAnyH_done (by kernel_rfl) ?_ _
        try simp only [List.getElem_toArray, List.getElem_cons_succ, List.getElem_cons_zero, Act.put, List.setIfInBounds_toArray, List.set_cons_zero, List.set_cons_succ]
        go_wp2_with fail
        go_roundw
        case rel => exact ⟨k + 1, _, by omega, by go_num, rfl, by rw [ByteArray.size_append, hXs, HTK.out], HF⟩
        case measure => simp [intOf]; omega
    · have HF : Hid ((∃ q', q' ≤ p + 100 ∧ RdAt wr B q') ∧ Only B w wr) := ⟨⟨q, hq, HR.out.1⟩, HR.out.2⟩
      have hts : t.size ≤ 9001 := by omega
      clear htk
      go_wp2_with fail
      go_ret
      exact ⟨⟨t, rfl, hts⟩, HF.out⟩
end Go.Proofs.Ytjfihmpnbblomaa

/- A text, bits, and whether it is wide, drawn of a code: DrawLzwPut. -/
namespace Go.Proofs.Ytjfihmpnbblomaa
open Go.RowKit

/-- what is drawn -/
def LzwDrawn (w : World) (e : Ending) (w' : World) : Prop :=
  (∃ (t : ByteArray) (b : Nat) (wide : Bool), e = .returned (.tuple #[.string t, .int .i64 (b : Int), .bool wide]) ∧ t.size ≤ 9002 ∧ b ≤ 9) ∧ Below w.heap.size w w'
theorem lzwDrawn_mk {w w' : World} {e : Ending} (t : ByteArray) (b : Nat) (wide : Bool) (h1 : e = .returned (.tuple #[.string t, .int .i64 (b : Int), .bool wide])) (h2 : t.size ≤ 9002) (h3 : b ≤ 9) (h4 : Below w.heap.size w w') : LzwDrawn w e w' := ⟨⟨t, b, wide, h1, h2, h3⟩, h4⟩
/-- the reader, and what lies below it -/
def LzwAt (B : Nat) (w wr : World) (q : Nat) : Prop := RdAt wr B q ∧ Below B w wr
theorem LzwAt.only {B q q' : Nat} {w wr wx : World} (h : LzwAt B w wr q) (ho : Only B wr wx) (hr : RdAt wx B q') : LzwAt B w wx q' := ⟨hr, h.2.trans ho.below⟩
theorem LzwAt.alloc {B q : Nat} {w wr : World} (h : LzwAt B w wr q) (o : Obj) : LzwAt B w (wr.alloc o) q := ⟨h.1.alloc _, h.2.alloc (Nat.le_of_lt h.1.lt) _⟩
theorem OwnT.only {B base n : Nat} {w w' : World} {v : Value} {l : List UInt8} (h : OwnT w base v n l) (ho : Only B w w') (hb : B < base) : OwnT w' base v n l :=
  ownsRow_besides h (fun k hk => ho.rest k (World.ownsRow.lt h k hk).2 (fun e => by have := (World.ownsRow.lt h k hk).1; omega))
theorem ownT_none (w : World) : OwnT (w.alloc (.cells #[] 5)) w.heap.size (.slice (some ⟨w.heap.size, 0, none⟩) 0 0) 0 [] := World.ownsRow_lit w #[] 0 (Nat.le_refl _) (by decide) rfl
theorem two_cell (W : World) (j : Nat) (hj : j < 2) : (W.alloc (.cells #[.int .i64 1, .int .i64 9] 3)).cell? ⟨W.heap.size, j, none⟩ = some (.int .i64 ((1 + 8 * j : Nat) : Int)) := by
  rw [World.cell?_alloc_at _ _ _ _ rfl]
  have h : j = 0 ∨ j = 1 := by omega
  rcases h with rfl | rfl <;> rfl

set_option linter.unusedSimpArgs false in
set_option maxHeartbeats 4000000 in
set_option maxRecDepth 20000 in
theorem drawLzwPut_any (a : Option Addr) (len cap : Nat) (w : World) (h : Code8 w a len cap) :
    Calls Try.prog 12 #[.slice a len cap] w (LzwDrawn w) := by
  have HOP : Hid (Calls Try.prog 23 #[.slice a len cap] w fun e w' => e = .returned (.pointer (some ⟨w.heap.size, 0, none⟩)) ∧ RdAt w' w.heap.size 0 ∧ Below w.heap.size w w') := open_any a len cap w h
  clear h
  go_enter Try.func12, Try.ntmps12
  go_wp2_with fail
  refine HOP.out.mono ?_
  rintro e w1 ⟨rfl, hR1, b1⟩
  clear HOP
  obtain ⟨B, hB⟩ : ∃ B, B = w.heap.size := ⟨_, rfl⟩
  have H1 : Hid (LzwAt B w w1 0) := by show LzwAt _ _ _ _; rw [hB]; exact ⟨hR1, b1⟩
  rw [← hB]
  have HBB : Hid (B = w.heap.size) := hB
  clear hB hR1 b1
  go_wp2_with fail
  refine (pick_named B 0 _ _ H1.out.1 (by omega) (by omega) (by omega)).mono ?_
  rintro e w2 ⟨x0, rfl, hx0, hR, hO, -⟩
  have H2 : Hid (LzwAt B w w2 1) := H1.out.only hO hR
  clear hR hO H1
  go_wp2_with fail
  refine (pick_named B 1 _ _ H2.out.1 (by omega) (by omega) (by omega)).mono ?_
  rintro e w3 ⟨y, rfl, hy, hR, hO, -⟩
  have H3 : Hid (LzwAt B w w3 2) := H2.out.only hO hR
  clear hR hO H2
  obtain ⟨wide, hwd⟩ : ∃ wide : Bool, ((y : Int) == 0) = wide := ⟨_, rfl⟩
  go_upto_region 4 with fail
  go_cut [19, 20, 24] from 21 to 24 (fun _ _ c wc => ∃ (cb : Bool) (q : Nat), c = .bool cb ∧ q ≤ 3 ∧ Hid (LzwAt B w wc q))
  case first =>
    cases wide with
    | false =>
      go_wp2_with fail
      go_meet
      case rel => exact ⟨_, 2, rfl, by omega, H3⟩
    | true =>
      go_wp2_with fail
      refine (pick_named B 2 _ _ H3.out.1 (by omega) (by omega) (by omega)).mono ?_
      rintro e w4 ⟨z, rfl, hz, hR, hO, -⟩
      have H4 : Hid (LzwAt B w w4 3) := H3.out.only hO hR
      clear hR hO H3
      go_wp2_with fail
      go_meet
      case rel => exact ⟨_, 3, rfl, by omega, H4⟩
  obtain ⟨cb, q, rfl, hq, HA⟩ := hcut
  clear H3 hwd
  go_upto_if 24 with fail
  go_cut [6] from 25 to 26 (fun x wc' => ∃ b : Nat, x = .int .i64 (b : Int) ∧ 2 ≤ b ∧ b ≤ 8 ∧ wc' = wc)
  case first =>
    cases cb with
    | false =>
      go_wp2_with fail
      go_meet
      case rel => exact ⟨2 + x0, by go_num, by omega, by omega, rfl⟩
    | true =>
      go_wp2_with fail
      go_meet
      case rel => exact ⟨8, by go_num, by omega, by omega, rfl⟩
  obtain ⟨b, rfl, hb2, hb8, hwc⟩ := hcut
  subst hwc
  clear hx0
  go_wp2_with fail
  refine (l14Low_any B q b _ HA.out.1 (by omega) hb8).mono ?_
  rintro e w5 ⟨⟨t, rfl, hts⟩, ⟨q5, hq5, hR⟩, hO⟩
  have H5 : Hid (LzwAt B w w5 q5) := HA.out.only hO hR
  clear hR hO HA
  go_wp2_with fail
  refine (pick_named B q5 _ _ H5.out.1 (by omega) (by omega) (by omega)).mono ?_
  rintro e w6 ⟨v, rfl, hv, hR, hO, -⟩
  have H6 : Hid (LzwAt B w w6 (q5 + 1)) := H5.out.only hO hR
  clear hR hO H5
  obtain ⟨vb, hvb⟩ : ∃ vb : Bool, ((v : Int) == 0) = vb := ⟨_, rfl⟩
  go_upto_if 30 with fail
  go_cut [8, 9, 10] from 31 to 48 (fun x _ _ wc => ∃ (t : ByteArray) (q : Nat), x = .string t ∧ t.size ≤ 9001 ∧ q ≤ 10000 ∧ Hid (LzwAt B w wc q))
  case first =>
    cases vb with
    | false =>
      go_wp2_with fail
      go_meet
      case rel => exact ⟨t, q5 + 1, rfl, hts, by omega, H6⟩
    | true =>
      have hB6 := H6.out.1.lt
      have H7 : Hid (LzwAt B w (w6.alloc (.cells #[] 5)) (q5 + 1)) := H6.out.alloc _
      have O7 : Hid (OwnT (w6.alloc (.cells #[] 5)) (B + 1) (.slice (some ⟨w6.heap.size, 0, none⟩) 0 0) 0 []) := by
        refine ⟨rfl, .inr ⟨w6.heap.size, 0, #[], rfl, by omega, heap_alloc_new w6 _, Nat.le_refl _, Nat.zero_le _, rfl, rfl⟩⟩
      clear H6
      go_wp2_with fail
      refine (pick_named B (q5 + 1) _ _ H7.out.1 (by omega) (by omega) (by omega)).mono ?_
      rintro e w8 ⟨m, rfl, hm, hR, hO, -⟩
      have H8 : Hid (LzwAt B w w8 (q5 + 2)) := H7.out.only hO hR
      have O8 : Hid (OwnT w8 (B + 1) (.slice (some ⟨w6.heap.size, 0, none⟩) 0 0) 0 []) := O7.out.only hO (by omega)
      clear hR hO H7 O7
      have HPW : Hid (∀ w', Calls Try.prog 35 #[.int .i64 (b : Int)] w' fun e w'' => e = .returned (.int .i64 ((2 ^ b : Nat) : Int)) ∧ w'' = w') := fun w' => l1Pow_any b w' (by omega)
      have hpw := Lz.pow_le hb8
      have hp1 : 1 ≤ 2 ^ b := Nat.one_le_two_pow
      generalize 2 ^ b = P at *
      go_wp2_with fail
      go_loopw [9, 10] (fun bv nv wr => ∃ (k q n : Nat) (l : List UInt8), nv = .int .i64 (k : Int) ∧ k + n ≤ 4899 ∧ q + k ≤ q5 + 2 + 4899 ∧ Hid (OwnT wr (B + 1) bv n l) ∧ Hid (LzwAt B w wr q)) (fun _ nv _ => (intOf nv).toNat)
      case atStart => exact ⟨4100 + m, q5 + 2, 0, [], by go_num, by omega, by omega, O8, H8⟩
      case round =>
        obtain ⟨k, q, n, l, rfl, hkn, hqk, HO, HL⟩ := hrel
        clear O8 H8
        by_cases hk : 0 < k
        · have hki : (0 : Int) < (k : Int) := by omega
          have hBr := HL.out.1.lt
          go_wp2_with fail
          refine (HPW.out _).mono ?_
          rintro e w9 ⟨rfl, hw9⟩
          replace hw9 := hw9.symm
          subst hw9
          go_wp2_with fail
          refine (pick_named B q _ _ HL.out.1 (by omega) (by omega) (by omega)).mono ?_
          rintro e w10 ⟨y2, rfl, hy2, hR, hO, -⟩
          have HL2 : Hid (LzwAt B w w10 (q + 1)) := HL.out.only hO hR
          have HO2 : Hid (OwnT w10 (B + 1) u9 n l) := HO.out.only hO (by omega)
          have hu := wrap_u8_small y2 (by omega)
          have hB10 := hR.lt
          clear hR hO HL HO
          have hyc : (y2 : Int) = (((UInt8.ofNat y2).toNat : Nat) : Int) := by
            rw [UInt8.toNat_ofNat']
            omega
          have HYC : Hid ((y2 : Int) = (((UInt8.ofNat y2).toNat : Nat) : Int)) := hyc
          clear hyc
          go_wp2_with (at_builtin; refine wpList_appT1 w10 (by rfl) _ _ (by rfl) (B + 1) _ n l (y2 : Int) (UInt8.ofNat y2) HYC.out (by rfl) HO2.out (by rfl) (by omega) (by omega) ?_)
          intro g2 cap2 w11 ho11 hg11
          have HL11 : Hid (LzwAt B w w11 (q + 1)) := by
            have hbB : Below (B + 1) w10 w11 := hg11.below (Below.refl _ _) (Nat.le_refl _) (by omega)
            exact ⟨HL2.out.1.kept hbB, HL2.out.2.trans (hbB.mono (by omega))⟩
          have HO11 : Hid (OwnT w11 (B + 1) (.slice (some ⟨g2, 0, none⟩) (n + 1) cap2) (n + 1) (l ++ [UInt8.ofNat y2])) := ho11
          have ek : (k : Int) - 1 = ((k - 1 : Nat) : Int) := by omega
          clear ho11 hg11 HL2 HO2
          go_wp2_with fail
          go_roundw
          case rel => exact ⟨k - 1, q + 1, n + 1, _, by first | rfl | (rw [ek]) | go_num, by omega, by omega, HO11, HL11⟩
          case measure => simp [intOf]; omega
        · have hk0 : k = 0 := by omega
          subst hk0
          obtain ⟨T, hT⟩ : ∃ T : ByteArray, T = ⟨l.toArray⟩ := ⟨_, rfl⟩
          have htx := HO.out.text
          rw [← hT] at htx
          have hTs : T.size ≤ 9001 := by
            have h1 := HO.out.len
            have h2 : T.size = l.length := by rw [hT]; simp [ByteArray.size]
            omega
          clear hT
          go_wp2_with fail
          go_meet
          case rel => exact ⟨T, q, rfl, hTs, by omega, HL⟩
  obtain ⟨t2, q6, rfl, hts2, hq6, HA6⟩ := hcut
  clear H6 hts hvb
  go_wp2_with fail
  refine (pick_named B q6 _ _ HA6.out.1 (by omega) (by omega) (by omega)).mono ?_
  rintro e w7 ⟨v7, rfl, hv7, hR, hO, -⟩
  have H7 : Hid (LzwAt B w w7 (q6 + 1)) := HA6.out.only hO hR
  clear hR hO HA6
  by_cases h0 : v7 = 0
  · subst h0
    have H8 : Hid (LzwAt B w (w7.alloc (.cells #[.int .i64 1, .int .i64 9] 3)) (q6 + 1)) := H7.out.alloc _
    have hWB : w7.heap.size ≠ B := by have := H7.out.1.lt; omega
    go_wp2_with fail
    refine (pick_named B (q6 + 1) _ _ H8.out.1 (by omega) (by omega) (by omega)).mono ?_
    rintro e w8 ⟨j, rfl, hj, hR, hO, -⟩
    have hcj : w8.cell? ⟨w7.heap.size, j, none⟩ = some (.int .i64 ((1 + 8 * j : Nat) : Int)) := (hO.cell w7.heap.size j (by simp) hWB).trans (two_cell w7 j (by omega))
    have H9 : Hid (Below w.heap.size w w8) := by rw [← HBB.out]; exact (H8.out.only hO hR).2
    have hjn : j < 2 := by omega
    have hjb : 1 + 8 * j ≤ 9 := by omega
    obtain ⟨b9, hb9⟩ : ∃ b9 : Nat, b9 = 1 + 8 * j := ⟨_, rfl⟩
    rw [← hb9] at hcj hjb
    clear hR hO H8 H7 hb9
    go_wp2_with fail
    exact bodyPost_ret (v := .tuple #[.string t2, .int .i64 (b9 : Int), .bool wide]) (by simp [results, Try.results12, go_sem]) rfl (lzwDrawn_mk _ _ _ rfl (by omega) hjb H9.out)
  · have g0 : ((v7 : Int) == 0) = false := by rw [beq_eq_false_iff_ne]; omega
    have H9 : Hid (Below w.heap.size w w7) := by rw [← HBB.out]; exact H7.out.2
    clear H7
    by_cases h1 : v7 = 1
    · subst h1
      obtain ⟨T, hT⟩ : ∃ T : ByteArray, t2 ++ ⟨#[255]⟩ = T := ⟨_, rfl⟩
      have hTs : T.size ≤ 9002 := by rw [← hT, ByteArray.size_append]; have : (ByteArray.mk #[255]).size = 1 := rfl; omega
      have hlz : ¬ 9223372036854775807 < t2.size + 1 := by omega
      go_wp2_with fail
      first | rw [hT] | skip
      exact bodyPost_ret (v := .tuple #[.string T, .int .i64 (b : Int), .bool wide]) (by simp [results, Try.results12, go_sem]) rfl (lzwDrawn_mk _ _ _ rfl hTs (by omega) H9.out)
    · have g1 : ((v7 : Int) == 1) = false := by rw [beq_eq_false_iff_ne]; omega
      go_wp2_with fail
      exact bodyPost_ret (v := .tuple #[.string t2, .int .i64 (b : Int), .bool wide]) (by simp [results, Try.results12, go_sem]) rfl (lzwDrawn_mk _ _ _ rfl (by omega) (by omega) H9.out)
end Go.Proofs.Ytjfihmpnbblomaa

/- One of some texts, drawn. -/
namespace Go.Proofs.Ytjfihmpnbblomaa
open Go.RowKit

set_option maxHeartbeats 400000 in
theorem of_list (B p L n : Nat) (ss : List ByteArray) (w : World) (hr : RdAt w B p) (hp : p ≤ 1000000) (hL : B < L) (hn : ss.length = n) (hn0 : 0 < n) (hn1 : n ≤ 100)
    (hc : ∀ i (h : i < ss.length), w.cell? ⟨L, i, none⟩ = some (.string ss[i])) (hs : ∀ t ∈ ss, t.size ≤ 10) :
    Calls Try.prog 26 #[.pointer (some ⟨B, 0, none⟩), .slice (some ⟨L, 0, none⟩) n n] w fun e w' => (∃ t : ByteArray, e = .returned (.string t) ∧ t.size ≤ 10) ∧ RdAt w' B (p + 1) ∧ Only B w w' := by
  have HP : Hid (Calls Try.prog 24 #[.pointer (some ⟨B, 0, none⟩), .int .i64 (n : Int)] w fun e w' => ∃ v : Nat, e = .returned (.int .i64 (v : Int)) ∧ (v : Int) < n ∧ RdAt w' B (p + 1) ∧ Only B w w' ∧ w'.heap.size = w.heap.size) := pick_named B p (n : Int) w hr (by omega) (by omega) (by omega)
  have HC : Hid (∀ i (h : i < ss.length), w.cell? ⟨L, i, none⟩ = some (.string ss[i])) := hc
  have hLw : 0 < n → L < w.heap.size := fun h => World.block_lt_of_cell? _ _ (hc 0 (by omega))
  clear hc hr
  go_enter Try.func26, Try.ntmps26
  go_wp2_with fail
  refine HP.out.mono ?_
  rintro e w1 ⟨v, rfl, hv, hR, hO, -⟩
  have hvn : v < n := by omega
  have hvs : v < ss.length := by omega
  have hcell : w1.cell? ⟨L, v, none⟩ = some (.string ss[v]) := (hO.cell L v (hLw hn0) (by omega)).trans (HC.out v hvs)
  have HF : Hid (RdAt w1 B (p + 1) ∧ Only B w w1 ∧ (ss[v]).size ≤ 10) := ⟨hR, hO, hs _ (List.getElem_mem hvs)⟩
  generalize ss[v] = t at *
  clear hR hO HC HP hLw hs
  go_wp2_with fail
  go_ret
  exact ⟨⟨t, rfl, HF.out.2.2⟩, HF.out.1, HF.out.2.1⟩
end Go.Proofs.Ytjfihmpnbblomaa

/- A limit, drawn. -/
namespace Go.Proofs.Ytjfihmpnbblomaa
open Go.RowKit

theorem mk_size (l : List UInt8) : (ByteArray.mk l.toArray).size = l.length := by simp [ByteArray.size]

/-- five limits of which one is drawn -/
def fives (m : Int) (j : Nat) : Int := if j = 2 then m else if j = 3 then 5001 else if j = 4 then -1 else 5000
theorem five_cell (W : World) (m : Int) (j : Nat) (hj : j < 5) : (W.alloc (.cells #[.int .i64 5000, .int .i64 5000, .int .i64 m, .int .i64 5001, .int .i64 (-1)] 3)).cell? ⟨W.heap.size, j, none⟩ = some (.int .i64 (fives m j)) := by
  rw [World.cell?_alloc_at _ _ _ _ rfl]
  have h : j = 0 ∨ j = 1 ∨ j = 2 ∨ j = 3 ∨ j = 4 := by omega
  rcases h with rfl | rfl | rfl | rfl | rfl <;> rfl

set_option maxHeartbeats 2000000 in
set_option maxRecDepth 20000 in
theorem l14Limit_any (B p : Nat) (w : World) (hr : RdAt w B p) (hp : p ≤ 100000) :
    Calls Try.prog 28 #[.pointer (some ⟨B, 0, none⟩)] w fun e w' => (∃ lm : Int, e = .returned (.int .i64 lm)) ∧ RdAt w' B (p + 2) ∧ Only B w w' := by
  have HR : Hid (RdAt w B p) := hr
  clear hr
  go_enter Try.func28, Try.ntmps28
  go_wp2_with fail
  refine (pick_named B p _ _ HR.out (by omega) (by omega) (by omega)).mono ?_
  rintro e w1 ⟨m, rfl, hm, hR1, hO1, -⟩
  have HR1 : Hid (RdAt (w1.alloc (.cells #[.int .i64 5000, .int .i64 5000, .int .i64 (m : Int), .int .i64 5001, .int .i64 (-1)] 3)) B (p + 1)) := hR1.alloc _
  have HO1 : Hid (Only B w (w1.alloc (.cells #[.int .i64 5000, .int .i64 5000, .int .i64 (m : Int), .int .i64 5001, .int .i64 (-1)] 3))) := hO1.alloc hR1.lt _
  have hWB : w1.heap.size ≠ B := by have := hR1.lt; omega
  clear hR1 hO1 HR
  go_wp2_with fail
  refine (pick_named B (p + 1) _ _ HR1.out (by omega) (by omega) (by omega)).mono ?_
  rintro e w2 ⟨y, rfl, hy, hR2, hO2, -⟩
  obtain ⟨Y, hY⟩ : ∃ Y : Nat, Y = y * 5 := ⟨_, rfl⟩
  obtain ⟨j, hj⟩ : ∃ j : Nat, j = Y / 14 := ⟨_, rfl⟩
  have e1 : (y : Int) * 5 = (Y : Int) := by omega
  have e2 : (Y : Int) / 14 = (j : Int) := by omega
  have e3 : (Y : Int).tdiv 14 = (j : Int) := by rw [Int.tdiv_eq_ediv_of_nonneg (by omega)]; exact e2
  have hYb : Y ≤ 65 := by omega
  have hjb : j < 5 := by omega
  have hji : (j : Int) < 5 := by omega
  have hcj : w2.cell? ⟨w1.heap.size, j, none⟩ = some (.int .i64 (fives m j)) := (hO2.cell w1.heap.size j (by simp) hWB).trans (five_cell w1 m j hjb)
  have HF : Hid (RdAt w2 B (p + 2) ∧ Only B w w2) := ⟨hR2, HO1.out.trans hO2⟩
  clear hR2 hO2 HR1 HO1 hY hj
  generalize fives m j = z at *
  go_wp2_with fail
  go_ret
  exact ⟨⟨z, rfl⟩, HF.out⟩

end Go.Proofs.Ytjfihmpnbblomaa

/- A text as bytes, and back. -/
namespace Go.Proofs.Ytjfihmpnbblomaa
open Go.RowKit

/-- the bytes of a text, laid anew -/
theorem conv_bytes (s : ByteArray) (w : World) : ∃ (cap : Nat) (w2 : World), Sem.run Try.prog (convert 9 22 (.string s)) w = .ok (.slice (some ⟨w.heap.size, 0, none⟩) s.size cap) w2 ∧
    (∀ i (h : i < s.size), w2.cell? ⟨w.heap.size, i, none⟩ = some (.int .u8 ((s[i]).toNat : Int)) ∧ w2.frozen? ⟨w.heap.size, i, none⟩ = false) ∧ Below w.heap.size w w2 ∧ w2.heap.size = w.heap.size + 1 := by
  refine ⟨_, _, run_bytes_of_string w 9 22 5 s Try.underlying9 Try.underlying22 Try.underlying5, ?_, ?_, ?_⟩
  · intro i h
    generalize grownCap w s.size 0 5 = cap
    have hg : (w.drew.alloc (.cells (bytesRow s cap) 5 ((bytesRow s cap).size, (bytesRow s cap).size + 1))).heap[w.heap.size]? = some (.cells (bytesRow s cap) 5 ((bytesRow s cap).size, (bytesRow s cap).size + 1)) := heap_alloc_new w.drew _
    refine ⟨?_, ?_⟩
    · rw [cell_of_row _ _ _ _ _ _ hg, bytesRow_at s cap i h]; rfl
    · unfold World.frozen?
      simp only [hg]
      have hsz : s.size ≤ (bytesRow s cap).size := by unfold bytesRow; simp
      simp
      omega
  · exact (Below.refl _ _).drew.alloc (Nat.le_refl _) _
  · simp

theorem text_back (W : World) (L cap n : Nat) (l : List UInt8) (hn : l.length = n) (hc : ∀ j (hj : j < l.length), W.cell? ⟨L, j, none⟩ = some (.int .u8 ((l[j]).toNat : Int))) :
    Sem.run Try.prog (convert 22 9 (.slice (some ⟨L, 0, none⟩) n cap)) W = .ok (.string ⟨l.toArray⟩) W := by
  subst hn
  refine run_convert_bytes_back W 22 9 5 ⟨L, 0, none⟩ cap l Try.underlying22 Try.underlying5 Try.underlying9 ?_
  intro j hj
  rw [show (⟨L, 0, none⟩ : Addr).add j = ⟨L, j, none⟩ from by simp [Addr.add]; try omega]
  exact hc j hj
end Go.Proofs.Ytjfihmpnbblomaa

/- A text of which a byte is another one. -/
namespace Go.Proofs.Ytjfihmpnbblomaa
open Go.RowKit

theorem size_of_empty {s : ByteArray} (h : s.toList.isEmpty = true) : s.size = 0 := by
  rw [ByteArray.toList_eq, List.isEmpty_iff] at h
  show s.data.size = 0
  rw [← Array.length_toList, h]; rfl

theorem bent_cells (s : ByteArray) (W : World) (L K v : Nat) (hK : K < s.size) (hv : v < 256) (hc : ∀ i (h : i < s.size), W.cell? ⟨L, i, none⟩ = some (.int .u8 ((s[i]).toNat : Int))) :
    ∃ l : List UInt8, l.length = s.size ∧ ∀ j (hj : j < l.length), (W.setCell ⟨L, K, none⟩ (.int .u8 (v : Int))).cell? ⟨L, j, none⟩ = some (.int .u8 ((l[j]).toNat : Int)) := by
  have hl : (s.data.toList.set K (UInt8.ofNat v)).length = s.size := by rw [List.length_set, Array.length_toList]; rfl
  refine ⟨s.data.toList.set K (UInt8.ofNat v), hl, fun j hj => ?_⟩
  by_cases e : K = j
  · subst e
    rw [World.cell?_setCell_same _ _ _ (hc K hK), List.getElem_set_self]
    simp
    omega
  · rw [World.cell?_setCell_other _ _ _ _ (fun h => e (by have := congrArg Addr.off h; simpa using this)), hc j (by rw [← hl]; exact hj), List.getElem_set_ne e]
    rfl

set_option maxHeartbeats 2000000 in
set_option maxRecDepth 20000 in
theorem l14Bend_any (B p : Nat) (s : ByteArray) (w : World) (hr : RdAt w B p) (hp : p ≤ 100000) (hs : s.size ≤ 100000) :
    Calls Try.prog 25 #[.pointer (some ⟨B, 0, none⟩), .string s] w fun e w' => (∃ t : ByteArray, e = .returned (.string t) ∧ t.size = s.size) ∧ (∃ q, q ≤ p + 2 ∧ RdAt w' B q) ∧ Only B w w' := by
  have hlt0 := hr.lt
  have HR0 : Hid (RdAt w B p) := hr
  clear hr
  by_cases hz : s.size = 0
  · have he : s = ByteArray.empty := by
      have : s.data.size = 0 := hz
      cases s with
      | mk d => simp at this; subst this; rfl
    subst he
    go_enter Try.func25, Try.ntmps25
    go_wp2_with fail
    go_ret
    exact ⟨⟨_, rfl, rfl⟩, ⟨p, by omega, HR0.out⟩, Only.refl _ _⟩
  · obtain ⟨cap, w2, hcv, hcl, belc, hsz2⟩ := conv_bytes s w
    have HCV : Hid (∀ i (h : i < s.size), w2.cell? ⟨w.heap.size, i, none⟩ = some (.int .u8 ((s[i]).toNat : Int)) ∧ w2.frozen? ⟨w.heap.size, i, none⟩ = false) := hcl
    have HR2 : Hid (RdAt w2 B p) := HR0.out.kept (belc.mono hlt0)
    have HO2 : Hid (Only B w w2) := Only.of_below belc hlt0
    have hse : s.toList.isEmpty = false := by
      rcases h : s.toList.isEmpty with _ | _
      · rfl
      · exact absurd (size_of_empty h) hz
    have hG : w.heap.size < w2.heap.size := by omega
    have hGB : w.heap.size ≠ B := by omega
    have hs1 : (1 : Int) ≤ (s.size : Int) := by omega
    clear hcl belc hsz2 HR0
    go_enter Try.func25, Try.ntmps25
    go_wp2_with fail
    clear hcv
    refine (pick_named B p _ _ HR2.out (by omega) (by omega) (by omega)).mono ?_
    rintro e w3 ⟨K, rfl, hK, hR3, hO3, -⟩
    have hKs : K < s.size := by omega
    have HC3 : Hid (∀ i (h : i < s.size), w3.cell? ⟨w.heap.size, i, none⟩ = some (.int .u8 ((s[i]).toNat : Int)) ∧ w3.frozen? ⟨w.heap.size, i, none⟩ = false) := fun i h => ⟨(hO3.cell w.heap.size i hG hGB).trans (HCV.out i h).1, (World.frozen?_of_block (w := w2) (a := ⟨w.heap.size, i, none⟩) (hO3.rest w.heap.size hG hGB)).trans (HCV.out i h).2⟩
    have HR3 : Hid (RdAt w3 B (p + 1)) := hR3
    have HO3 : Hid (Only B w w3) := HO2.out.trans hO3
    have hG3 : w.heap.size < w3.heap.size := Nat.lt_of_lt_of_le hG hO3.below.size
    clear hR3 hO3 HR2 HO2 HCV
    obtain ⟨x, hx⟩ : ∃ x : Nat, x = (s[K]'hKs).toNat := ⟨_, rfl⟩
    have hxb : x < 256 := by rw [hx]; exact UInt8.toNat_lt _
    obtain ⟨ck, fk⟩ := HC3.out K hKs
    rw [← hx] at ck
    have HV : Hid (∀ y : Nat, y < 255 → bits .xor .u8 (x : Int) (IntKind.u8.wrap (IntKind.i64.wrap (1 + (y : Int)))) = ((x ^^^ (1 + y) : Nat) : Int) ∧ x ^^^ (1 + y) < 256) := fun y hy => by
      have e1 : IntKind.i64.wrap (1 + (y : Int)) = ((1 + y : Nat) : Int) := by
        rw [← wrap_i64_nat (1 + y) (by omega)]; congr 1
      refine ⟨?_, Nat.xor_lt_two_pow (n := 8) (by omega) (by omega)⟩
      rw [e1, IntKind.wrap_u8', show ((1 + y : Nat) : Int) % 256 = ((1 + y : Nat) : Int) by omega, u8_xor_nat _ _ hxb (by omega)]
    have HX : Hid (x = (s[K]'hKs).toNat) := hx
    clear hx
    have HRd : Hid (RdAt w3.drew B (p + 1)) := HR3.out.drew
    have hKi : (K : Int) < (s.size : Int) := by omega
    go_wp2_with fail
    go_region_with (go_at_call 24; refine (pick_named B (p + 1) _ _ HRd.out (by omega) (by omega) (by omega)).mono ?_; rintro e w4 ⟨y, rfl, hy, hR4, hO4, -⟩; have HR4 : Hid (RdAt w4 B (p + 2)) := hR4; have HO4 : Hid (Only B w3.drew w4) := hO4; have ck4 : w4.cell? ⟨w.heap.size, K, none⟩ = some (.int .u8 (x : Int)) := (hO4.cell w.heap.size K hG3 hGB).trans ck; have fk4 : w4.frozen? ⟨w.heap.size, K, none⟩ = false := (World.frozen?_of_block (w := w3.drew) (a := ⟨w.heap.size, K, none⟩) (hO4.rest w.heap.size hG3 hGB)).trans fk; clear hR4 hO4)
    all_goals
      have hyn : y < 255 := by omega
      obtain ⟨hv1, hv2⟩ := HV.out y hyn
      rw [hv1]
      have hall : ∀ i (h : i < s.size), w4.cell? ⟨w.heap.size, i, none⟩ = some (.int .u8 ((s[i]).toNat : Int)) := fun i h => (HO4.out.cell w.heap.size i hG3 hGB).trans (HC3.out i h).1
      obtain ⟨l, hl, hlc⟩ := bent_cells s w4 w.heap.size K _ hKs hv2 hall
      have htb := text_back _ w.heap.size cap s.size l hl hlc
      have HF : Hid (RdAt (w4.setCell ⟨w.heap.size, K, none⟩ (.int .u8 ((x ^^^ (1 + y) : Nat) : Int))) B (p + 2) ∧ Only B w (w4.setCell ⟨w.heap.size, K, none⟩ (.int .u8 ((x ^^^ (1 + y) : Nat) : Int)))) :=
        ⟨HR4.out.kept ((Below.refl _ _).setCell (by show B + 1 ≤ w.heap.size; omega) _), ((HO3.out.drewN 1).trans HO4.out).set (Nat.le_refl _) hlt0 K _⟩
      have HL : Hid ((ByteArray.mk l.toArray).size = s.size) := by show l.toArray.size = s.size; rw [List.size_toArray]; exact hl
      clear hall hlc hl HR4 HO4 ck4 fk4 ck fk HRd HR3 HO3 HC3 HX HV hv1 hv2
      go_wp2_with fail
      go_ret
      exact ⟨⟨_, rfl, HL.out⟩, ⟨p + 2, by omega, HF.out.1⟩, HF.out.2⟩
end Go.Proofs.Ytjfihmpnbblomaa

/- Packing a text by LZW: its mathematics. -/
namespace Go.Proofs.Ytjfihmpnbblomaa

/-- where a text stands in a list from here on -/
def Lp.from (s : ByteArray) : List ByteArray → Nat → Int
  | [], _ => -1
  | x :: xs, i => if x = s then (i : Int) else Lp.from s xs (i + 1)
def Lp.find (l : List ByteArray) (s : ByteArray) : Int := Lp.from s l 0
def Lp.byte (s : ByteArray) : Nat := (s.data.toList.headD 0).toNat
def Lp.num (l : List ByteArray) (s : ByteArray) : Int := if s.size = 1 then (Lp.byte s : Int) else Lp.find l s
def Lp.known (b : Nat) (n : Nat) : Nat := if n = 2 ^ b + 2 then n else n - 1
def Lp.code (b : Nat) (wide : Bool) (v : Int) (n : Nat) : Int × Int := (v, (Lz.width b wide (Lp.known b n) : Int))
def Lp.full (wide : Bool) : Nat := if wide then 4094 else 4095

/-- what is known, what was put, the last text -/
structure Lp.St where
  l : List ByteArray
  out : List (Int × Int)
  last : ByteArray
/-- a byte more -/
def Lp.one (b : Nat) (wide : Bool) (t : Lp.St) (x : ByteArray) : Lp.St :=
  if 0 ≤ Lp.num t.l (t.last ++ x) then ⟨t.l, t.out, t.last ++ x⟩
  else if Lp.full wide ≤ t.l.length + 1 then ⟨Lz.start b, (t.out ++ [Lp.code b wide (Lp.num t.l t.last) t.l.length]) ++ [Lp.code b wide ((2 ^ b : Nat) : Int) (t.l.length + 1)], x⟩
  else ⟨t.l ++ [t.last ++ x], t.out ++ [Lp.code b wide (Lp.num t.l t.last) t.l.length], x⟩
def Lp.init (b : Nat) : Lp.St := ⟨Lz.start b, [(((2 ^ b : Nat) : Int), ((b + 1 : Nat) : Int))], ⟨#[]⟩⟩
def Lp.at (b : Nat) (wide : Bool) (s : ByteArray) : Nat → Lp.St
  | 0 => Lp.init b
  | k + 1 => Lp.one b wide (Lp.at b wide s k) (s.extract k (k + 1))
/-- what ends it -/
def Lp.close (b : Nat) (wide : Bool) (t : Lp.St) : List (Int × Int) :=
  if t.last.size = 0 then t.out ++ [Lp.code b wide (((2 ^ b : Nat) : Int) + 1) t.l.length]
  else (t.out ++ [Lp.code b wide (Lp.num t.l t.last) t.l.length]) ++ [Lp.code b wide (((2 ^ b : Nat) : Int) + 1) (t.l.length + 1)]
def Lp.all (b : Nat) (wide : Bool) (s : ByteArray) : List (Int × Int) := Lp.close b wide (Lp.at b wide s s.size)

theorem Lp.from_bd (s : ByteArray) : ∀ (l : List ByteArray) (i : Nat), -1 ≤ Lp.from s l i ∧ Lp.from s l i < (i + l.length : Nat)
  | [], i => by unfold Lp.from; simp; omega
  | x :: xs, i => by
    unfold Lp.from
    split
    · simp; omega
    · have := Lp.from_bd s xs (i + 1)
      simp only [List.length_cons]
      omega
theorem Lp.find_bd (l : List ByteArray) (s : ByteArray) : -1 ≤ Lp.find l s ∧ Lp.find l s < (l.length : Int) := by
  have := Lp.from_bd s l 0
  unfold Lp.find
  omega
theorem Lp.byte_lt (s : ByteArray) : Lp.byte s < 256 := UInt8.toNat_lt _
theorem Lp.full_bd (wide : Bool) : 4094 ≤ Lp.full wide ∧ Lp.full wide ≤ 4095 := by unfold Lp.full; split <;> omega

/-- the width serves -/
theorem Lz.grow_fits (k : Nat) : ∀ f n, n ≤ 12 → 12 ≤ n + f → Lz.grow k f n = 12 ∨ k < 2 ^ Lz.grow k f n
  | 0, n, h, h2 => by unfold Lz.grow; left; omega
  | f + 1, n, h, h2 => by
    unfold Lz.grow
    split
    · rename_i hc
      exact Lz.grow_fits k f (n + 1) (by omega) (by omega)
    · rename_i hc
      rcases Nat.lt_or_ge n 12 with h3 | h3
      · right
        rcases Nat.lt_or_ge k (2 ^ n) with h4 | h4
        · exact h4
        · exact absurd ⟨h3, h4⟩ hc
      · left; omega
theorem Lp.fits {b : Nat} (hb : b ≤ 8) (wide : Bool) {v n : Nat} (_hn : 2 ^ b + 2 ≤ n) (hv : v < n) (h4 : v < 4096) : v < 2 ^ Lz.width b wide (Lp.known b n) := by
  have hw := Lz.width_bd hb wide (Lp.known b n)
  have hg := Lz.grow_fits (Lz.known wide (Lp.known b n)) 12 (b + 1) (by omega) (by omega)
  have hk : v ≤ Lz.known wide (Lp.known b n) := by
    unfold Lz.known Lp.known
    split <;> split <;> omega
  unfold Lz.width at hw ⊢
  rcases hg with e | e
  · rw [e]; exact h4
  · omega
theorem Lp.fits_small {b : Nat} (hb : b ≤ 8) (wide : Bool) {v m : Nat} (hv : v < 2 ^ (b + 1)) : v < 2 ^ Lz.width b wide m := by
  have hw := Lz.width_bd hb wide m
  exact Nat.lt_of_lt_of_le hv (Nat.pow_le_pow_right (by omega) hw.1)

/-- what holds between two bytes -/
structure Lp.Good (b : Nat) (wide : Bool) (k : Nat) (t : Lp.St) : Prop where
  lo : 2 ^ b + 2 ≤ t.l.length
  hi : t.l.length < Lp.full wide
  last : t.last.size ≤ k
  num : t.last.size ≠ 0 → ∃ v : Nat, Lp.num t.l t.last = (v : Int) ∧ v < t.l.length
  ok : ∀ p ∈ t.out, Bp.Ok p ∧ p.2.toNat ≤ 12
  cnt : ∃ a c : Nat, t.out.length = 1 + a + c ∧ a + (if t.last.size = 0 then 0 else 1) ≤ k ∧ t.l.length + c * (Lp.full wide - (2 ^ b + 2)) = 2 ^ b + 2 + a
  pos : 0 < k → t.last.size ≠ 0

theorem Lp.code_ok {b : Nat} (hb : b ≤ 8) (wide : Bool) {v n : Nat} (hn : 2 ^ b + 2 ≤ n) (hv : v < n) (h4 : v < 4096) : Bp.Ok (Lp.code b wide (v : Int) n) ∧ (Lp.code b wide (v : Int) n).2.toNat ≤ 12 := by
  have hw := Lz.width_bd hb wide (Lp.known b n)
  have := Lp.fits hb wide hn hv h4
  unfold Lp.code Bp.Ok
  simp only [Int.toNat_natCast]
  omega
theorem Lp.code_ok2 {b : Nat} (hb : b ≤ 8) (wide : Bool) {v n : Nat} (hv : v < 2 ^ (b + 1)) : Bp.Ok (Lp.code b wide (v : Int) n) ∧ (Lp.code b wide (v : Int) n).2.toNat ≤ 12 := by
  have hw := Lz.width_bd hb wide (Lp.known b n)
  have := Lp.fits_small hb wide (m := Lp.known b n) hv
  unfold Lp.code Bp.Ok
  simp only [Int.toNat_natCast]
  omega

theorem Lp.num_bd {b : Nat} {l : List ByteArray} {s : ByteArray} (hl : 2 ^ b + 2 ≤ l.length) (h : 0 ≤ Lp.num l s) (h1 : s.size = 1 → Lp.byte s < 2 ^ b) : ∃ v : Nat, Lp.num l s = (v : Int) ∧ v < l.length := by
  refine ⟨(Lp.num l s).toNat, by omega, ?_⟩
  unfold Lp.num at h ⊢
  split
  · rename_i e
    have := h1 e
    simp only [Int.toNat_natCast]
    omega
  · rename_i e
    rw [if_neg e] at h
    have := Lp.find_bd l s
    omega

theorem Lp.num_one {l : List ByteArray} {x : ByteArray} (h : x.size = 1) : Lp.num l x = (Lp.byte x : Int) := by unfold Lp.num; rw [if_pos h]

theorem Lp.nil_app (x : ByteArray) : (⟨#[]⟩ : ByteArray) ++ x = x := by
  apply ByteArray.ext
  rw [ByteArray.data_append]
  simp

theorem Lp.good_init {b : Nat} (hb : b ≤ 8) (wide : Bool) : Lp.Good b wide 0 (Lp.init b) := by
  have hp := Lz.pow_le hb
  have hf := Lp.full_bd wide
  have hs := Lz.start_len b
  have h2 : (2 : Nat) ^ (b + 1) = 2 * 2 ^ b := by rw [Nat.pow_succ]; omega
  have h1 : 1 ≤ 2 ^ b := Nat.one_le_two_pow
  refine ⟨by show _ ≤ (Lz.start b).length; omega, by show (Lz.start b).length < _; omega, Nat.le_refl _, fun h => absurd rfl h, ?_, ⟨0, 0, rfl, Nat.le_refl _, by show (Lz.start b).length + _ = _; rw [hs]; omega⟩, fun h => absurd h (by omega)⟩
  intro p hp'
  have e : p = (((2 ^ b : Nat) : Int), ((b + 1 : Nat) : Int)) := by simpa [Lp.init] using hp'
  subst e
  unfold Bp.Ok
  simp only [Int.toNat_natCast]
  omega

theorem Lp.good_one {b k : Nat} {wide : Bool} {t : Lp.St} (hb : b ≤ 8) (g : Lp.Good b wide k t) {x : ByteArray} (hx : x.size = 1) (hxb : Lp.byte x < 2 ^ b) : Lp.Good b wide (k + 1) (Lp.one b wide t x) := by
  have hp := Lz.pow_le hb
  have hf := Lp.full_bd wide
  have hs := Lz.start_len b
  have h1 : 1 ≤ 2 ^ b := Nat.one_le_two_pow
  have h2 : (2 : Nat) ^ (b + 1) = 2 * 2 ^ b := by rw [Nat.pow_succ]; omega
  have hlo := g.lo
  have hhi := g.hi
  have hla := g.last
  have hsz : (t.last ++ x).size = t.last.size + 1 := by rw [ByteArray.size_append, hx]
  obtain ⟨a, c, c1, c2, c3⟩ := g.cnt
  unfold Lp.one
  split
  · rename_i h0
    refine ⟨hlo, hhi, by show (t.last ++ x).size ≤ _; omega, fun _ => ?_, g.ok, ⟨a, c, c1, ?_, c3⟩, fun _ => by show (t.last ++ x).size ≠ 0; omega⟩
    · refine Lp.num_bd hlo h0 (fun e => ?_)
      replace e : (t.last ++ x).size = 1 := e
      have e0 : t.last = ⟨#[]⟩ := ByteArray.ext (Array.eq_empty_of_size_eq_zero (show t.last.size = 0 by omega))
      rw [e0, Lp.nil_app]
      exact hxb
    · show a + (if (t.last ++ x).size = 0 then 0 else 1) ≤ k + 1
      rw [if_neg (by omega)]
      split at c2 <;> omega
  · rename_i h0
    have hne : t.last.size ≠ 0 := fun e => by
      have e0 : t.last = ⟨#[]⟩ := ByteArray.ext (Array.eq_empty_of_size_eq_zero e)
      rw [e0, Lp.nil_app, Lp.num_one hx] at h0
      omega
    obtain ⟨v, hv, hvl⟩ := g.num hne
    rw [if_neg hne] at c2
    have hok1 := Lp.code_ok hb wide hlo hvl (by omega)
    have hxn : ∃ v : Nat, Lp.num (Lz.start b) x = (v : Int) ∧ v < (Lz.start b).length := ⟨Lp.byte x, Lp.num_one hx, by omega⟩
    split
    · rename_i h3
      refine ⟨by show _ ≤ (Lz.start b).length; omega, by show (Lz.start b).length < _; omega, by show x.size ≤ _; omega, fun _ => hxn, ?_, ⟨a + 1, c + 1, by simp [c1]; omega, ?_, ?_⟩, fun _ => by show x.size ≠ 0; omega⟩
      · intro p hp'
        simp only [List.mem_append, List.mem_singleton] at hp'
        rcases hp' with (hp' | rfl) | rfl
        · exact g.ok p hp'
        · rw [hv]; exact hok1
        · exact Lp.code_ok2 hb wide (by omega)
      · show a + 1 + (if x.size = 0 then 0 else 1) ≤ k + 1
        rw [if_neg (by omega)]
        omega
      · show (Lz.start b).length + _ = _
        rw [hs, Nat.succ_mul]
        omega
    · rename_i h3
      refine ⟨by simp; omega, by simp; omega, by show x.size ≤ _; omega, fun _ => ⟨Lp.byte x, Lp.num_one hx, by simp; omega⟩, ?_, ⟨a + 1, c, by simp [c1]; omega, ?_, ?_⟩, fun _ => by show x.size ≠ 0; omega⟩
      · intro p hp'
        simp only [List.mem_append, List.mem_singleton] at hp'
        rcases hp' with hp' | rfl
        · exact g.ok p hp'
        · rw [hv]; exact hok1
      · show a + 1 + (if x.size = 0 then 0 else 1) ≤ k + 1
        rw [if_neg (by omega)]
        omega
      · show (t.l ++ [t.last ++ x]).length + _ = _
        rw [List.length_append]
        simp
        omega

theorem Lp.len_bd {b k : Nat} {wide : Bool} {t : Lp.St} (hb : b ≤ 8) (g : Lp.Good b wide k t) (hk : k ≤ 5000) : t.out.length ≤ 5002 := by
  obtain ⟨a, c, c1, c2, c3⟩ := g.cnt
  have hp := Lz.pow_le hb
  have hf := Lp.full_bd wide
  have hlo := g.lo
  have h1 : c * 3836 ≤ c * (Lp.full wide - (2 ^ b + 2)) := Nat.mul_le_mul_left _ (by omega)
  omega

/-- every byte is small enough -/
def Lp.small (b : Nat) (s : ByteArray) : Prop := ∀ k, k < s.size → Lp.byte (s.extract k (k + 1)) < 2 ^ b
theorem Lp.good_at {b : Nat} (hb : b ≤ 8) (wide : Bool) {s : ByteArray} (hs : Lp.small b s) : ∀ k, k ≤ s.size → Lp.Good b wide k (Lp.at b wide s k)
  | 0, _ => Lp.good_init hb wide
  | k + 1, h => Lp.good_one hb (Lp.good_at hb wide hs k (by omega)) (by rw [ByteArray.size_extract]; omega) (hs k (by omega))

theorem tot_le {l : List (Int × Int)} (h : ∀ p ∈ l, p.2.toNat ≤ 12) : ∀ i, i ≤ l.length → Bp.tot l i ≤ 12 * i
  | 0, _ => by simp [Bp.tot]
  | i + 1, hi => by
    rw [Bp.tot_succ l i (by omega)]
    have := tot_le h i (by omega)
    have := h l[i] (List.getElem_mem _)
    omega
theorem Lp.all_ok {b : Nat} (hb : b ≤ 8) (hb2 : 2 ≤ b) (wide : Bool) {s : ByteArray} (hs : Lp.small b s) (hz : s.size ≤ 5000) : Bp.Fits (Lp.all b wide s) (Lp.all b wide s).length ∧ (Lp.all b wide s).length ≤ 5004 := by
  have g := Lp.good_at hb wide hs s.size (Nat.le_refl _)
  have hlen := Lp.len_bd hb g hz
  have hlo := g.lo
  have hhi := g.hi
  have hf := Lp.full_bd wide
  have h1 : 2 ^ 2 ≤ 2 ^ b := Nat.pow_le_pow_right (by omega) hb2
  have h2 : (2 : Nat) ^ (b + 1) = 2 * 2 ^ b := by rw [Nat.pow_succ]; omega
  have hall : ∀ p ∈ Lp.all b wide s, Bp.Ok p ∧ p.2.toNat ≤ 12 := by
    intro p hp'
    have hend : ∀ n, Bp.Ok (Lp.code b wide (((2 ^ b : Nat) : Int) + 1) n) ∧ (Lp.code b wide (((2 ^ b : Nat) : Int) + 1) n).2.toNat ≤ 12 := fun n => by
      have := Lp.code_ok2 hb wide (v := 2 ^ b + 1) (n := n) (by omega)
      exact this
    unfold Lp.all Lp.close at hp'
    split at hp'
    · simp only [List.mem_append, List.mem_singleton] at hp'
      rcases hp' with hp' | rfl
      · exact g.ok p hp'
      · exact hend _
    · rename_i hne
      obtain ⟨v, hv, hvl⟩ := g.num hne
      simp only [List.mem_append, List.mem_singleton] at hp'
      rcases hp' with (hp' | rfl) | rfl
      · exact g.ok p hp'
      · rw [hv]; exact Lp.code_ok hb wide hlo hvl (by omega)
      · exact hend _
  have hl2 : (Lp.all b wide s).length ≤ 5004 := by
    unfold Lp.all Lp.close
    split <;> simp <;> omega
  refine ⟨fun j hj _ => ⟨(hall _ (List.getElem_mem hj)).1, ?_⟩, hl2⟩
  have := tot_le (fun p hp' => (hall p hp').2) (j + 1) (by omega)
  omega
end Go.Proofs.Ytjfihmpnbblomaa

/- The small functions of packing by LZW, of the specification. -/
namespace Go.Proofs.Ytjfihmpnbblomaa
open Go.RowKit

set_option maxHeartbeats 1000000 in
theorem l6Find_any (base n g cap : Nat) (l : List ByteArray) (s : ByteArray) (w : World) (ho : OwnL w base (.slice (some ⟨g, 0, none⟩) n cap) n l) (hn : n ≤ 5000) :
    Calls Try.prog 78 #[.slice (some ⟨g, 0, none⟩) n cap, .string s] w fun e w' => e = .returned (.int .i64 (Lp.find l s)) ∧ w' = w := by
  have hln := ho.len
  have HC : Hid (∀ i (h : i < l.length), w.cell? ⟨g, i, none⟩ = some (.string l[i])) := fun i h => ho.cell i h
  obtain ⟨R, hR⟩ : ∃ R, R = Lp.find l s := ⟨_, rfl⟩
  rw [← hR]
  have HR0 : Hid (Lp.from s (l.drop 0) 0 = R) := by rw [hR]; rfl
  clear hR ho
  go_enter Try.func78, Try.ntmps78
  go_wp2_with fail
  go_loop [5] (fun i => ∃ k : Nat, k ≤ n ∧ i = .int .i64 (k : Int) ∧ Hid (Lp.from s (l.drop k) k = R)) (fun i => n - (intOf i).toNat)
  case atStart => exact ⟨0, Nat.zero_le _, rfl, HR0⟩
  case round =>
    obtain ⟨k, hk, rfl, HR⟩ := hrel
    clear HR0
    by_cases hlt : k < n
    · have hkl : k < l.length := by omega
      have hck := HC.out k hkl
      have hd : l.drop k = l[k] :: l.drop (k + 1) := List.drop_eq_getElem_cons hkl
      have hi : (k : Int) < (n : Int) := by omega
      have HE : Hid ((if l[k] = s then (k : Int) else Lp.from s (l.drop (k + 1)) (k + 1)) = R) := by
        have := HR.out
        rw [hd] at this
        exact this
      generalize l[k] = x at *
      clear hd HR hln hkl
      by_cases hx : x = s
      · subst hx
        have hRk : R = (k : Int) := by have := HE.out; rw [if_pos rfl] at this; exact this.symm
        subst hRk
        have hbx : (x.toList == x.toList) = true := by simp
        clear HE
        go_wp2_with fail
        go_ret
        exact ⟨rfl, rfl⟩
      · have HE2 : Hid (Lp.from s (l.drop (k + 1)) (k + 1) = R) := by have := HE.out; rw [if_neg hx] at this; exact this
        have hbx : (x.toList == s.toList) = false := by
          rw [beq_eq_false_iff_ne]
          intro e
          rw [ByteArray.toList_eq, ByteArray.toList_eq] at e
          exact hx (ByteArray.ext (Array.toList_inj.1 e))
        clear HE
        go_wp2_with fail
        go_round
        case rel => exact ⟨k + 1, by omega, by go_num, HE2⟩
        case measure => simp [intOf]; omega
    · have hRk : R = -1 := by
        have := HR.out
        rw [List.drop_eq_nil_of_le (by omega)] at this
        exact this.symm
      subst hRk
      clear HR
      go_wp2_with fail
      go_ret
      exact ⟨rfl, rfl⟩

theorem first_byte (s : ByteArray) (h : 0 < s.size) : (s[0]).toNat = Lp.byte s := by
  unfold Lp.byte
  obtain ⟨⟨l⟩⟩ := s
  cases l with
  | nil => exact absurd h (by decide)
  | cons a t => rfl

set_option maxHeartbeats 1000000 in
theorem l6Num_any (base n g cap : Nat) (l : List ByteArray) (s : ByteArray) (w : World) (ho : OwnL w base (.slice (some ⟨g, 0, none⟩) n cap) n l) (hn : n ≤ 5000) (_hs : s.size ≤ 6000) :
    Calls Try.prog 64 #[.slice (some ⟨g, 0, none⟩) n cap, .string s] w fun e w' => e = .returned (.int .i64 (Lp.num l s)) ∧ w' = w := by
  have HF : Hid (∀ w', w' = w → Calls Try.prog 78 #[.slice (some ⟨g, 0, none⟩) n cap, .string s] w' fun e w'' => e = .returned (.int .i64 (Lp.find l s)) ∧ w'' = w') := fun w' e => by subst e; exact l6Find_any base n g cap l s w' ho hn
  clear ho
  unfold Lp.num
  by_cases h1 : s.size = 1
  · rw [if_pos h1]
    have hb := first_byte s (by omega)
    have hbl := Lp.byte_lt s
    have hi1 : (s.size : Int) = 1 := by omega
    have h0 : 0 < s.size := by omega
    generalize Lp.byte s = B at *
    clear HF
    go_enter Try.func64, Try.ntmps64
    go_wp2_with fail
    go_ret
    exact ⟨rfl, rfl⟩
  · rw [if_neg h1]
    have hi1 : ¬ (s.size : Int) = 1 := by omega
    generalize Lp.find l s = R at *
    go_enter Try.func64, Try.ntmps64
    go_wp2_with fail
    refine (HF.out _ rfl).mono ?_
    rintro e w1 ⟨rfl, hw1⟩
    subst hw1
    go_wp2_with fail
    go_ret
    exact ⟨rfl, rfl⟩

set_option maxHeartbeats 1000000 in
theorem l6Known_any (b n cap : Nat) (ao : Option Addr) (w : World) (hb : b ≤ 8) (hn : n ≤ 5000) (hn1 : 1 ≤ n) :
    Calls Try.prog 79 #[.slice ao n cap, .int .i64 (b : Int)] w fun e w' => e = .returned (.int .i64 (Lp.known b n : Int)) ∧ w' = w := by
  have HPW : Hid (∀ w', Calls Try.prog 35 #[.int .i64 (b : Int)] w' fun e w'' => e = .returned (.int .i64 ((2 ^ b : Nat) : Int)) ∧ w'' = w') := fun w' => l1Pow_any b w' (by omega)
  have hp := Lz.pow_le hb
  unfold Lp.known
  generalize 2 ^ b = P at *
  by_cases h1 : n = P + 2
  · rw [if_pos h1]
    have hi : (n : Int) = (P : Int) + 2 := by omega
    have HI : Hid (n = P + 2) := h1
    have hbe : ((n : Int) == (P : Int) + 2) = true := by simp [hi]
    clear h1 hi
    go_enter Try.func79, Try.ntmps79
    go_wp2_with fail
    refine (HPW.out _).mono ?_
    rintro e w1 ⟨rfl, hw1⟩
    subst hw1
    go_wp2_with fail
    all_goals first | (go_ret; exact ⟨rfl, rfl⟩) | (exfalso; have := HI.out; omega)
  · rw [if_neg h1]
    have hi : ¬ (n : Int) = (P : Int) + 2 := by omega
    have hbe : ((n : Int) == (P : Int) + 2) = false := by simpa using hi
    go_enter Try.func79, Try.ntmps79
    go_wp2_with fail
    refine (HPW.out _).mono ?_
    rintro e w1 ⟨rfl, hw1⟩
    subst hw1
    go_wp2_with fail
    go_ret
    exact ⟨by first | go_num | (congr 2; omega), rfl⟩

set_option maxHeartbeats 1000000 in
theorem l6Code_any (b n cap : Nat) (ao : Option Addr) (v : Int) (wide : Bool) (w : World) (hb : b ≤ 8) (hn : n ≤ 5000) (hn1 : 1 ≤ n) :
    Calls Try.prog 65 #[.int .i64 v, .slice ao n cap, .int .i64 (b : Int), .bool wide] w fun e w' => e = .returned (.agg #[.int .i64 (Lp.code b wide v n).1, .int .i64 (Lp.code b wide v n).2]) ∧ Below w.heap.size w w' := by
  have HK : Hid (∀ w', Calls Try.prog 79 #[.slice ao n cap, .int .i64 (b : Int)] w' fun e w'' => e = .returned (.int .i64 (Lp.known b n : Int)) ∧ w'' = w') := fun w' => l6Known_any b n cap ao w' hb hn hn1
  have hkb : Lp.known b n ≤ 5000 := by unfold Lp.known; split <;> omega
  have HW : Hid (∀ w', Calls Try.prog 74 #[.int .i64 (Lp.known b n : Int), .int .i64 (b : Int), .bool wide] w' fun e w'' => e = .returned (.int .i64 (Lz.width b wide (Lp.known b n) : Int)) ∧ w'' = w') := fun w' => l6Width_any b (Lp.known b n) hb hkb wide w'
  unfold Lp.code
  generalize Lz.width b wide (Lp.known b n) = W at *
  generalize Lp.known b n = K at *
  go_enter Try.func65, Try.ntmps65
  go_wp2_with fail
  refine (HK.out _).mono ?_
  rintro e w1 ⟨rfl, hw1⟩
  replace hw1 := hw1.symm
  subst hw1
  go_wp2_with fail
  refine (HW.out _).mono ?_
  rintro e w1 ⟨rfl, hw1⟩
  replace hw1 := hw1.symm
  subst hw1
  go_wp2_with fail
  exact bodyPost_ret (v := .agg #[.int .i64 v, .int .i64 (W : Int)]) (by simp [results, Try.results65, go_sem]) rfl ⟨rfl, (Below.refl _ _).alloc (Nat.le_refl _) _⟩

set_option maxHeartbeats 400000 in
theorem l6Full_any (wide : Bool) (w : World) : Calls Try.prog 66 #[.bool wide] w fun e w' => e = .returned (.int .i64 (Lp.full wide : Int)) ∧ w' = w := by
  cases wide
  all_goals
    go_enter Try.func66, Try.ntmps66
    go_wp2_with fail
    go_ret
    exact ⟨rfl, rfl⟩

def Lp.smallB (b : Nat) (s : ByteArray) : Bool := (List.range s.size).all fun k => decide (Lp.byte (s.extract k (k + 1)) < 2 ^ b)
theorem Lp.small_of {b : Nat} {s : ByteArray} (h : Lp.smallB b s = true) : Lp.small b s := fun k hk => by
  have := List.all_eq_true.1 h k (List.mem_range.2 hk)
  simpa using this
theorem extract_byte (s : ByteArray) (k : Nat) (h : k < s.size) : Lp.byte (s.extract k (k + 1)) = (s[k]).toNat := by
  have hz : 0 < (s.extract k (k + 1)).size := by rw [ByteArray.size_extract]; omega
  rw [← first_byte _ hz, ByteArray.getElem_extract]
  rfl

set_option maxHeartbeats 1000000 in
theorem l6Fits_any (b : Nat) (s : ByteArray) (w : World) (hb : b ≤ 8) (hs : s.size ≤ 9000) :
    Calls Try.prog 44 #[.string s, .int .i64 (b : Int)] w fun e w' => e = .returned (.bool (Lp.smallB b s)) ∧ ∃ m, w' = w.drewN m := by
  have HPW : Hid (∀ w', Calls Try.prog 35 #[.int .i64 (b : Int)] w' fun e w'' => e = .returned (.int .i64 ((2 ^ b : Nat) : Int)) ∧ w'' = w') := fun w' => l1Pow_any b w' (by omega)
  have hp := Lz.pow_le hb
  have HNO : Hid (∀ k (h : k < s.size), 2 ^ b ≤ (s[k]).toNat → Lp.smallB b s = false) := fun k h hk => by
    rw [← Bool.not_eq_true]
    intro hc
    have := Lp.small_of hc k h
    rw [extract_byte s k h] at this
    omega
  have HYES : Hid ((∀ k (h : k < s.size), (s[k]).toNat < 2 ^ b) → Lp.smallB b s = true) := fun h => by
    unfold Lp.smallB
    rw [List.all_eq_true]
    intro k hk
    have hk' := List.mem_range.1 hk
    rw [extract_byte s k hk']
    simpa using h k hk'
  generalize hB : Lp.smallB b s = B at *
  clear hB
  generalize 2 ^ b = P at *
  go_enter Try.func44, Try.ntmps44
  go_wp2_with fail
  go_loopw [5] (fun i wr => ∃ k : Nat, k ≤ s.size ∧ i = .int .i64 (k : Int) ∧ Hid (∀ j (h : j < s.size), j < k → (s[j]).toNat < P) ∧ Hid (∃ m, wr = w.drewN m)) (fun i _ => s.size - (intOf i).toNat)
  case atStart => exact ⟨0, Nat.zero_le _, rfl, fun j _ h => absurd h (Nat.not_lt_zero _), 0, rfl⟩
  case round =>
    obtain ⟨k, hk, rfl, HA, HM⟩ := hrel
    by_cases hlt : k < s.size
    · obtain ⟨y, hy⟩ : ∃ y, y = (s[k]).toNat := ⟨_, rfl⟩
      have hyb : y < 256 := by rw [hy]; exact UInt8.toNat_lt _
      have hsy : (s[k]).toNat = y := hy.symm
      have hi : (k : Int) < (s.size : Int) := by omega
      by_cases hsm : y < P
      · have HA2 : Hid (∀ j (h : j < s.size), j < k + 1 → (s[j]).toNat < P) := fun j h hj => by
          rcases Nat.lt_or_ge j k with h1 | h1
          · exact HA.out j h h1
          · have e : j = k := by omega
            subst e
            omega
        have hd : decide ((y : Int) ≥ (P : Int)) = false := decide_eq_false (by omega)
        clear hy HA
        go_wp2_with fail
        go_quiet ((go_at_call 35; exact Calls.quiet_of_same (HPW.out _)))
        go_wp2_with fail
        go_roundw
        case rel => exact ⟨k + 1, by omega, by go_num, HA2, by obtain ⟨m, rfl⟩ := HM.out; exact ⟨_, World.drewN_drewN _ _ _⟩⟩
        case measure => simp [intOf]; omega
      · have hBf : B = false := HNO.out k hlt (by omega)
        subst hBf
        have hd : decide ((y : Int) ≥ (P : Int)) = true := decide_eq_true (by omega)
        clear hy HA
        go_wp2_with fail
        go_quiet ((go_at_call 35; exact Calls.quiet_of_same (HPW.out _)))
        go_wp2_with fail
        go_ret
        obtain ⟨m, rfl⟩ := HM.out
        exact ⟨rfl, _, World.drewN_drewN _ _ _⟩
    · have hBt : B = true := HYES.out (fun j h => HA.out j h (by omega))
      subst hBt
      go_wp2_with fail
      go_ret
      exact ⟨rfl, HM.out⟩
end Go.Proofs.Ytjfihmpnbblomaa

/- A text is packed by LZW: l6Put and LzwPut of the specification. -/
namespace Go.Proofs.Ytjfihmpnbblomaa
open Go.RowKit

theorem wpList_appP {ops : Array Oper} {rest : List Oper} {o : Oper} {a : Act} {Q : Exit → Act → World → Prop} (w0 : World) (hgd : o.guard = none) (s x : Operand)
    (ho : o.op = .call { callee := .builtin .append, args := #[s, x], argTypes := #[61, 61] })
    (base : Nat) (v : Value) (n : Nat) (l : List (Int × Int)) (z : Int × Int) (hs : a.eval s = v) (hown : OwnP w0 base v n l) (hx : a.eval x = .slice (some ⟨w0.heap.size, 0, none⟩) 1 1) (hn : n ≤ 2000000) (hb : base ≤ w0.heap.size)
    (h : ∀ g cap w', OwnP w' base (.slice (some ⟨g, 0, none⟩) (n + 1) cap) (n + 1) (l ++ [z]) → Grew base w0 w' v g → wpList Try.prog ops Q rest (a.put o.dst (.slice (some ⟨g, 0, none⟩) (n + 1) cap)) w') :
    wpList Try.prog ops Q (o :: rest) a (w0.alloc (.cells #[.int .i64 z.1, .int .i64 z.2] 94)) := by
  obtain ⟨i0, hi0, hz0, hz1, hz2⟩ := info_parts info_bit
  refine wpList_append_lies _ hgd s x _ ho base 94 i0 (.agg #[.int .i64 0, .int .i64 0]) 2 16 Try.underlying61 hi0 hz0 hz1 hz2 rfl (by decide) v n (cellsOf l) hs (World.ownsRow.alloc (show World.ownsRow _ _ _ _ _ _ _ from hown) _) ⟨w0.heap.size, 0, none⟩ 1 1 [.int .i64 z.1, .int .i64 z.2] hx rfl (World.news_of_block (heap_alloc_new _ _)) (fun u hu => by simp at hu; rcases hu with rfl | rfl <;> rfl) (by decide) (by unfold maxLen; omega) (by omega) (by rw [World.size_alloc]; omega) _ rfl ?_
  intro g cap w' hown' hg hat hlt
  exact h g cap w' (OwnP.more hown') (Grew.of hown hg hat hlt)

/-- a row that stays beside one that grew -/
theorem row_grew {w w' : World} {base lo e e' z z' n n' g : Nat} {v v' : Value} {l l' : List Value} (hr : w.ownsRow lo e z v n l) (ho : w.ownsRow base e' z' v' n' l') (hne : e' ≠ e) (hg : Grew base w w' v' g) : w'.ownsRow lo e z v n l :=
  ownsRow_besides hr (fun k hk => hg.block k (World.ownsRow.lt hr k hk).2 (fun q => rows_apart ho hr hne k q.symm hk))
theorem row_below {w w' : World} {lo e z n : Nat} {v : Value} {l : List Value} (hr : w.ownsRow lo e z v n l) (hb : Below w.heap.size w w') : w'.ownsRow lo e z v n l :=
  ownsRow_besides hr (fun k hk => hb.block k (World.ownsRow.lt hr k hk).2)

/-- what lies in memory between two bytes -/
structure LpM (w : World) (b : Nat) (wide : Bool) (s : ByteArray) (k : Nat) (t : Lp.St) (g cap : Nat) (ov : Value) (wr : World) : Prop where
  eq : t = Lp.at b wide s k
  ol : OwnL wr w.heap.size (.slice (some ⟨g, 0, none⟩) t.l.length cap) t.l.length t.l
  op : OwnP wr w.heap.size ov t.out.length t.out
  bel : Below w.heap.size w wr

theorem Lp.one_stay {b : Nat} {wide : Bool} {t : Lp.St} {x : ByteArray} (h : 0 ≤ Lp.num t.l (t.last ++ x)) : Lp.one b wide t x = ⟨t.l, t.out, t.last ++ x⟩ := by unfold Lp.one; rw [if_pos h]
theorem Lp.one_full {b : Nat} {wide : Bool} {t : Lp.St} {x : ByteArray} (h : ¬ 0 ≤ Lp.num t.l (t.last ++ x)) (h2 : Lp.full wide ≤ t.l.length + 1) : Lp.one b wide t x = ⟨Lz.start b, (t.out ++ [Lp.code b wide (Lp.num t.l t.last) t.l.length]) ++ [Lp.code b wide ((2 ^ b : Nat) : Int) (t.l.length + 1)], x⟩ := by unfold Lp.one; rw [if_neg h, if_pos h2]
theorem Lp.one_add {b : Nat} {wide : Bool} {t : Lp.St} {x : ByteArray} (h : ¬ 0 ≤ Lp.num t.l (t.last ++ x)) (h2 : ¬ Lp.full wide ≤ t.l.length + 1) : Lp.one b wide t x = ⟨t.l ++ [t.last ++ x], t.out ++ [Lp.code b wide (Lp.num t.l t.last) t.l.length], x⟩ := by unfold Lp.one; rw [if_neg h, if_neg h2]

/-- what l6Put answers -/
def LpOut (w : World) (L : List (Int × Int)) (e : Ending) (w' : World) : Prop := ∃ ao cap, e = .returned (.slice ao L.length cap) ∧ Bits2 w' ao L ∧ Below w.heap.size w w'

set_option linter.unusedSimpArgs false in
set_option maxHeartbeats 4000000 in
set_option maxRecDepth 20000 in
theorem l6Put_any (b : Nat) (wide : Bool) (s : ByteArray) (w : World) (hb : b ≤ 8) (hsz : s.size ≤ 5000) (hsm : Lp.small b s) :
    Calls Try.prog 46 #[.string s, .int .i64 (b : Int), .bool wide] w (LpOut w (Lp.all b wide s)) := by
  have HPW : Hid (∀ w', Calls Try.prog 35 #[.int .i64 (b : Int)] w' fun e w'' => e = .returned (.int .i64 ((2 ^ b : Nat) : Int)) ∧ w'' = w') := fun w' => l1Pow_any b w' (by omega)
  have HST : Hid (∀ w', Calls Try.prog 54 #[.int .i64 (b : Int)] w' fun e w'' => ∃ g cap, e = .returned (.slice (some ⟨g, 0, none⟩) (2 ^ b + 2) cap) ∧ OwnL w'' w'.heap.size (.slice (some ⟨g, 0, none⟩) (2 ^ b + 2) cap) (2 ^ b + 2) (Lz.start b) ∧ Below w'.heap.size w' w'') := fun w' => l6Start_any b hb w'
  have HNU : Hid (∀ (base n g cap : Nat) (l : List ByteArray) (x : ByteArray) (w' : World), OwnL w' base (.slice (some ⟨g, 0, none⟩) n cap) n l → n ≤ 5000 → x.size ≤ 6000 → Calls Try.prog 64 #[.slice (some ⟨g, 0, none⟩) n cap, .string x] w' fun e w'' => e = .returned (.int .i64 (Lp.num l x)) ∧ w'' = w') := fun base n g cap l x w' => l6Num_any base n g cap l x w'
  have HCO : Hid (∀ (n cap : Nat) (ao : Option Addr) (v : Int) (w' : World), n ≤ 5000 → 1 ≤ n → Calls Try.prog 65 #[.int .i64 v, .slice ao n cap, .int .i64 (b : Int), .bool wide] w' fun e w'' => e = .returned (.agg #[.int .i64 (Lp.code b wide v n).1, .int .i64 (Lp.code b wide v n).2]) ∧ Below w'.heap.size w' w'') := fun n cap ao v w' => l6Code_any b n cap ao v wide w' hb
  have HFU : Hid (∀ w', Calls Try.prog 66 #[.bool wide] w' fun e w'' => e = .returned (.int .i64 (Lp.full wide : Int)) ∧ w'' = w') := fun w' => l6Full_any wide w'
  have HGD : Hid (∀ k, k ≤ s.size → Lp.Good b wide k (Lp.at b wide s k)) := fun k hk => Lp.good_at hb wide hsm k hk
  have hpw := Lz.pow_le hb
  have hfb := Lp.full_bd wide
  have HFIN : Hid (∀ t, t = Lp.at b wide s s.size → Lp.all b wide s = Lp.close b wide t) := fun t e => by rw [e]; rfl
  obtain ⟨P, hP⟩ : ∃ P : Nat, P = 2 ^ b := ⟨_, rfl⟩
  have HP : Hid (P = 2 ^ b) := hP
  rw [← hP] at HPW hpw HST
  obtain ⟨LL, hLL⟩ : ∃ LL, LL = Lp.all b wide s := ⟨_, rfl⟩
  rw [← hLL] at HFIN ⊢
  clear hP hsm hLL
  have e1 : IntKind.i64.wrap ((b : Int) + 1) = ((b + 1 : Nat) : Int) := by
    have := wrap_i64_nat (b + 1) (by omega)
    simpa using this
  go_enter Try.func46, Try.ntmps46
  go_wp2_with fail
  refine (HPW.out _).mono ?_
  rintro e w1 ⟨rfl, hw1⟩
  replace hw1 := hw1.symm
  subst hw1
  go_wp2_with fail
  refine (HST.out _).mono ?_
  rintro e w2 ⟨g0, cap0, rfl, ho2, b2⟩
  have hbz := b2.size
  have H0 : Hid (∃ t g cap ov, LpM w b wide s 0 t g cap ov (w2.alloc (.cells #[.int .i64 (P : Int), .int .i64 ((b : Int) + 1)] 94)) ∧ Value.slice (some ⟨g0, 0, none⟩) (P + 2) cap0 = .slice (some ⟨g, 0, none⟩) t.l.length cap ∧ Value.slice (some ⟨w2.heap.size, 0, none⟩) 1 1 = ov ∧ Value.string ⟨#[]⟩ = .string t.last) := by
    have hl : (Lp.init b).l.length = P + 2 := by show (Lz.start b).length = _; rw [Lz.start_len, HP.out]
    refine ⟨Lp.init b, g0, cap0, _, ⟨rfl, ?_, ?_, b2.alloc hbz _⟩, by rw [hl], rfl, rfl⟩
    · rw [hl]; exact (ho2.down (Nat.le_refl _)).alloc _
    · have hlit := World.ownsRow_lit (base := w.heap.size) (e := 94) (size := 2) w2 #[.int .i64 (P : Int), .int .i64 ((b : Int) + 1)] 1 hbz (by decide) rfl
      have ec : (#[Value.int .i64 (P : Int), .int .i64 ((b : Int) + 1)] : Array Value).toList = cellsOf (Lp.init b).out := by
        rw [HP.out]
        simp [Lp.init, cellsOf]
      rw [ec] at hlit
      exact hlit
  clear ho2 b2 hbz HPW
  go_wp2_with fail
  go_loopw [8, 9, 10, 11] (fun lv ov xv iv wr => ∃ k : Nat, k ≤ s.size ∧ iv = .int .i64 (k : Int) ∧ ∃ t g cap ov', LpM w b wide s k t g cap ov' wr ∧ lv = .slice (some ⟨g, 0, none⟩) t.l.length cap ∧ ov = ov' ∧ xv = .string t.last) (fun _ _ _ iv _ => s.size - (intOf iv).toNat)
  case atStart => exact ⟨0, Nat.zero_le _, rfl, H0.out⟩
  case round =>
    clear H0
    obtain ⟨k, hk, rfl, t, g, cap, ov, hM, rfl, rfl, rfl⟩ := hrel
    have HM : Hid (LpM w b wide s k t g cap u9 wr) := hM
    have HG : Hid (Lp.Good b wide k t) := by show Lp.Good _ _ _ _; rw [hM.eq]; exact HGD.out k hk
    have hlo := HG.out.lo
    have hhi := HG.out.hi
    have hla := HG.out.last
    have hol := Lp.len_bd hb HG.out (by omega)
    rw [← HP.out] at hlo
    have hbw := hM.bel.size
    clear hM
    obtain ⟨n, hn⟩ : ∃ n, n = t.l.length := ⟨_, rfl⟩
    have HN : Hid (n = t.l.length) := hn
    rw [← hn] at hlo hhi ⊢
    clear hn
    have HOL : Hid (OwnL wr w.heap.size (.slice (some ⟨g, 0, none⟩) n cap) n t.l) := by show OwnL _ _ _ _ _; rw [HN.out]; exact HM.out.ol
    by_cases hlt : k < s.size
    · obtain ⟨x, hx⟩ : ∃ x, x = s.extract k (k + 1) := ⟨_, rfl⟩
      have HX : Hid (x = s.extract k (k + 1)) := hx
      have hxs : x.size = 1 := by rw [hx, ByteArray.size_extract]; omega
      obtain ⟨z, hz⟩ : ∃ z, z = t.last ++ x := ⟨_, rfl⟩
      have HZ : Hid (z = t.last ++ x) := hz
      have hzs : z.size = t.last.size + 1 := by rw [hz, ByteArray.size_append, hxs]
      have hxe : s.extract k (k + 1) = x := hx.symm
      have hze : t.last ++ x = z := hz.symm
      have hik : (k : Int) < (s.size : Int) := by omega
      have hlz : ¬ 9223372036854775807 < t.last.size + x.size := by omega
      have HNX : Hid (Lp.at b wide s (k + 1) = Lp.one b wide t x) := by show _ = _; rw [HM.out.eq, HX.out]; rfl
      have HN1 : Hid (∀ w', w' = wr → Calls Try.prog 64 #[.slice (some ⟨g, 0, none⟩) n cap, .string z] w' fun e w'' => e = .returned (.int .i64 (Lp.num t.l z)) ∧ w'' = w') := fun w' e => by subst e; exact HNU.out w.heap.size n g cap t.l z w' HOL.out (by omega) (by omega)
      have HN2 : Hid (∀ w', w' = wr → Calls Try.prog 64 #[.slice (some ⟨g, 0, none⟩) n cap, .string t.last] w' fun e w'' => e = .returned (.int .i64 (Lp.num t.l t.last)) ∧ w'' = w') := fun w' e => by subst e; exact HNU.out w.heap.size n g cap t.l t.last w' HOL.out (by omega) (by omega)
      clear hx hz hzs HNU HFIN
      by_cases hst : 0 ≤ Lp.num t.l z
      · have HNEW : Hid (LpM w b wide s (k + 1) ⟨t.l, t.out, z⟩ g cap u9 wr) := by
          refine ⟨?_, HM.out.ol, HM.out.op, HM.out.bel⟩
          rw [HNX.out, Lp.one_stay (by rw [← HZ.out]; exact hst), ← HZ.out]
        have HFL : Hid (∃ t' g' cap' ov', LpM w b wide s (k + 1) t' g' cap' ov' wr ∧ Value.slice (some ⟨g, 0, none⟩) n cap = .slice (some ⟨g', 0, none⟩) t'.l.length cap' ∧ u9 = ov' ∧ Value.string z = .string t'.last) := ⟨_, g, cap, u9, HNEW.out, by rw [HN.out], rfl, rfl⟩
        have hge : (Lp.num t.l z) ≥ 0 := hst
        generalize Lp.num t.l z = V at *
        clear HNEW HM HG HN2 HNX HOL
        go_wp2_with fail
        refine (HN1.out _ rfl).mono ?_
        rintro e w1 ⟨rfl, hw1⟩
        replace hw1 := hw1.symm
        subst hw1
        go_wp2_with fail
        go_roundw
        case rel => exact ⟨k + 1, by omega, by go_num, HFL.out⟩
        case measure => simp [intOf]; omega
      · have HNS : Hid (Lp.num t.l (t.last ++ x) < 0) := by show _ < _; rw [← HZ.out]; omega
        have hlt0 : ¬ (Lp.num t.l z) ≥ 0 := hst
        have HOP : Hid (OwnP wr w.heap.size u9 t.out.length t.out) := HM.out.op
        have HBE : Hid (Below w.heap.size w wr) := HM.out.bel
        generalize hV : Lp.num t.l z = V at *
        clear hV
        obtain ⟨V2, hV2⟩ : ∃ V2, V2 = Lp.num t.l t.last := ⟨_, rfl⟩
        have HV2 : Hid (V2 = Lp.num t.l t.last) := hV2
        rw [← hV2] at HN2
        obtain ⟨C, hC⟩ : ∃ C, C = Lp.code b wide V2 n := ⟨_, rfl⟩
        have HC : Hid (C = Lp.code b wide V2 n) := hC
        have HCC : Hid (∀ w' ca ao, Calls Try.prog 65 #[.int .i64 V2, .slice ao n ca, .int .i64 (b : Int), .bool wide] w' fun e w'' => e = .returned (.agg #[.int .i64 C.1, .int .i64 C.2]) ∧ Below w'.heap.size w' w'') := fun w' ca ao => by rw [hC]; exact HCO.out n ca ao V2 w' (by omega) (by omega)
        obtain ⟨M, hMo⟩ : ∃ M, M = t.out.length := ⟨_, rfl⟩
        have HMo : Hid (M = t.out.length) := hMo
        have hMb : M ≤ 5002 := by rw [hMo]; exact hol
        clear hV2 hC hMo hol
        go_wp2_with fail
        refine (HN1.out _ rfl).mono ?_
        rintro e w1 ⟨rfl, hw1⟩
        replace hw1 := hw1.symm
        subst hw1
        clear HN1
        go_wp2_with fail
        refine (HN2.out _ rfl).mono ?_
        rintro e w1 ⟨rfl, hw1⟩
        replace hw1 := hw1.symm
        subst hw1
        clear HN2
        go_wp2_with fail
        refine (HCC.out _ _ _).mono ?_
        rintro e w3 ⟨rfl, b3⟩
        have HOL3 : Hid (OwnL w3 w.heap.size (.slice (some ⟨g, 0, none⟩) n cap) n t.l) := row_below HOL.out b3
        have HOP3 : Hid (OwnP w3 w.heap.size u9 M t.out) := by show OwnP _ _ _ _ _; rw [HMo.out]; exact row_below HOP.out b3
        have HBE3 : Hid (Below w.heap.size w w3) := HBE.out.trans (b3.mono hbw)
        have hbw3 : w.heap.size ≤ w3.heap.size := Nat.le_trans hbw b3.size
        clear b3 HOL HOP HBE HCC hbw
        go_wp2_with (at_builtin; refine wpList_appP w3 (by rfl) _ _ (by rfl) w.heap.size _ M t.out C (by rfl) HOP3.out (by rfl) (by omega) hbw3 ?_)
        intro g4 cap4 w4 ho4 hg4
        have HOP4 : Hid (OwnP w4 w.heap.size (.slice (some ⟨g4, 0, none⟩) (M + 1) cap4) (M + 1) (t.out ++ [C])) := ho4
        have HOL4 : Hid (OwnL w4 w.heap.size (.slice (some ⟨g, 0, none⟩) n cap) n t.l) := row_grew HOL3.out HOP3.out (by decide) hg4
        have HBE4 : Hid (Below w.heap.size w w4) := hg4.below HBE3.out (Nat.le_refl _) hbw3
        have hbw4 : w.heap.size ≤ w4.heap.size := HBE4.out.size
        clear ho4 hg4 HOL3 HOP3 HBE3 hbw3
        go_wp2_with (at_builtin; refine wpList_appL w4 (by rfl) _ _ (by rfl) w.heap.size _ n t.l z (by rfl) HOL4.out (by rfl) (by omega) hbw4 ?_)
        intro g5 cap5 w5 ho5 hg5
        have HOL5 : Hid (OwnL w5 w.heap.size (.slice (some ⟨g5, 0, none⟩) (n + 1) cap5) (n + 1) (t.l ++ [z])) := ho5
        have HOP5 : Hid (OwnP w5 w.heap.size (.slice (some ⟨g4, 0, none⟩) (M + 1) cap4) (M + 1) (t.out ++ [C])) := row_grew HOP4.out HOL4.out (by decide) hg5
        have HBE5 : Hid (Below w.heap.size w w5) := hg5.below HBE4.out (Nat.le_refl _) hbw4
        have hbw5 : w.heap.size ≤ w5.heap.size := HBE5.out.size
        clear ho5 hg5 HOL4 HOP4 HBE4 hbw4
        by_cases hfull : Lp.full wide ≤ n + 1
        · have HNXT : Hid (Lp.at b wide s (k + 1) = ⟨Lz.start b, (t.out ++ [C]) ++ [Lp.code b wide ((2 ^ b : Nat) : Int) (n + 1)], x⟩) := by
            show _ = _
            rw [HNX.out, Lp.one_full (by have := HNS.out; omega) (by rw [← HN.out]; exact hfull), HC.out, HV2.out, HN.out]
          obtain ⟨D, hD⟩ : ∃ D, D = Lp.code b wide ((P : Nat) : Int) (n + 1) := ⟨_, rfl⟩
          have HD : Hid (D = Lp.code b wide ((P : Nat) : Int) (n + 1)) := hD
          have HCD : Hid (∀ w' ca ao, Calls Try.prog 65 #[.int .i64 (P : Int), .slice ao (n + 1) ca, .int .i64 (b : Int), .bool wide] w' fun e w'' => e = .returned (.agg #[.int .i64 D.1, .int .i64 D.2]) ∧ Below w'.heap.size w' w'') := fun w' ca ao => by rw [hD]; exact HCO.out (n + 1) ca ao (P : Int) w' (by omega) (by omega)
          have hge2 : ((n : Int) + 1) ≥ (Lp.full wide : Int) := by omega
          obtain ⟨F, hF⟩ : ∃ F, F = Lp.full wide := ⟨_, rfl⟩
          rw [← hF] at HFU hge2 hfull hfb
          clear hD hF HG HM HNX HNS
          go_wp2_with fail
          refine (HFU.out _).mono ?_
          rintro e w6 ⟨rfl, hw6⟩
          replace hw6 := hw6.symm
          subst hw6
          go_wp2_with fail
          refine (HCD.out _ _ _).mono ?_
          rintro e w6 ⟨rfl, b6⟩
          have HOP6 : Hid (OwnP w6 w.heap.size (.slice (some ⟨g4, 0, none⟩) (M + 1) cap4) (M + 1) (t.out ++ [C])) := row_below HOP5.out b6
          have HBE6 : Hid (Below w.heap.size w w6) := HBE5.out.trans (b6.mono hbw5)
          have hbw6 : w.heap.size ≤ w6.heap.size := HBE6.out.size
          clear b6 HOL5 HOP5 HBE5 hbw5 HCD
          go_wp2_with (at_builtin; refine wpList_appP w6 (by rfl) _ _ (by rfl) w.heap.size _ (M + 1) (t.out ++ [C]) D (by rfl) HOP6.out (by rfl) (by omega) hbw6 ?_)
          intro g7 cap7 w7 ho7 hg7
          have HOP7 : Hid (OwnP w7 w.heap.size (.slice (some ⟨g7, 0, none⟩) (M + 1 + 1) cap7) (M + 1 + 1) ((t.out ++ [C]) ++ [D])) := by show OwnP _ _ _ _ _; rw [List.append_assoc]; exact ho7
          have HBE7 : Hid (Below w.heap.size w w7) := hg7.below HBE6.out (Nat.le_refl _) hbw6
          have hbw7 : w.heap.size ≤ w7.heap.size := HBE7.out.size
          clear ho7 hg7 HOP6 HBE6 hbw6
          go_wp2_with fail
          refine (HST.out _).mono ?_
          rintro e w8 ⟨g8, cap8, rfl, ho8, b8⟩
          have HFL : Hid (∃ t' g' cap' ov', LpM w b wide s (k + 1) t' g' cap' ov' w8 ∧ Value.slice (some ⟨g8, 0, none⟩) (P + 2) cap8 = .slice (some ⟨g', 0, none⟩) t'.l.length cap' ∧ Value.slice (some ⟨g7, 0, none⟩) (M + 1 + 1) cap7 = ov' ∧ Value.string x = .string t'.last) := by
            have hl : (Lz.start b).length = P + 2 := by rw [Lz.start_len, HP.out]
            refine ⟨_, g8, cap8, _, ⟨rfl, ?_, ?_, HBE7.out.trans (b8.mono hbw7)⟩, ?_, rfl, ?_⟩
            · rw [HNXT.out]; show OwnL _ _ (.slice _ (Lz.start b).length _) (Lz.start b).length (Lz.start b); rw [hl]; exact ho8.down hbw7
            · rw [HNXT.out]
              show OwnP _ _ _ ((t.out ++ [C]) ++ [Lp.code b wide ((2 ^ b : Nat) : Int) (n + 1)]).length ((t.out ++ [C]) ++ [Lp.code b wide ((2 ^ b : Nat) : Int) (n + 1)])
              rw [← HP.out, ← HD.out]
              have hlM : ((t.out ++ [C]) ++ [D]).length = M + 1 + 1 := by rw [List.length_append, List.length_append, ← HMo.out]; rfl
              rw [hlM]
              exact row_below HOP7.out b8
            · rw [HNXT.out]; show _ = Value.slice _ (Lz.start b).length _; rw [hl]
            · rw [HNXT.out]
          clear ho8 b8 HOP7 HBE7 hbw7 HNXT
          go_wp2_with fail
          go_roundw
          case rel => first | exact ⟨k + 1, by omega, by go_num, HFL.out⟩ | exact ⟨k + 1, by omega, by go_num, by simpa using HFL.out⟩
          case measure => simp [intOf]; omega
        · have HNXT : Hid (Lp.at b wide s (k + 1) = ⟨t.l ++ [z], t.out ++ [C], x⟩) := by
            show _ = _
            rw [HNX.out, Lp.one_add (by have := HNS.out; omega) (by rw [← HN.out]; exact hfull), HC.out, HV2.out, HN.out, HZ.out]
          have hge2 : ¬ ((n : Int) + 1) ≥ (Lp.full wide : Int) := by omega
          have HFL : Hid (∃ t' g' cap' ov', LpM w b wide s (k + 1) t' g' cap' ov' w5 ∧ Value.slice (some ⟨g5, 0, none⟩) (n + 1) cap5 = .slice (some ⟨g', 0, none⟩) t'.l.length cap' ∧ Value.slice (some ⟨g4, 0, none⟩) (M + 1) cap4 = ov' ∧ Value.string x = .string t'.last) := by
            have hl : (t.l ++ [z]).length = n + 1 := by rw [List.length_append, ← HN.out]; rfl
            refine ⟨_, g5, cap5, _, ⟨rfl, ?_, ?_, HBE5.out⟩, ?_, rfl, ?_⟩
            · rw [HNXT.out]; show OwnL _ _ (.slice _ (t.l ++ [z]).length _) (t.l ++ [z]).length (t.l ++ [z]); rw [hl]; exact HOL5.out
            · rw [HNXT.out]
              show OwnP _ _ _ (t.out ++ [C]).length (t.out ++ [C])
              have hlM : (t.out ++ [C]).length = M + 1 := by rw [List.length_append, ← HMo.out]; rfl
              rw [hlM]
              exact HOP5.out
            · rw [HNXT.out]; show _ = Value.slice _ (t.l ++ [z]).length _; rw [hl]
            · rw [HNXT.out]
          obtain ⟨F, hF⟩ : ∃ F, F = Lp.full wide := ⟨_, rfl⟩
          rw [← hF] at HFU hge2 hfull hfb
          clear hF HG HM HNX HNS HOL5 HOP5 HBE5 hbw5 HNXT
          go_wp2_with fail
          refine (HFU.out _).mono ?_
          rintro e w6 ⟨rfl, hw6⟩
          replace hw6 := hw6.symm
          subst hw6
          go_wp2_with fail
          go_roundw
          case rel => exact ⟨k + 1, by omega, by go_num, HFL.out⟩
          case measure => simp [intOf]; omega
    · have hks : k = s.size := by omega
      have HALL : Hid (LL = Lp.close b wide t) := HFIN.out t (by rw [HM.out.eq, hks])
      have HOP : Hid (OwnP wr w.heap.size u9 t.out.length t.out) := HM.out.op
      have HBE : Hid (Below w.heap.size w wr) := HM.out.bel
      have hik : ¬ (k : Int) < (s.size : Int) := by omega
      obtain ⟨M, hMo⟩ : ∃ M, M = t.out.length := ⟨_, rfl⟩
      have HMo : Hid (M = t.out.length) := hMo
      have hMb : M ≤ 5002 := by rw [hMo]; exact hol
      clear hks hMo hol HFIN HFU HST
      by_cases hl0 : t.last.size = 0
      · have HA2 : Hid (LL = t.out ++ [Lp.code b wide ((P : Int) + 1) n]) := by
          show _ = _
          rw [HALL.out]; unfold Lp.close; rw [if_pos hl0, HP.out, HN.out]
        have hem : t.last.toList.isEmpty = true := by
          rw [List.isEmpty_iff]
          exact List.eq_nil_of_length_eq_zero (by rw [toList_len]; exact hl0)
        obtain ⟨D, hD⟩ : ∃ D, D = Lp.code b wide ((P : Int) + 1) n := ⟨_, rfl⟩
        rw [← hD] at HA2
        have HCD : Hid (∀ w' ca ao, Calls Try.prog 65 #[.int .i64 ((P : Int) + 1), .slice ao n ca, .int .i64 (b : Int), .bool wide] w' fun e w'' => e = .returned (.agg #[.int .i64 D.1, .int .i64 D.2]) ∧ Below w'.heap.size w' w'') := fun w' ca ao => by rw [hD]; exact HCO.out n ca ao ((P : Int) + 1) w' (by omega) (by omega)
        clear hD HM HG HNU HALL
        go_wp2_with fail
        refine (HCD.out _ _ _).mono ?_
        rintro e w3 ⟨rfl, b3⟩
        have HOP3 : Hid (OwnP w3 w.heap.size u9 M t.out) := by show OwnP _ _ _ _ _; rw [HMo.out]; exact row_below HOP.out b3
        have HBE3 : Hid (Below w.heap.size w w3) := HBE.out.trans (b3.mono hbw)
        have hbw3 : w.heap.size ≤ w3.heap.size := HBE3.out.size
        clear b3 HOP HBE HCD
        go_wp2_with (at_builtin; refine wpList_appP w3 (by rfl) _ _ (by rfl) w.heap.size _ M t.out D (by rfl) HOP3.out (by rfl) (by omega) hbw3 ?_)
        intro g4 cap4 w4 ho4 hg4
        have HF : Hid (LpOut w LL (.returned (.slice (some ⟨g4, 0, none⟩) (M + 1) cap4)) w4) := by
          obtain ⟨ao, c2, he, hbits⟩ := OwnP.bits ho4
          cases he
          refine ⟨_, cap4, ?_, by rw [HA2.out]; exact hbits, hg4.below HBE3.out (Nat.le_refl _) hbw3⟩
          rw [HA2.out, List.length_append, ← HMo.out]; rfl
        clear ho4 hg4
        go_wp2_with fail
        go_ret
        exact HF.out
      · have HA2 : Hid (LL = (t.out ++ [Lp.code b wide (Lp.num t.l t.last) n]) ++ [Lp.code b wide ((P : Int) + 1) (n + 1)]) := by
          show _ = _
          rw [HALL.out]; unfold Lp.close; rw [if_neg hl0, HP.out, HN.out]
        have hem : t.last.toList.isEmpty = false := by
          rw [← Bool.not_eq_true, List.isEmpty_iff]
          exact fun e => hl0 (by have h := congrArg List.length e; rw [toList_len] at h; exact h)
        have HN2 : Hid (∀ w', w' = wr → Calls Try.prog 64 #[.slice (some ⟨g, 0, none⟩) n cap, .string t.last] w' fun e w'' => e = .returned (.int .i64 (Lp.num t.l t.last)) ∧ w'' = w') := fun w' e => by subst e; exact HNU.out w.heap.size n g cap t.l t.last w' HOL.out (by omega) (by omega)
        obtain ⟨V2, hV2⟩ : ∃ V2, V2 = Lp.num t.l t.last := ⟨_, rfl⟩
        rw [← hV2] at HN2 HA2
        obtain ⟨C, hC⟩ : ∃ C, C = Lp.code b wide V2 n := ⟨_, rfl⟩
        have HCC : Hid (∀ w' ca ao, Calls Try.prog 65 #[.int .i64 V2, .slice ao n ca, .int .i64 (b : Int), .bool wide] w' fun e w'' => e = .returned (.agg #[.int .i64 C.1, .int .i64 C.2]) ∧ Below w'.heap.size w' w'') := fun w' ca ao => by rw [hC]; exact HCO.out n ca ao V2 w' (by omega) (by omega)
        obtain ⟨D, hD⟩ : ∃ D, D = Lp.code b wide ((P : Int) + 1) (n + 1) := ⟨_, rfl⟩
        rw [← hD, ← hC] at HA2
        have HCD : Hid (∀ w' ca ao, Calls Try.prog 65 #[.int .i64 ((P : Int) + 1), .slice ao (n + 1) ca, .int .i64 (b : Int), .bool wide] w' fun e w'' => e = .returned (.agg #[.int .i64 D.1, .int .i64 D.2]) ∧ Below w'.heap.size w' w'') := fun w' ca ao => by rw [hD]; exact HCO.out (n + 1) ca ao ((P : Int) + 1) w' (by omega) (by omega)
        clear hD hC hV2 HM HG HNU HALL
        go_wp2_with fail
        refine (HN2.out _ rfl).mono ?_
        rintro e w1 ⟨rfl, hw1⟩
        replace hw1 := hw1.symm
        subst hw1
        go_wp2_with fail
        refine (HCC.out _ _ _).mono ?_
        rintro e w3 ⟨rfl, b3⟩
        have HOP3 : Hid (OwnP w3 w.heap.size u9 M t.out) := by show OwnP _ _ _ _ _; rw [HMo.out]; exact row_below HOP.out b3
        have HOL3 : Hid (OwnL w3 w.heap.size (.slice (some ⟨g, 0, none⟩) n cap) n t.l) := row_below HOL.out b3
        have HBE3 : Hid (Below w.heap.size w w3) := HBE.out.trans (b3.mono hbw)
        have hbw3 : w.heap.size ≤ w3.heap.size := HBE3.out.size
        clear b3 HOP HBE HCC HN2 HOL
        go_wp2_with (at_builtin; refine wpList_appP w3 (by rfl) _ _ (by rfl) w.heap.size _ M t.out C (by rfl) HOP3.out (by rfl) (by omega) hbw3 ?_)
        intro g4 cap4 w4 ho4 hg4
        have HOP4 : Hid (OwnP w4 w.heap.size (.slice (some ⟨g4, 0, none⟩) (M + 1) cap4) (M + 1) (t.out ++ [C])) := ho4
        have HOL4 : Hid (OwnL w4 w.heap.size (.slice (some ⟨g, 0, none⟩) n cap) n t.l) := row_grew HOL3.out HOP3.out (by decide) hg4
        have HBE4 : Hid (Below w.heap.size w w4) := hg4.below HBE3.out (Nat.le_refl _) hbw3
        have hbw4 : w.heap.size ≤ w4.heap.size := HBE4.out.size
        clear ho4 hg4 HOL3 HOP3 HBE3 hbw3
        go_wp2_with (at_builtin; refine wpList_appL w4 (by rfl) _ _ (by rfl) w.heap.size _ n t.l ⟨#[]⟩ (by rfl) HOL4.out (by rfl) (by omega) hbw4 ?_)
        intro g5 cap5 w5 ho5 hg5
        have HOP5 : Hid (OwnP w5 w.heap.size (.slice (some ⟨g4, 0, none⟩) (M + 1) cap4) (M + 1) (t.out ++ [C])) := row_grew HOP4.out HOL4.out (by decide) hg5
        have HBE5 : Hid (Below w.heap.size w w5) := hg5.below HBE4.out (Nat.le_refl _) hbw4
        have hbw5 : w.heap.size ≤ w5.heap.size := HBE5.out.size
        clear ho5 hg5 HOL4 HOP4 HBE4 hbw4
        go_wp2_with fail
        refine (HCD.out _ _ _).mono ?_
        rintro e w6 ⟨rfl, b6⟩
        have HOP6 : Hid (OwnP w6 w.heap.size (.slice (some ⟨g4, 0, none⟩) (M + 1) cap4) (M + 1) (t.out ++ [C])) := row_below HOP5.out b6
        have HBE6 : Hid (Below w.heap.size w w6) := HBE5.out.trans (b6.mono hbw5)
        have hbw6 : w.heap.size ≤ w6.heap.size := HBE6.out.size
        clear b6 HOP5 HBE5 hbw5 HCD
        go_wp2_with (at_builtin; refine wpList_appP w6 (by rfl) _ _ (by rfl) w.heap.size _ (M + 1) (t.out ++ [C]) D (by rfl) HOP6.out (by rfl) (by omega) hbw6 ?_)
        intro g7 cap7 w7 ho7 hg7
        have HF : Hid (LpOut w LL (.returned (.slice (some ⟨g7, 0, none⟩) (M + 1 + 1) cap7)) w7) := by
          obtain ⟨ao, c2, he, hbits⟩ := OwnP.bits ho7
          cases he
          refine ⟨_, cap7, ?_, by rw [HA2.out, List.append_assoc]; exact hbits, hg7.below HBE6.out (Nat.le_refl _) hbw6⟩
          rw [HA2.out, List.length_append, List.length_append, ← HMo.out]; rfl
        clear ho7 hg7
        go_wp2_with fail
        go_ret
        exact HF.out

/-- the text that LzwPut answers -/
def Lp.ok (s : ByteArray) (b : Int) (wide : Bool) : Bool := Lz.ok b wide && decide (s.size ≤ 5000) && Lp.smallB b.toNat s
def Lp.ans (s : ByteArray) (b : Int) (wide : Bool) : List UInt8 := if Lp.ok s b wide then (Bp.text wide (Lp.all b.toNat wide s)).map UInt8.ofNat else []
theorem Lz.ok_rng {b : Int} {wide : Bool} (h : Lz.ok b wide = true) : 2 ≤ b ∧ b ≤ 8 := by
  unfold Lz.ok at h
  split at h
  · have := eq_of_beq h; omega
  · simp at h; omega
theorem Lp.ans_len (s : ByteArray) (b : Int) (wide : Bool) : (Lp.ans s b wide).length ≤ 9000 := by
  unfold Lp.ans
  split
  · rename_i h
    unfold Lp.ok at h
    simp only [Bool.and_eq_true, decide_eq_true_eq] at h
    obtain ⟨⟨h1, h2⟩, h3⟩ := h
    have hb := Lz.ok_rng h1
    have hf := Lp.all_ok (b := b.toNat) (by omega) (by omega) wide (Lp.small_of h3) h2
    have ht := Bp.fits_tot hf.1 (Nat.le_refl _) (Nat.le_refl _)
    rw [List.length_map]
    unfold Bp.text
    rw [Bp.pack_len]
    omega
  · simp

set_option maxHeartbeats 1000000 in
theorem spec_lzwPut (s : ByteArray) (b : Int) (wide : Bool) (w : World) (hs : s.size ≤ 3000000)
    (HOK0 : ∀ w, Calls Try.prog 31 #[.int .i64 b, .bool wide] w fun e w' => e = .returned (.bool (Lz.ok b wide)) ∧ w' = w) :
    Calls Try.prog 14 #[.string s, .int .i64 b, .bool wide] w fun e w' => e = .returned (.string ⟨(Lp.ans s b wide).toArray⟩) ∧ Below w.heap.size w w' := by
  have HOK : Hid (∀ w, Calls Try.prog 31 #[.int .i64 b, .bool wide] w fun e w' => e = .returned (.bool (Lz.ok b wide)) ∧ w' = w) := HOK0
  clear HOK0
  cases hk : Lz.ok b wide with
  | false =>
    have HA : Hid (Lp.ans s b wide = []) := by show _ = _; unfold Lp.ans Lp.ok; rw [hk]; rfl
    rw [hk] at HOK
    rw [HA.out]
    clear hk
    go_enter Try.func14, Try.ntmps14
    go_wp2_with fail
    refine (HOK.out _).mono ?_
    rintro e w1 ⟨rfl, hw1⟩
    replace hw1 := hw1.symm
    subst hw1
    go_wp2_with fail
    go_ret
    exact ⟨rfl, Below.refl _ _⟩
  | true =>
    have hbd := Lz.ok_rng hk
    obtain ⟨B, rfl⟩ := Int.eq_ofNat_of_zero_le (show 0 ≤ b by omega)
    have HAN : Hid (Lp.ans s B wide = if (decide (s.size ≤ 5000) && Lp.smallB B s) then (Bp.text wide (Lp.all B wide s)).map UInt8.ofNat else []) := by show _ = _; unfold Lp.ans Lp.ok; rw [hk, Bool.true_and, Int.toNat_natCast]
    rw [hk] at HOK
    clear hk
    by_cases h5 : 5000 < s.size
    · have HA : Hid (Lp.ans s B wide = []) := by show _ = _; rw [HAN.out, decide_eq_false (by omega)]; rfl
      rw [HA.out]
      have d1 : decide ((s.size : Int) > 5000) = true := decide_eq_true (by omega)
      clear HAN
      go_enter Try.func14, Try.ntmps14
      go_wp2_with fail
      refine (HOK.out _).mono ?_
      rintro e w1 ⟨rfl, hw1⟩
      replace hw1 := hw1.symm
      subst hw1
      go_wp2_with fail
      go_ret
      exact ⟨rfl, Below.refl _ _⟩
    · have d1 : decide ((s.size : Int) > 5000) = false := decide_eq_false (by omega)
      have HFT : Hid (∀ w, Calls Try.prog 44 #[.string s, .int .i64 (B : Int)] w fun e w' => e = .returned (.bool (Lp.smallB B s)) ∧ ∃ m, w' = w.drewN m) := fun w => l6Fits_any B s w (by omega) (by omega)
      cases hsm : Lp.smallB B s with
      | false =>
        have HA : Hid (Lp.ans s B wide = []) := by show _ = _; rw [HAN.out, hsm, Bool.and_false]; rfl
        rw [HA.out]
        rw [hsm] at HFT
        clear HAN hsm
        go_enter Try.func14, Try.ntmps14
        go_wp2_with fail
        refine (HOK.out _).mono ?_
        rintro e w1 ⟨rfl, hw1⟩
        replace hw1 := hw1.symm
        subst hw1
        go_wp2_with fail
        refine (HFT.out _).mono ?_
        rintro e w1 ⟨rfl, m, rfl⟩
        go_wp2_with fail
        go_ret
        exact ⟨rfl, below_drewN (Below.refl _ _) _⟩
      | true =>
        have HA : Hid (Lp.ans s B wide = (Bp.text wide (Lp.all B wide s)).map UInt8.ofNat) := by show _ = _; rw [HAN.out, hsm, Bool.and_true, decide_eq_true (by omega)]; rfl
        have hf := Lp.all_ok (b := B) (by omega) (by omega) wide (Lp.small_of hsm) (by omega)
        have HPU : Hid (∀ w, Calls Try.prog 46 #[.string s, .int .i64 (B : Int), .bool wide] w (LpOut w (Lp.all B wide s))) := fun w => l6Put_any B wide s w (by omega) (by omega) (Lp.small_of hsm)
        rw [HA.out]
        rw [hsm] at HFT
        generalize Lp.all B wide s = L at *
        have HPK : Hid (∀ (a : Option Addr) (cap : Nat) (w : World), Bits2 w a L → Calls Try.prog 45 #[.slice a L.length cap, .bool wide] w fun e w' => e = .returned (.string ⟨((Bp.text wide L).map UInt8.ofNat).toArray⟩) ∧ Below w.heap.size w w') := fun a cap w h => l1Put_any wide a L.length cap L w h rfl (by omega) hf.1
        generalize hT : (Bp.text wide L).map UInt8.ofNat = T at *
        clear HAN hsm hf HA hT
        go_enter Try.func14, Try.ntmps14
        go_wp2_with fail
        refine (HOK.out _).mono ?_
        rintro e w1 ⟨rfl, hw1⟩
        replace hw1 := hw1.symm
        subst hw1
        go_wp2_with fail
        refine (HFT.out _).mono ?_
        rintro e w1 ⟨rfl, m, hw1⟩
        have B1 : Hid (Below w.heap.size w w1) := by show Below _ _ _; rw [hw1]; exact below_drewN (Below.refl _ _) _
        clear hw1
        go_wp2_with fail
        refine (HPU.out _).mono ?_
        rintro e w2 ⟨ao, cap, rfl, hbits, b2⟩
        have B2 : Hid (Below w.heap.size w w2) := B1.out.trans (b2.mono B1.out.size)
        have HBI : Hid (Bits2 w2 ao L) := hbits
        clear b2 hbits
        go_wp2_with fail
        refine (HPK.out ao cap w2 HBI.out).mono ?_
        rintro e w3 ⟨rfl, b3⟩
        have B3 : Hid (Below w.heap.size w w3) := B2.out.trans (b3.mono B2.out.size)
        clear b3
        go_wp2_with fail
        go_ret
        exact ⟨rfl, B3.out⟩
end Go.Proofs.Ytjfihmpnbblomaa

/- What comes of one number, by the specification. -/
namespace Go.Proofs.Ytjfihmpnbblomaa
open Go.RowKit

theorem SzS.len {w0 : World} {base B b : Nat} {wide : Bool} {s : ByteArray} {limit p : Nat} {l : List ByteArray} {last : ByteArray} {o : List UInt8} {cs : List Int} {c : Int} {w : World} (h : SzS w0 base B b wide s limit p l last o cs c w) : ∃ g cap ov cv, SzP w0 base B b wide s limit p l last o cs c g l.length cap ov cv w := by
  obtain ⟨g, n, cap, ov, cv, h⟩ := h
  have := h.ol.len
  subst this
  exact ⟨g, cap, ov, cv, h⟩

/-- what comes of a number -/
def SzOut (w0 : World) (base B b : Nat) (wide : Bool) (s : ByteArray) (limit p : Nat) (l : List ByteArray) (last : ByteArray) (o : List UInt8) (cs : List Int) (R : Except Int (Nat × ByteArray × List ByteArray × ByteArray × Nat)) (e : Ending) (w' : World) : Prop :=
  (∃ c, c ≠ 0 ∧ R = .error c ∧ e = .returned (.bool false) ∧ SzS w0 base B b wide s limit p l last o cs c w') ∨
  (∃ v t l2 last2 left2, R = .ok (v, t, l2, last2, left2) ∧ Lz.Good b l2 last2 ∧ (o ++ t.data.toList).length + left2 = limit ∧ e = .returned (.bool (decide (v ≠ 2 ^ b + 1))) ∧ SzS w0 base B b wide s limit p l2 last2 (o ++ t.data.toList) cs 0 w')

theorem szStep_any (w0 : World) (base B b limit p q v left N : Nat) (wide : Bool) (s last : ByteArray) (l : List ByteArray) (o : List UInt8) (cs : List Int) (w : World) (hb : b ≤ 8) (hB : base ≤ B) (hlim : limit ≤ 5000) (hleft : o.length + left = limit) (gd : Lz.Good b l last)
    (hN : N = Lz.width b wide l.length) (hin : q + N ≤ 8 * s.size) (hv : v = Lz.num s wide q N) (hv4 : v ≤ 4096)
    (h : SzS w0 base B b wide s limit p l last o cs 0 w) :
    Calls Try.prog 56 #[.pointer (some ⟨B, 0, none⟩), .int .i64 (v : Int)] w (SzOut w0 base B b wide s limit p l last o cs (Lz.step s b wide q l last left)) := by
  obtain ⟨g, cap, ov, cv, h⟩ := h.len
  have hlen := gd.ge
  have hlast := gd.last
  have hsn : ¬ 8 * s.size < q + N := by omega
  unfold Lz.step
  simp only [← hN, ← hv, if_neg hsn]
  by_cases h1 : v = 2 ^ b
  · rw [if_pos h1]
    refine (szStep_clear w0 base B b limit p v g l.length cap wide s last l o cs ov cv w hb hB hlen hv4 hlim (by omega) (by omega) h h1).mono ?_
    rintro e w' ⟨rfl, hs⟩
    refine .inr ⟨_, _, _, _, _, rfl, Lz.good_start hb, by simp; omega, by rw [decide_eq_true (by omega)], ?_⟩
    rw [show (ByteArray.mk #[]).data.toList = [] from rfl, List.append_nil]
    exact hs
  · rw [if_neg h1]
    by_cases h2 : v = 2 ^ b + 1
    · rw [if_pos h2]
      refine (szStep_end w0 base B b limit p v g l.length cap wide s last l o cs ov cv w hb hB hlen hv4 hlim (by omega) (by omega) h h2).mono ?_
      rintro e w' ⟨rfl, hs⟩
      refine .inr ⟨_, _, _, _, _, rfl, gd, by simp; omega, by rw [decide_eq_false (by omega)], ?_⟩
      rw [show (ByteArray.mk #[]).data.toList = [] from rfl, List.append_nil]
      exact hs
    · rw [if_neg h2]
      by_cases h3 : l.length < v ∨ (v = l.length ∧ last.size = 0)
      · rw [if_pos h3]
        rcases h3 with h3 | ⟨h3, h4⟩
        · refine (szStep_bada w0 base B b limit p v g l.length cap wide s last l o cs ov cv w hb hB hlen hv4 hlim (by omega) (by omega) h h1 h2 h3).mono ?_
          rintro e w' ⟨rfl, hs⟩
          exact .inl ⟨1, by decide, rfl, rfl, hs⟩
        · refine (szStep_badb w0 base B b limit p v g l.length cap wide s last l o cs ov cv w hb hB hlen hv4 hlim (by omega) (by omega) h h1 h2 h3 h4).mono ?_
          rintro e w' ⟨rfl, hs⟩
          exact .inl ⟨1, by decide, rfl, rfl, hs⟩
      · rw [if_neg h3]
        obtain ⟨t, ht⟩ : ∃ t, t = Lz.text l last v := ⟨_, rfl⟩
        have hts := Lz.text_pos gd h1 h2 h3
        rw [← ht] at hts ⊢
        have e3 : t.data.toList.length = t.size := rfl
        by_cases hk : v < l.length
        · have htk : t = l[v] := by rw [ht]; unfold Lz.text; rw [dif_pos hk]
          by_cases h5 : left < t.size
          · rw [if_pos h5]
            refine (szStep_longk w0 base B b limit p v g l.length cap wide s last l o cs ov cv w hb hB hlen hv4 hlim (by omega) (by omega) h h1 h2 hk t htk hts.2 (by omega)).mono ?_
            rintro e w' ⟨rfl, hs⟩
            exact .inl ⟨3, by decide, rfl, rfl, hs⟩
          · rw [if_neg h5]
            by_cases h6 : 0 < last.size ∧ l.length < 4096
            · refine (szStep_moreky w0 base B b limit p v g l.length cap wide s last l o cs ov cv w hb hB hlen hv4 hlim (by omega) (by omega) h h1 h2 hk t htk hts.1 hts.2 (by omega) h6.1 h6.2).mono ?_
              rintro e w' ⟨rfl, hs⟩
              refine .inr ⟨_, _, _, _, _, rfl, Lz.learn_good gd (by omega), by rw [List.length_append, e3]; omega, by rw [decide_eq_true h2], ?_⟩
              unfold Lz.learn
              rw [if_pos h6]
              exact hs
            · refine (szStep_morekn w0 base B b limit p v g l.length cap wide s last l o cs ov cv w hb hB hlen hv4 hlim (by omega) (by omega) h h1 h2 hk t htk hts.1 hts.2 (by omega) h6).mono ?_
              rintro e w' ⟨rfl, hs⟩
              refine .inr ⟨_, _, _, _, _, rfl, Lz.learn_good gd (by omega), by rw [List.length_append, e3]; omega, by rw [decide_eq_true h2], ?_⟩
              unfold Lz.learn
              rw [if_neg h6]
              exact hs
        · have htk : t = last ++ last.extract 0 1 := by rw [ht]; unfold Lz.text; rw [dif_neg hk]
          have hvl : v = l.length := by omega
          have hl1 : 1 ≤ last.size := by omega
          by_cases h5 : left < t.size
          · rw [if_pos h5]
            refine (szStep_longn w0 base B b limit p v g l.length cap wide s last l o cs ov cv w hb hB hlen hv4 hlim (by omega) (by omega) h h1 h2 hvl hl1 t htk hts.2 (by omega)).mono ?_
            rintro e w' ⟨rfl, hs⟩
            exact .inl ⟨3, by decide, rfl, rfl, hs⟩
          · rw [if_neg h5]
            by_cases h6 : 0 < last.size ∧ l.length < 4096
            · refine (szStep_moreny w0 base B b limit p v g l.length cap wide s last l o cs ov cv w hb hB hlen hv4 hlim (by omega) (by omega) h h1 h2 hvl hl1 t htk hts.1 hts.2 (by omega) h6.1 h6.2).mono ?_
              rintro e w' ⟨rfl, hs⟩
              refine .inr ⟨_, _, _, _, _, rfl, Lz.learn_good gd (by omega), by rw [List.length_append, e3]; omega, by rw [decide_eq_true h2], ?_⟩
              unfold Lz.learn
              rw [if_pos h6]
              exact hs
            · refine (szStep_morenn w0 base B b limit p v g l.length cap wide s last l o cs ov cv w hb hB hlen hv4 hlim (by omega) (by omega) h h1 h2 hvl hl1 t htk hts.1 hts.2 (by omega) h6).mono ?_
              rintro e w' ⟨rfl, hs⟩
              refine .inr ⟨_, _, _, _, _, rfl, Lz.learn_good gd (by omega), by rw [List.length_append, e3]; omega, by rw [decide_eq_true h2], ?_⟩
              unfold Lz.learn
              rw [if_neg h6]
              exact hs

theorem Lz.num_lt (s : ByteArray) (wide : Bool) (q N : Nat) (h : N ≤ 12) : Lz.num s wide q N ≤ 4096 := by
  have := Bg.num_lt (fun i => bitAt s wide (q + i)) (fun i => bitAt_lt _ _ _) N wide
  have h2 : 2 ^ N ≤ 2 ^ 12 := Nat.pow_le_pow_right (by omega) h
  unfold Lz.num
  omega

/-- a number is put behind the others -/
theorem SzP.push {w0 : World} {base B b : Nat} {wide : Bool} {s : ByteArray} {limit p : Nat} {l : List ByteArray} {last : ByteArray} {o : List UInt8} {cs : List Int} {c : Int} {g n cap : Nat} {ov cv : Value} {w w2 : World} {g2 cap2 : Nat} {x : Int} (h : SzP w0 base B b wide s limit p l last o cs c g n cap ov cv w) (hB : base ≤ B)
    (ho : OwnI w2 base (.slice (some ⟨g2, 0, none⟩) (cs.length + 1) cap2) (cs.length + 1) (cs ++ [x])) (hg : Grew base w w2 cv g2) :
    SzR w2 B b wide s limit p (.slice (some ⟨g, 0, none⟩) n cap) last ov cv c ∧ SzP w0 base B b wide s limit p l last o (cs ++ [x]) c g n cap ov (.slice (some ⟨g2, 0, none⟩) (cs.length + 1) cap2) (w2.setCell ⟨B, 8, none⟩ (.slice (some ⟨g2, 0, none⟩) (cs.length + 1) cap2)) := by
  have hcB := h.r.apart h.oi (by decide)
  have hr2 : SzR w2 B b wide s limit p (.slice (some ⟨g, 0, none⟩) n cap) last ov cv c := h.r.same (hg.block _ h.r.lt (fun e => hcB e.symm))
  have hbase : base ≤ w.heap.size := by have := h.r.lt; omega
  have hol : OwnL w2 base (.slice (some ⟨g, 0, none⟩) n cap) n l := ownsRow_besides h.ol (fun k hk => hg.block k (World.ownsRow.lt h.ol k hk).2 (fun e => rows_apart h.oi h.ol (by decide) k e.symm hk))
  have hot : OwnT w2 base ov o.length o := ownsRow_besides h.ot (fun k hk => hg.block k (World.ownsRow.lt h.ot k hk).2 (fun e => rows_apart h.oi h.ot (by decide) k e.symm hk))
  refine ⟨hr2, hr2.set rfl, row_set hol (hr2.apart hol (by decide)), row_set hot (hr2.apart hot (by decide)), ?_, (hg.below h.bel (Nat.le_refl _) hbase).setCell hB _⟩
  have := row_set (i := 8) (u := .slice (some ⟨g2, 0, none⟩) (cs.length + 1) cap2) ho (hr2.apart ho (by decide))
  unfold OwnI
  rw [List.length_append]
  exact this

theorem sz_new (w0 w : World) (base b limit : Nat) (wide : Bool) (s : ByteArray) (g n cap : Nat) (l : List ByteArray) (ho : OwnL w base (.slice (some ⟨g, 0, none⟩) n cap) n l) (hb : Below base w0 w) (hs : base ≤ w.heap.size) :
    SzP w0 base w.heap.size b wide s limit 0 l ⟨#[]⟩ [] [] 0 g n cap (.slice none 0 0) (.slice none 0 0) (w.alloc (.cells #[.string s, .int .i64 (b : Int), .bool wide, .int .i64 (limit : Int), .int .i64 0, .slice (some ⟨g, 0, none⟩) n cap, .string ⟨#[]⟩, .slice none 0 0, .slice none 0 0, .int .i64 0] 55)) :=
  ⟨World.alloc_heap_new w _, ho.alloc _, ownT_nil _ _, ownI_nil _ _, hb.alloc hs _⟩

end Go.Proofs.Ytjfihmpnbblomaa

/- All numbers of a text are read by the specification. -/
namespace Go.Proofs.Ytjfihmpnbblomaa
open Go.RowKit

/-- how far it is -/
structure SzGo (w : World) (B b : Nat) (wide : Bool) (s : ByteArray) (limit : Nat) (Rs : Except Int (List (Nat × ByteArray))) (dn : List (Nat × ByteArray)) (p : Nat) (l : List ByteArray) (last : ByteArray) (left f : Nat) (wr : World) : Prop where
  st : SzS w w.heap.size B b wide s limit p l last (textsOf dn) (codesOf dn) 0 wr
  good : Lz.Good b l last
  left_ : (textsOf dn).length + left = limit
  p_ : p ≤ 8 * s.size
  f_ : 8 * s.size + 1 ≤ p + f
  d_ : dn.length ≤ p
  rs : Rs = (Lz.go s b wide f p l last left).map (dn ++ ·)
/-- how it ends -/
def SzFin (w : World) (B b : Nat) (wide : Bool) (s : ByteArray) (limit : Nat) (Rs : Except Int (List (Nat × ByteArray))) (wr : World) : Prop :=
  ∃ p l last o cs c, SzS w w.heap.size B b wide s limit p l last o cs c wr ∧ ((∃ dn, Rs = .ok dn ∧ c = 0 ∧ o = textsOf dn ∧ cs = codesOf dn) ∨ (c ≠ 0 ∧ Rs = .error c))
def SzInv (w : World) (B b : Nat) (wide : Bool) (s : ByteArray) (limit : Nat) (Rs : Except Int (List (Nat × ByteArray))) (e : Value) (wr : World) : Prop :=
  (e = .bool false ∧ SzFin w B b wide s limit Rs wr) ∨ (e = .bool true ∧ ∃ dn p l last left f, SzGo w B b wide s limit Rs dn p l last left f wr)
def szMeas (B z : Nat) (e : Value) (wr : World) : Nat :=
  match e with
  | .bool false => 0
  | _ => match wr.cell? ⟨B, 4, none⟩ with
    | some (.int _ p) => 8 * z + 2 - p.toNat
    | _ => 0
theorem map_push (X : Except Int (List (Nat × ByteArray))) (dn : List (Nat × ByteArray)) (z : Nat × ByteArray) : (X.map (z :: ·)).map (dn ++ ·) = X.map ((dn ++ [z]) ++ ·) := by
  cases X <;> simp [Except.map]

/-- what l6All answers -/
def SzAll (w : World) (b : Nat) (wide : Bool) (s : ByteArray) (limit : Nat) (Rs : Except Int (List (Nat × ByteArray))) (e : Ending) (w' : World) : Prop :=
  ∃ B, e = .returned (.pointer (some ⟨B, 0, none⟩)) ∧ SzFin w B b wide s limit Rs w'

set_option maxHeartbeats 4000000 in
set_option maxRecDepth 20000 in
theorem l6All_any (b limit : Nat) (wide : Bool) (s : ByteArray) (Rs : Except Int (List (Nat × ByteArray))) (w : World) (hb : b ≤ 8) (hsz : s.size ≤ 9000) (hlim : limit ≤ 5000) (hRs : Rs = Lz.go s b wide (8 * s.size + 1) 0 (Lz.start b) ⟨#[]⟩ limit) :
    Calls Try.prog 33 #[.string s, .int .i64 (b : Int), .bool wide, .int .i64 (limit : Int)] w (SzAll w b wide s limit Rs) := by
  have HST : Hid (∀ w', Calls Try.prog 54 #[.int .i64 (b : Int)] w' fun e w'' => ∃ g cap, e = .returned (.slice (some ⟨g, 0, none⟩) (2 ^ b + 2) cap) ∧ OwnL w'' w'.heap.size (.slice (some ⟨g, 0, none⟩) (2 ^ b + 2) cap) (2 ^ b + 2) (Lz.start b) ∧ Below w'.heap.size w' w'') := fun w' => l6Start_any b hb w'
  have HRS : Hid (Rs = Lz.go s b wide (8 * s.size + 1) 0 (Lz.start b) ⟨#[]⟩ limit) := hRs
  clear hRs
  go_enter Try.func33, Try.ntmps33
  go_wp2_with fail
  refine (HST.out _).mono ?_
  rintro e w1 ⟨g, cap, rfl, ho1, b1⟩
  have hw1 := b1.size
  have hP1 := sz_new w w1 w.heap.size b limit wide s g (2 ^ b + 2) cap (Lz.start b) ho1 b1 hw1
  have hgo : SzGo w w1.heap.size b wide s limit Rs [] 0 (Lz.start b) ⟨#[]⟩ limit (8 * s.size + 1) _ :=
    { st := ⟨_, _, _, _, _, hP1⟩, good := Lz.good_start hb, left_ := by simp [textsOf], p_ := by omega, f_ := by omega, d_ := by simp, rs := by rw [HRS.out]; cases Lz.go s b wide (8 * s.size + 1) 0 (Lz.start b) ⟨#[]⟩ limit <;> simp [Except.map] }
  have HGO1 : Hid (SzInv w w1.heap.size b wide s limit Rs (.bool true) (w1.alloc (.cells #[.string s, .int .i64 (b : Int), .bool wide, .int .i64 (limit : Int), .int .i64 0, .slice (some ⟨g, 0, none⟩) (2 ^ b + 2) cap, .string ⟨#[]⟩, .slice none 0 0, .slice none 0 0, .int .i64 0] 55))) := .inr ⟨rfl, [], 0, _, _, _, _, hgo⟩
  clear hP1 hgo ho1 b1 HST HRS
  have HB0 : w.heap.size ≤ w1.heap.size := hw1
  clear hw1
  go_wp2_with fail
  generalize hBB : w1.heap.size = B at *
  clear hBB
  go_loopw [10] (fun e wr => SzInv w B b wide s limit Rs e wr) (fun e wr => szMeas B s.size e wr)
  case atStart => exact HGO1.out
  case round =>
    clear HGO1
    rcases hrel with ⟨rfl, hF⟩ | ⟨rfl, dn, p, l, last, left, f, hG⟩
    · have HF : Hid (SzAll w b wide s limit Rs (.returned (.pointer (some ⟨B, 0, none⟩))) wr) := ⟨B, rfl, hF⟩
      clear hF
      go_wp2_with fail
      go_ret
      exact HF.out
    · have HGO : Hid (SzGo w B b wide s limit Rs dn p l last left f wr) := hG
      obtain ⟨g, cap, ov, cv, hP⟩ := hG.st.len
      have HP : Hid (SzP w w.heap.size B b wide s limit p l last (textsOf dn) (codesOf dn) 0 g l.length cap ov cv wr) := hP
      clear hG
      have hms : szMeas B s.size (.bool true) wr = 8 * s.size + 2 - p := by
        unfold szMeas
        rw [hP.r.cell 4]
        rfl
      have HMS : Hid (szMeas B s.size (.bool true) wr = 8 * s.size + 2 - p) := hms
      have hpb := HGO.out.p_
      have hlen := HGO.out.good.ge
      obtain ⟨N, hN⟩ : ∃ N : Nat, N = Lz.width b wide l.length := ⟨_, rfl⟩
      have hNb := Lz.width_bd hb wide l.length
      rw [← hN] at hNb
      obtain ⟨f', hf'⟩ : ∃ f', f = f' + 1 := ⟨f - 1, by have := HGO.out.f_; omega⟩
      by_cases hno : 8 * s.size < p + N
      · have HNX : Hid (Calls Try.prog 55 #[.pointer (some ⟨B, 0, none⟩)] wr fun e w' => e = .returned (.int .i64 (-1)) ∧ SzFin w B b wide s limit Rs w') := by
          refine (szNext_no B b limit p l.length g cap wide s last ov cv 0 wr hb hsz hlen hpb hP.r (by omega)).mono ?_
          rintro e w' ⟨rfl, -, q, rfl⟩
          refine ⟨rfl, p, l, last, _, _, 2, ⟨_, _, _, _, _, (HP.out.drewN q).set HB0 rfl⟩, .inr ⟨by decide, ?_⟩⟩
          rw [HGO.out.rs, hf', Lz.go_err (c := 2) (by unfold Lz.step; simp only [← hN, if_pos hno])]
          rfl
        clear hP hms
        go_wp2_with fail
        refine HNX.out.mono ?_
        rintro e w2 ⟨rfl, hF⟩
        have HF : Hid (SzAll w b wide s limit Rs (.returned (.pointer (some ⟨B, 0, none⟩))) w2) := ⟨B, rfl, hF⟩
        clear hF
        go_wp2_with fail
        go_ret
        exact HF.out
      · obtain ⟨v, hv⟩ : ∃ v, v = Lz.num s wide p N := ⟨_, rfl⟩
        have hv4 : v ≤ 4096 := by rw [hv]; exact Lz.num_lt s wide p N (by omega)
        have HNX : Hid (Calls Try.prog 55 #[.pointer (some ⟨B, 0, none⟩)] wr fun e w' => e = .returned (.int .i64 (v : Int)) ∧ SzP w w.heap.size B b wide s limit (p + N) l last (textsOf dn) (codesOf dn) 0 g l.length cap ov cv w') := by
          refine (szNext_yes B b limit p l.length g cap v N wide s last ov cv 0 wr hb hsz hlen hP.r hN (by omega) hv).mono ?_
          rintro e w' ⟨rfl, -, q, rfl⟩
          exact ⟨rfl, (HP.out.drewN q).set HB0 rfl⟩
        have HEQ : Hid (N = Lz.width b wide l.length ∧ v = Lz.num s wide p N ∧ f = f' + 1) := ⟨hN, hv, hf'⟩
        clear hP hms hN hv hf'
        go_wp2_with fail
        refine HNX.out.mono ?_
        rintro e w2 ⟨rfl, hP2⟩
        have HP2 : Hid (SzP w w.heap.size B b wide s limit (p + N) l last (textsOf dn) (codesOf dn) 0 g l.length cap ov cv w2) := hP2
        have c8 := hP2.r.cell 8
        simp at c8
        have hbw2 : w.heap.size ≤ w2.heap.size := hP2.bel.size
        have hdn : dn.length ≤ p := HGO.out.d_
        have hcl : (codesOf dn).length ≤ 72000 := by rw [codesOf_len]; omega
        clear hP2 HNX HP
        go_wp2_with (at_builtin; refine wpList_app1 w2 (by rfl) _ _ (by rfl) w.heap.size _ (codesOf dn).length (codesOf dn) (v : Int) (by rfl) HP2.out.oi (by rfl) (Nat.le_trans hcl (by decide)) hbw2 ?_)
        intro g2 cap2 w3 ho3 hg3
        obtain ⟨hr3, hP4⟩ := HP2.out.push HB0 ho3 hg3
        have HP4 : Hid (SzP w w.heap.size B b wide s limit (p + N) l last (textsOf dn) (codesOf dn ++ [(v : Int)]) 0 g l.length cap ov (.slice (some ⟨g2, 0, none⟩) ((codesOf dn).length + 1) cap2) (w3.setCell ⟨B, 8, none⟩ (.slice (some ⟨g2, 0, none⟩) ((codesOf dn).length + 1) cap2))) := hP4
        have k8 := hr3.cell 8
        have kf8 := hr3.free 8
        simp at k8
        clear ho3 hg3 hr3 hP4 c8 HP2
        generalize hL8 : (codesOf dn).length = L8 at *
        go_wp2_with fail
        refine (szStep_any w w.heap.size B b limit (p + N) p v left N wide s last l (textsOf dn) (codesOf dn ++ [(v : Int)]) _ hb HB0 hlim HGO.out.left_ HGO.out.good HEQ.out.1 (by omega) HEQ.out.2.1 hv4 ⟨_, _, _, _, _, HP4.out⟩).mono ?_
        obtain ⟨hN, hv, hf'⟩ := HEQ.out
        rintro e w5 (⟨c, hc0, hst, rfl, hS5⟩ | ⟨v2, t, l2, last2, left2, hst, hgd2, hlf2, rfl, hS5⟩)
        · have HF : Hid (SzInv w B b wide s limit Rs (.bool false) w5) := .inl ⟨rfl, _, _, _, _, _, _, hS5, .inr ⟨hc0, by rw [HGO.out.rs, hf', Lz.go_err hst]; rfl⟩⟩
          clear hst hS5 HP4 HGO k8 kf8 hN hv hf' HEQ
          go_wp2_with fail
          go_roundw
          case rel => exact HF.out
          case measure =>
            have h1 := HMS.out
            have h2 : szMeas B s.size (.bool false) w5 = 0 := rfl
            omega
        · have hvv : v2 = v := by
            unfold Lz.step at hst
            simp only [← hN, ← hv, if_neg hno] at hst
            split at hst
            · cases hst; rfl
            · split at hst
              · cases hst; rfl
              · split at hst
                · cases hst
                · split at hst
                  · cases hst
                  · cases hst; rfl
          subst hvv
          have hcs : codesOf dn ++ [(v2 : Int)] = codesOf (dn ++ [(v2, t)]) := (codesOf_snoc dn v2 t).symm
          have hts : textsOf dn ++ t.data.toList = textsOf (dn ++ [(v2, t)]) := (textsOf_snoc dn v2 t).symm
          rw [hcs, hts] at hS5
          rw [hts] at hlf2
          obtain ⟨g5, cap5, ov5, cv5, hP5⟩ := hS5.len
          by_cases hve : v2 = 2 ^ b + 1
          · have HF : Hid (SzInv w B b wide s limit Rs (.bool false) w5) := .inl ⟨rfl, _, _, _, _, _, _, hS5, .inl ⟨dn ++ [(v2, t)], by rw [HGO.out.rs, hf', Lz.go_end hst hve]; rfl, rfl, rfl, rfl⟩⟩
            rw [decide_eq_false (show ¬ (v2 ≠ 2 ^ b + 1) from fun h => h hve)]
            clear hst hS5 HP4 HGO k8 kf8 hcs hts hP5 hve hv hN hf' HEQ
            go_wp2_with fail
            go_roundw
            case rel => exact HF.out
            case measure =>
              have h1 := HMS.out
              have h2 : szMeas B s.size (.bool false) w5 = 0 := rfl
              omega
          · have hgo : SzGo w B b wide s limit Rs (dn ++ [(v2, t)]) (p + N) l2 last2 left2 f' w5 :=
              { st := hS5, good := hgd2, left_ := hlf2, p_ := by omega, f_ := by have := HGO.out.f_; omega, d_ := by rw [List.length_append]; simp; omega, rs := by rw [HGO.out.rs, hf', Lz.go_on hst hve, map_push, ← hN] }
            have HF : Hid (SzInv w B b wide s limit Rs (.bool true) w5) := .inr ⟨rfl, _, _, _, _, _, _, hgo⟩
            have hm5 : szMeas B s.size (.bool true) w5 = 8 * s.size + 2 - (p + N) := by
              unfold szMeas
              rw [hP5.r.cell 4]
              rfl
            have HM5 : Hid (szMeas B s.size (.bool true) w5 = 8 * s.size + 2 - (p + N)) := hm5
            rw [decide_eq_true (show v2 ≠ 2 ^ b + 1 from hve)]
            clear hst hS5 HP4 HGO k8 kf8 hcs hts hP5 hve hv hm5 hgo hN hf' HEQ
            go_wp2_with fail
            go_roundw
            case rel => exact HF.out
            case measure =>
              have h1 := HMS.out
              have h2 := HM5.out
              omega
end Go.Proofs.Ytjfihmpnbblomaa

/- LzwCodes and LzwGet of the specification. -/
namespace Go.Proofs.Ytjfihmpnbblomaa
open Go.RowKit

def inB (n lo hi : Int) : Bool := decide (lo ≤ n ∧ n ≤ hi)
theorem l6In_any (n lo hi : Int) (w : World) : Calls Try.prog 32 #[.int .i64 n, .int .i64 lo, .int .i64 hi] w fun e w' => e = .returned (.bool (inB n lo hi)) ∧ w' = w := by
  by_cases h : lo ≤ n ∧ n ≤ hi
  · rw [show inB n lo hi = true from decide_eq_true h]
    exact l1In_yes n lo hi w h.1 h.2
  · rw [show inB n lo hi = false from decide_eq_false h]
    exact l1In_no n lo hi w h

set_option maxHeartbeats 400000 in
theorem l6Ok_any (b : Int) (wide : Bool) (w : World) : Calls Try.prog 31 #[.int .i64 b, .bool wide] w fun e w' => e = .returned (.bool (Lz.ok b wide)) ∧ w' = w := by
  have HIN : Hid (∀ w, Calls Try.prog 32 #[.int .i64 b, .int .i64 2, .int .i64 8] w fun e w' => e = .returned (.bool (inB b 2 8)) ∧ w' = w) := fun w => l6In_any b 2 8 w
  cases wide with
  | true =>
    by_cases h8 : b = 8
    · subst h8
      rw [show inB 8 2 8 = true from rfl] at HIN
      go_enter Try.func31, Try.ntmps31
      go_wp2_with fail
      refine (HIN.out _).mono ?_
      rintro e w1 ⟨rfl, hw1⟩
      subst hw1
      go_wp2_with fail
      go_ret
      exact ⟨rfl, rfl⟩
    · have hr : Lz.ok b true = false := by simp [Lz.ok, h8]
      rw [hr]
      have hb8 : (b == 8) = false := by simpa using h8
      generalize inB b 2 8 = k at HIN
      cases k
      all_goals
        go_enter Try.func31, Try.ntmps31
        go_wp2_with fail
        refine (HIN.out _).mono ?_
        rintro e w1 ⟨rfl, hw1⟩
        subst hw1
        go_wp2_with fail
        go_ret
        first | exact ⟨rfl, rfl⟩ | exact ⟨by simp [h8], rfl⟩
  | false =>
    have hr : Lz.ok b false = inB b 2 8 := by simp [Lz.ok, inB, Bool.decide_and]
    rw [hr]
    generalize inB b 2 8 = k at HIN ⊢
    cases k
    all_goals
      go_enter Try.func31, Try.ntmps31
      go_wp2_with fail
      refine (HIN.out _).mono ?_
      rintro e w1 ⟨rfl, hw1⟩
      subst hw1
      go_wp2_with fail
      go_ret
      exact ⟨rfl, rfl⟩

theorem ints_nil (w : World) (a : Option Addr) : Ints w a [] := .inl rfl

theorem SzFin.open {w : World} {B b : Nat} {wide : Bool} {s : ByteArray} {limit : Nat} {Rs : Except Int (List (Nat × ByteArray))} {wr : World} (h : SzFin w B b wide s limit Rs wr) :
    Below w.heap.size w wr ∧ ((∃ dn ov cv, Rs = .ok dn ∧ wr.cell? ⟨B, 9, none⟩ = some (.int .i64 0) ∧ wr.cell? ⟨B, 7, none⟩ = some ov ∧ wr.cell? ⟨B, 8, none⟩ = some cv ∧ OwnT wr w.heap.size ov (textsOf dn).length (textsOf dn) ∧ OwnI wr w.heap.size cv (codesOf dn).length (codesOf dn)) ∨ (∃ c, c ≠ 0 ∧ Rs = .error c ∧ wr.cell? ⟨B, 9, none⟩ = some (.int .i64 c))) := by
  obtain ⟨p, l, last, o, cs, c, ⟨g, n, cap, ov, cv, hP⟩, h⟩ := h
  refine ⟨hP.bel, ?_⟩
  rcases h with ⟨dn, h1, rfl, rfl, rfl⟩ | ⟨h1, h2⟩
  · exact .inl ⟨dn, ov, cv, h1, hP.r.cell 9, hP.r.cell 7, hP.r.cell 8, hP.ot, hP.oi⟩
  · exact .inr ⟨c, h1, h2, hP.r.cell 9⟩

set_option maxHeartbeats 1000000 in
theorem spec_lzwCodes (s : ByteArray) (b : Int) (wide : Bool) (w : World) (hs : s.size ≤ 3000000) :
    Calls Try.prog 18 #[.string s, .int .i64 b, .bool wide] w fun e w' => (∃ ao cap, e = .returned (.slice ao (Lz.codes (Lz.res s b wide 5000)).length cap) ∧ Ints w' ao (Lz.codes (Lz.res s b wide 5000))) ∧ Below w.heap.size w w' := by
  have HOK : Hid (∀ w, Calls Try.prog 31 #[.int .i64 b, .bool wide] w fun e w' => e = .returned (.bool (Lz.ok b wide)) ∧ w' = w) := fun w => l6Ok_any b wide w
  by_cases hf : LzFine s b wide 5000
  · obtain ⟨B, rfl⟩ := Int.eq_ofNat_of_zero_le (show 0 ≤ b by have := Lz.ok_bd hf.1; omega)
    have HR := fun w => l6All_any B 5000 wide s (Lz.res s B wide 5000) w (by have := Lz.ok_bd hf.1; omega) hf.2.1 (by omega) (Lz.res_yes (limit := 5000) hf)
    have hlen := Lz.codes_len s B 5000 wide
    generalize hRs : Lz.res s B wide 5000 = R at *
    clear hRs
    have HRD : Hid (∀ w, Calls Try.prog 33 #[.string s, .int .i64 (B : Int), .bool wide, .int .i64 5000] w (SzAll w B wide s 5000 R)) := HR
    rw [hf.1] at HOK
    have d1 : decide ((s.size : Int) > 9000) = false := decide_eq_false (by have := hf.2.1; omega)
    clear HR hf
    go_enter Try.func18, Try.ntmps18
    go_wp2_with fail
    refine (HOK.out _).mono ?_
    rintro e w1 ⟨rfl, hw1⟩
    replace hw1 := hw1.symm
    subst hw1
    go_wp2_with fail
    refine (HRD.out _).mono ?_
    rintro e w2 ⟨A, rfl, hF⟩
    obtain ⟨bel, (⟨dn, ov, cv, rfl, c9, c7, c8, hot, hoi⟩ | ⟨c, hc0, rfl, c9⟩)⟩ := hF.open
    · obtain ⟨ao, cap, rfl, how⟩ := OwnI.owns hoi
      have HI : Hid (Ints w2 ao (codesOf dn)) := how.ints
      have HI0 : Hid (Ints (w2.alloc (.cells #[] 3)) ao (codesOf dn)) := how.ints.kept ((Below.refl _ _).alloc (Nat.le_refl _) _)
      have HN : Hid (OwnI (w2.alloc (.cells #[] 3)) w2.heap.size (.slice (some ⟨w2.heap.size, 0, none⟩) 0 0) 0 []) := ownI_none w2
      have hlen' : (codesOf dn).length ≤ 72001 := hlen
      have HB : Hid (Below w.heap.size w w2) := bel
      have hAl : A < w2.heap.size := World.block_lt_of_cell? w2 ⟨A, 9, none⟩ c9
      clear hot hoi how bel hF hlen HRD HOK
      generalize hL : (codesOf dn).length = L at *
      have HL : Hid ((codesOf dn).length = L) := hL
      clear hL
      go_wp2_with (at_builtin; refine wpList_append_ints (by rfl) _ _ (by rfl) w2.heap.size _ 0 [] (by rfl) HN.out ao L cap (codesOf dn) (by rfl) HI0.out HL.out (by omega) (by rw [World.size_alloc]; omega) ?_)
      intro a' cap' w3 ho3 hg3
      have HF : Hid (Ints w3 a' (codesOf dn) ∧ Below w.heap.size w w3) := by
        obtain ⟨ao2, cap2, he, how2⟩ := OwnI.owns ho3
        cases he
        refine ⟨how2.ints, ?_⟩
        exact (HB.out.alloc HB.out.size _).grown hg3 (by rw [World.size_alloc]; have := HB.out.size; omega) (fun k hk => by cases hk; exact HB.out.size)
      clear ho3 hg3
      go_wp2_with fail
      go_ret
      exact ⟨⟨a', cap', by show _ = Ending.returned (.slice a' (codesOf dn).length cap'); rw [HL.out]; first | rfl | (conv => rhs; rw [← Nat.zero_add L]) | (conv => lhs; rw [Nat.zero_add L]), HF.out.1⟩, HF.out.2⟩
    · have hcb : (c != 0) = true := by rw [bne_iff_ne]; exact hc0
      clear hF HRD HOK hlen hc0
      go_wp2_with fail
      go_ret
      exact ⟨⟨_, _, rfl, ints_nil _ _⟩, bel.alloc bel.size _⟩
  · rw [Lz.res_no hf]
    have hno : Lz.ok b wide = false ∨ (Lz.ok b wide = true ∧ 9000 < s.size) := by
      cases h : Lz.ok b wide with
      | false => exact .inl rfl
      | true =>
        refine .inr ⟨rfl, ?_⟩
        rcases Nat.lt_or_ge 9000 s.size with h9 | h9
        · exact h9
        · exact absurd ⟨h, h9, by omega, by omega⟩ hf
    clear hf
    rcases hno with h0 | ⟨h0, h9⟩
    · rw [h0] at HOK
      go_enter Try.func18, Try.ntmps18
      go_wp2_with fail
      refine (HOK.out _).mono ?_
      rintro e w1 ⟨rfl, hw1⟩
      replace hw1 := hw1.symm
      subst hw1
      go_wp2_with fail
      go_ret
      exact ⟨⟨_, _, rfl, ints_nil _ _⟩, (Below.refl _ _).alloc (Nat.le_refl _) _⟩
    · rw [h0] at HOK
      have d1 : decide ((s.size : Int) > 9000) = true := decide_eq_true (by omega)
      go_enter Try.func18, Try.ntmps18
      go_wp2_with fail
      refine (HOK.out _).mono ?_
      rintro e w1 ⟨rfl, hw1⟩
      replace hw1 := hw1.symm
      subst hw1
      go_wp2_with fail
      go_ret
      exact ⟨⟨_, _, rfl, ints_nil _ _⟩, (Below.refl _ _).alloc (Nat.le_refl _) _⟩

set_option maxHeartbeats 1000000 in
theorem spec_lzwGet (s : ByteArray) (b : Int) (wide : Bool) (limit : Int) (w : World) (hs : s.size ≤ 3000000) :
    Calls Try.prog 10 #[.string s, .int .i64 b, .bool wide, .int .i64 limit] w fun e w' => e = .returned (.tuple #[.string ⟨(Lz.out (Lz.res s b wide limit)).toArray⟩, .int .i64 (Lz.code (Lz.res s b wide limit))]) ∧ Below w.heap.size w w' := by
  have HOK : Hid (∀ w, Calls Try.prog 31 #[.int .i64 b, .bool wide] w fun e w' => e = .returned (.bool (Lz.ok b wide)) ∧ w' = w) := fun w => l6Ok_any b wide w
  have HIN : Hid (∀ w, Calls Try.prog 32 #[.int .i64 limit, .int .i64 0, .int .i64 5000] w fun e w' => e = .returned (.bool (inB limit 0 5000)) ∧ w' = w) := fun w => l6In_any limit 0 5000 w
  by_cases hf : LzFine s b wide limit
  · obtain ⟨B, rfl⟩ := Int.eq_ofNat_of_zero_le (show 0 ≤ b by have := Lz.ok_bd hf.1; omega)
    obtain ⟨M, rfl⟩ := Int.eq_ofNat_of_zero_le (show 0 ≤ limit from hf.2.2.1)
    have HR := fun w => l6All_any B M wide s (Lz.res s B wide M) w (by have := Lz.ok_bd hf.1; omega) hf.2.1 (by have := hf.2.2.2; omega) (Lz.res_yes hf)
    generalize hRs : Lz.res s B wide M = R at *
    clear hRs
    have HRD : Hid (∀ w, Calls Try.prog 33 #[.string s, .int .i64 (B : Int), .bool wide, .int .i64 (M : Int)] w (SzAll w B wide s M R)) := HR
    rw [hf.1] at HOK
    rw [show inB M 0 5000 = true from decide_eq_true hf.2.2] at HIN
    have d1 : decide ((s.size : Int) > 9000) = false := decide_eq_false (by have := hf.2.1; omega)
    clear HR hf
    go_enter Try.func10, Try.ntmps10
    go_wp2_with fail
    refine (HOK.out _).mono ?_
    rintro e w1 ⟨rfl, hw1⟩
    replace hw1 := hw1.symm
    subst hw1
    go_wp2_with fail
    refine (HIN.out _).mono ?_
    rintro e w1 ⟨rfl, hw1⟩
    replace hw1 := hw1.symm
    subst hw1
    go_wp2_with fail
    refine (HRD.out _).mono ?_
    rintro e w2 ⟨A, rfl, hF⟩
    obtain ⟨bel, (⟨dn, ov, cv, rfl, c9, c7, c8, hot, hoi⟩ | ⟨c, hc0, rfl, c9⟩)⟩ := hF.open
    · have htx := OwnT.text hot
      obtain ⟨ao, n, cap, rfl⟩ : ∃ ao n cap, ov = .slice ao n cap := by
        rcases hot.2 with ⟨rfl, _⟩ | ⟨g, cap, cur, rfl, _⟩
        · exact ⟨_, _, _, rfl⟩
        · exact ⟨_, _, _, rfl⟩
      clear hot hoi hF HRD HOK HIN c8
      go_wp2_with fail
      go_ret2
      exact ⟨rfl, bel⟩
    · have hcb : (c != 0) = true := by rw [bne_iff_ne]; exact hc0
      clear hF HRD HOK hc0 HIN
      go_wp2_with fail
      go_quiet (fail)
      go_wp2_with fail
      go_ret2
      exact ⟨rfl, below_drewN bel _⟩
  · rw [Lz.res_no hf]
    have hno : Lz.ok b wide = false ∨ (Lz.ok b wide = true ∧ (9000 < s.size ∨ (s.size ≤ 9000 ∧ inB limit 0 5000 = false))) := by
      cases h : Lz.ok b wide with
      | false => exact .inl rfl
      | true =>
        refine .inr ⟨rfl, ?_⟩
        rcases Nat.lt_or_ge 9000 s.size with h9 | h9
        · exact .inl h9
        · exact .inr ⟨h9, decide_eq_false (fun hl => hf ⟨h, h9, hl.1, hl.2⟩)⟩
    clear hf
    rcases hno with h0 | ⟨h0, h9 | ⟨h9, h5⟩⟩
    · rw [h0] at HOK
      go_enter Try.func10, Try.ntmps10
      go_wp2_with fail
      refine (HOK.out _).mono ?_
      rintro e w1 ⟨rfl, hw1⟩
      replace hw1 := hw1.symm
      subst hw1
      go_wp2_with fail
      go_ret2
      exact ⟨rfl, Below.refl _ _⟩
    · rw [h0] at HOK
      have d1 : decide ((s.size : Int) > 9000) = true := decide_eq_true (by omega)
      go_enter Try.func10, Try.ntmps10
      go_wp2_with fail
      refine (HOK.out _).mono ?_
      rintro e w1 ⟨rfl, hw1⟩
      replace hw1 := hw1.symm
      subst hw1
      go_wp2_with fail
      go_ret2
      exact ⟨rfl, Below.refl _ _⟩
    · rw [h0] at HOK
      rw [h5] at HIN
      have d1 : decide ((s.size : Int) > 9000) = false := decide_eq_false (by omega)
      go_enter Try.func10, Try.ntmps10
      go_wp2_with fail
      refine (HOK.out _).mono ?_
      rintro e w1 ⟨rfl, hw1⟩
      replace hw1 := hw1.symm
      subst hw1
      go_wp2_with fail
      refine (HIN.out _).mono ?_
      rintro e w1 ⟨rfl, hw1⟩
      replace hw1 := hw1.symm
      subst hw1
      go_wp2_with fail
      go_ret2
      exact ⟨rfl, Below.refl _ _⟩
end Go.Proofs.Ytjfihmpnbblomaa

/- A text, bits, whether it is wide, and a limit, drawn of a code. -/
namespace Go.Proofs.Ytjfihmpnbblomaa
open Go.RowKit

/-- what is drawn -/
def LzwGot (w : World) (e : Ending) (w' : World) : Prop :=
  (∃ (t : ByteArray) (b : Nat) (wide : Bool) (lm : Int), e = .returned (.tuple #[.string t, .int .i64 (b : Int), .bool wide, .int .i64 lm]) ∧ t.size ≤ 9100 ∧ b ≤ 9) ∧ Below w.heap.size w w'
theorem lzwGot_mk {w w' : World} {e : Ending} (t : ByteArray) (b : Nat) (wide : Bool) (lm : Int) (h1 : e = .returned (.tuple #[.string t, .int .i64 (b : Int), .bool wide, .int .i64 lm])) (h2 : t.size ≤ 9100) (h3 : b ≤ 9) (h4 : Below w.heap.size w w') : LzwGot w e w' := ⟨⟨t, b, wide, lm, h1, h2, h3⟩, h4⟩

set_option linter.unusedSimpArgs false in
set_option maxHeartbeats 4000000 in
set_option maxRecDepth 20000 in
theorem drawLzwGet_any (a : Option Addr) (len cap : Nat) (w : World) (h : Code8 w a len cap) :
    Calls Try.prog 8 #[.slice a len cap] w (LzwGot w) := by
  have HOP : Hid (Calls Try.prog 23 #[.slice a len cap] w fun e w' => e = .returned (.pointer (some ⟨w.heap.size, 0, none⟩)) ∧ RdAt w' w.heap.size 0 ∧ Below w.heap.size w w') := open_any a len cap w h
  have HC : Hid (Code8 w a len cap) := h
  clear h
  go_enter Try.func8, Try.ntmps8
  go_wp2_with fail
  refine HOP.out.mono ?_
  rintro e w1 ⟨rfl, hR1, b1⟩
  clear HOP
  have HDR : Hid (Calls Try.prog 12 #[.slice a len cap] w1 (LzwDrawn w1)) := drawLzwPut_any a len cap w1 (HC.out.kept b1)
  obtain ⟨B, hB⟩ : ∃ B, B = w.heap.size := ⟨_, rfl⟩
  have H1 : Hid (LzwAt B w w1 0) := by show LzwAt _ _ _ _; rw [hB]; exact ⟨hR1, b1⟩
  rw [← hB]
  have HBB : Hid (B = w.heap.size) := hB
  clear hB hR1 b1 HC
  go_wp2_with fail
  refine HDR.out.mono ?_
  rintro e w2 ⟨⟨s, b, wide, rfl, hs, hb⟩, b2⟩
  have H2 : Hid (LzwAt B w w2 0) := ⟨H1.out.1.kept (b2.mono H1.out.1.lt), H1.out.2.trans (b2.mono (Nat.le_of_lt H1.out.1.lt))⟩
  clear b2 H1 HDR
  obtain ⟨T, hT⟩ : ∃ T : ByteArray, T = ⟨(Lp.ans s b wide).toArray⟩ := ⟨_, rfl⟩
  have hTb : T.size ≤ 9000 := by
    have h1 := Lp.ans_len s b wide
    rw [hT, mk_size]; exact h1
  have HS : Hid (Calls Try.prog 14 #[.string s, .int .i64 (b : Int), .bool wide] w2 fun e w' => e = .returned (.string T) ∧ Below w2.heap.size w2 w') := by rw [hT]; exact spec_lzwPut s b wide w2 (by omega) (fun w => l6Ok_any b wide w)
  clear hT
  go_wp2_with fail
  refine HS.out.mono ?_
  rintro e w3 ⟨rfl, b3⟩
  have H3 : Hid (LzwAt B w w3 0) := ⟨H2.out.1.kept (b3.mono H2.out.1.lt), H2.out.2.trans (b3.mono (Nat.le_of_lt H2.out.1.lt))⟩
  clear b3 H2 HS
  go_wp2_with fail
  refine (pick_named B 0 _ _ H3.out.1 (by omega) (by omega) (by omega)).mono ?_
  rintro e w4 ⟨x, rfl, hx, hR, hO, -⟩
  have H4 : Hid (LzwAt B w w4 1) := H3.out.only hO hR
  clear hR hO H3
  have hTi : (T.size : Int) ≤ 9000 := by omega
  have HEND : Hid (∀ (q : Nat) (u : ByteArray) (w5 : World), LzwAt B w w5 q → q ≤ 1000 → Calls Try.prog 28 #[.pointer (some ⟨B, 0, none⟩)] w5 fun e w' => (∃ lm : Int, e = .returned (.int .i64 lm)) ∧ Below w.heap.size w w') := fun q u w5 hl hq => by
    refine (l14Limit_any B q w5 hl.1 (by omega)).mono ?_
    rintro e w6 ⟨⟨lm, rfl⟩, -, hO6⟩
    exact ⟨⟨lm, rfl⟩, by rw [← HBB.out]; exact hl.2.trans hO6.below⟩
  by_cases hx0 : x = 0
  · subst hx0
    have HBN : Hid (Calls Try.prog 25 #[.pointer (some ⟨B, 0, none⟩), .string T] w4 fun e w' => (∃ t : ByteArray, e = .returned (.string t) ∧ t.size = T.size) ∧ (∃ q, q ≤ 1 + 2 ∧ RdAt w' B q) ∧ Only B w4 w') := l14Bend_any B 1 T w4 H4.out.1 (by omega) (by omega)
    go_wp2_with fail
    refine HBN.out.mono ?_
    rintro e w5 ⟨⟨u, rfl, hu⟩, ⟨q, hq, hR5⟩, hO5⟩
    have hub : u.size ≤ 9100 := by omega
    have H5 : Hid (LzwAt B w w5 q) := H4.out.only hO5 hR5
    clear hR5 hO5 H4 HBN hu
    go_wp2_with fail
    refine (HEND.out q u w5 H5.out (by omega)).mono ?_
    rintro e w6 ⟨⟨lm, rfl⟩, b6⟩
    have HB6 : Hid (Below w.heap.size w w6) := b6
    clear b6
    go_wp2_with fail
    exact bodyPost_ret (v := .tuple #[.string u, .int .i64 (b : Int), .bool wide, .int .i64 lm]) (by simp [results, Try.results8, go_sem]) rfl (lzwGot_mk _ _ _ _ rfl hub hb HB6.out)
  have g0 : ((x : Int) == 0) = false := by rw [beq_eq_false_iff_ne]; omega
  by_cases hx1 : x = 1
  · subst hx1
    obtain ⟨L, hL⟩ : ∃ L : Nat, L = T.size + 1 := ⟨_, rfl⟩
    have eL : (T.size : Int) + 1 = (L : Int) := by omega
    have HLL : Hid (L = T.size + 1) := hL
    have hL1 : 1 ≤ L ∧ L ≤ 9001 := by omega
    clear hL
    go_wp2_with fail
    refine (pick_named B 1 _ _ H4.out.1 (by omega) (by omega) (by omega)).mono ?_
    rintro e w5 ⟨k, rfl, hk, hR5, hO5, -⟩
    have H5 : Hid (LzwAt B w w5 (1 + 1)) := H4.out.only hO5 hR5
    have hkT : (k : Int) ≤ (T.size : Int) := by have := HLL.out; omega
    have hkn : k ≤ T.size := by omega
    obtain ⟨u, hu⟩ : ∃ u, u = T.extract 0 k := ⟨_, rfl⟩
    have hub : u.size ≤ 9100 := by rw [hu, ByteArray.size_extract]; omega
    have et : T.extract 0 k = u := hu.symm
    clear hR5 hO5 H4 HLL hk hu
    go_wp2_with fail
    refine (HEND.out (1 + 1) u w5 H5.out (by omega)).mono ?_
    rintro e w6 ⟨⟨lm, rfl⟩, b6⟩
    have HB6 : Hid (Below w.heap.size w w6) := b6
    clear b6
    go_wp2_with fail
    exact bodyPost_ret (v := .tuple #[.string u, .int .i64 (b : Int), .bool wide, .int .i64 lm]) (by simp [results, Try.results8, go_sem]) rfl (lzwGot_mk _ _ _ _ rfl hub hb HB6.out)
  have g1 : ((x : Int) == 1) = false := by rw [beq_eq_false_iff_ne]; omega
  by_cases hx2 : x = 2
  · subst hx2
    have hB4 := H4.out.1.lt
    have H5 : Hid (LzwAt B w (w4.alloc (.cells #[.string ⟨#[]⟩, .string ⟨#[120]⟩] 9)) 1) := H4.out.alloc _
    have HOF : Hid (Calls Try.prog 26 #[.pointer (some ⟨B, 0, none⟩), .slice (some ⟨w4.heap.size, 0, none⟩) 2 2] (w4.alloc (.cells #[.string ⟨#[]⟩, .string ⟨#[120]⟩] 9)) fun e w' => (∃ t : ByteArray, e = .returned (.string t) ∧ t.size ≤ 10) ∧ RdAt w' B (1 + 1) ∧ Only B (w4.alloc (.cells #[.string ⟨#[]⟩, .string ⟨#[120]⟩] 9)) w') := by
      refine of_list B 1 w4.heap.size 2 [⟨#[]⟩, ⟨#[120]⟩] _ H5.out.1 (by omega) hB4 rfl (by omega) (by omega) (fun i hi => ?_) (fun t ht => ?_)
      · rw [World.cell?_alloc_at _ _ _ _ rfl]
        have h2 : i = 0 ∨ i = 1 := by simp at hi; omega
        rcases h2 with rfl | rfl <;> rfl
      · simp at ht
        rcases ht with rfl | rfl <;> decide
    clear H4
    go_wp2_with fail
    refine HOF.out.mono ?_
    rintro e w5 ⟨⟨v, rfl, hv⟩, hR5, hO5⟩
    have H6 : Hid (LzwAt B w w5 (1 + 1)) := H5.out.only hO5 hR5
    clear hR5 hO5 H5 HOF
    obtain ⟨u, hu⟩ : ∃ u, T ++ v = u := ⟨_, rfl⟩
    have hub : u.size ≤ 9100 := by rw [← hu, ByteArray.size_append]; omega
    have hlz : ¬ 9223372036854775807 < T.size + v.size := by omega
    go_wp2_with fail
    refine (HEND.out (1 + 1) u w5 H6.out (by omega)).mono ?_
    rintro e w6 ⟨⟨lm, rfl⟩, b6⟩
    have HB6 : Hid (Below w.heap.size w w6) := b6
    clear b6
    go_wp2_with fail
    exact bodyPost_ret (v := .tuple #[.string u, .int .i64 (b : Int), .bool wide, .int .i64 lm]) (by simp [results, Try.results8, go_sem, hu]) rfl (lzwGot_mk _ _ _ _ rfl hub hb HB6.out)
  have g2 : ((x : Int) == 2) = false := by rw [beq_eq_false_iff_ne]; omega
  by_cases hx3 : x = 3
  · subst hx3
    have HTX : Hid (Calls Try.prog 27 #[.pointer (some ⟨B, 0, none⟩)] w4 fun e w' => (∃ t : ByteArray, e = .returned (.string t) ∧ t.size ≤ 9001 ∧ (t.size ≤ 2400 ∨ 9000 ≤ t.size)) ∧ (∃ q, q ≤ 1 + 100 ∧ RdAt w' B q) ∧ Only B w4 w') := text_two B 1 w4 H4.out.1 (by omega)
    go_wp2_with fail
    refine HTX.out.mono ?_
    rintro e w5 ⟨⟨u, rfl, hu, -⟩, ⟨q, hq, hR5⟩, hO5⟩
    have hub : u.size ≤ 9100 := by omega
    have H5 : Hid (LzwAt B w w5 q) := H4.out.only hO5 hR5
    clear hR5 hO5 H4 HTX
    go_wp2_with fail
    refine (HEND.out q u w5 H5.out (by omega)).mono ?_
    rintro e w6 ⟨⟨lm, rfl⟩, b6⟩
    have HB6 : Hid (Below w.heap.size w w6) := b6
    clear b6
    go_wp2_with fail
    exact bodyPost_ret (v := .tuple #[.string u, .int .i64 (b : Int), .bool wide, .int .i64 lm]) (by simp [results, Try.results8, go_sem]) rfl (lzwGot_mk _ _ _ _ rfl hub hb HB6.out)
  · have g3 : ((x : Int) == 3) = false := by rw [beq_eq_false_iff_ne]; omega
    go_wp2_with fail
    refine (HEND.out 1 T w4 H4.out (by omega)).mono ?_
    rintro e w6 ⟨⟨lm, rfl⟩, b6⟩
    have HB6 : Hid (Below w.heap.size w w6) := b6
    clear b6
    go_wp2_with fail
    exact bodyPost_ret (v := .tuple #[.string T, .int .i64 (b : Int), .bool wide, .int .i64 lm]) (by simp [results, Try.results8, go_sem]) rfl (lzwGot_mk _ _ _ _ rfl (by omega) hb HB6.out)
end Go.Proofs.Ytjfihmpnbblomaa

/- The law on what is read by LZW, walked. -/
namespace Go.Proofs.Ytjfihmpnbblomaa
open Go.RowKit

theorem empty_got : (ByteArray.mk ([] : List UInt8).toArray).toList.isEmpty = true := by decide +kernel
theorem got_get (l : List UInt8) (k : Nat) (h : k < (ByteArray.mk l.toArray).size) : (ByteArray.mk l.toArray)[k] ∈ l := by
  have h' : k < l.length := by simpa [ByteArray.size] using h
  have e : (ByteArray.mk l.toArray)[k] = l[k] := by
    show (l.toArray)[k] = l[k]
    simp
  rw [e]
  exact List.getElem_mem h'

set_option linter.unusedSimpArgs false in
set_option maxHeartbeats 4000000 in
set_option maxRecDepth 20000 in
theorem lawLzwGet (a : Option Addr) (len cap : Nat) (w : World) (h : Code8 w a len cap) :
    Calls Try.prog 3 #[.slice a len cap] w fun e w' => e = .returned (.bool true) ∧ Below w.heap.size w w' := by
  by_cases hbig : 1048576 < len
  · have d0 : decide ((len : Int) > 1048576) = true := by simp; omega
    clear h
    go_enter Try.func3, Try.ntmps3
    go_wp2_with fail
    go_ret
    exact ⟨rfl, Below.refl _ _⟩
  have HDR : Hid (Calls Try.prog 8 #[.slice a len cap] w (LzwGot w)) := drawLzwGet_any a len cap w h
  have d0 : decide ((len : Int) > 1048576) = false := by simp; omega
  clear h
  go_enter Try.func3, Try.ntmps3
  go_wp2_with fail
  refine HDR.out.mono ?_
  rintro e w1 ⟨⟨s, b, wide, lm, rfl, hs, hb⟩, b1⟩
  have B1 : Hid (Below w.heap.size w w1) := b1
  clear b1 HDR
  have HIM : Hid (∀ w', Calls Try.prog 9 #[.string s, .int .i64 (b : Int), .bool wide, .int .i64 lm] w' fun e w'' => e = .returned (.tuple #[.string ⟨(Lz.out (Lz.res s b wide lm)).toArray⟩, .int .i64 (Lz.code (Lz.res s b wide lm))]) ∧ Below w'.heap.size w' w'') := fun w' => impl_lzwGet s b wide lm w' (by omega)
  have HSP : Hid (∀ w', Calls Try.prog 10 #[.string s, .int .i64 (b : Int), .bool wide, .int .i64 lm] w' fun e w'' => e = .returned (.tuple #[.string ⟨(Lz.out (Lz.res s b wide lm)).toArray⟩, .int .i64 (Lz.code (Lz.res s b wide lm))]) ∧ Below w'.heap.size w' w'') := fun w' => spec_lzwGet s b wide lm w' (by omega)
  cases hR : Lz.res s b wide lm with
  | error c =>
    have HCN : Hid (c ≠ 0) := Lz.res_cn hR
    rw [hR] at HIM HSP
    rw [show Lz.out (.error c) = [] from rfl, show Lz.code (.error c) = c from rfl] at HIM HSP
    have hem := empty_got
    have hcb : (c != 0) = true := by rw [bne_iff_ne]; exact HCN.out
    generalize ByteArray.mk ([] : List UInt8).toArray = E at *
    clear hR
    go_wp2_with fail
    refine (HIM.out _).mono ?_
    rintro e w2 ⟨rfl, b2⟩
    have B2 : Hid (Below w.heap.size w w2) := B1.out.trans (b2.mono B1.out.size)
    clear b2 B1
    go_wp2_with fail
    refine (HSP.out _).mono ?_
    rintro e w3 ⟨rfl, b3⟩
    have B3 : Hid (Below w.heap.size w w3) := B2.out.trans (b3.mono B2.out.size)
    clear b3 B2
    go_wp2_with fail
    go_ret
    exact ⟨rfl, B3.out⟩
  | ok dn =>
    obtain ⟨f1, f2, f3, f4⟩ := Lz.res_facts hR
    rw [hR] at HIM HSP
    rw [show Lz.out (.ok dn) = textsOf dn from rfl, show Lz.code (.ok dn) = 0 from rfl] at HIM HSP
    obtain ⟨O, hO⟩ : ∃ O : ByteArray, O = ⟨(textsOf dn).toArray⟩ := ⟨_, rfl⟩
    rw [← hO] at HIM HSP
    have hOs : O.size = (textsOf dn).length := by rw [hO]; simp [ByteArray.size]
    have hOl : (O.size : Int) ≤ lm := by omega
    have hOb : O.size ≤ 5000 := by omega
    have HBY : Hid (∀ k (h : k < O.size), (O[k]).toNat < 2 ^ b) := fun k hk => by subst hO; exact f3 _ (got_get _ k hk)
    have HI2 : Hid (∀ w', Calls Try.prog 9 #[.string s, .int .i64 (b : Int), .bool wide, .int .i64 ((O.size : Int) - 1)] w' fun e w'' => e = .returned (.tuple #[.string ⟨(Lz.out (Lz.res s b wide ((O.size : Int) - 1))).toArray⟩, .int .i64 (Lz.code (Lz.res s b wide ((O.size : Int) - 1)))]) ∧ Below w'.heap.size w' w'') := fun w' => impl_lzwGet s b wide ((O.size : Int) - 1) w' (by omega)
    have HC3 : Hid (O.toList.isEmpty = false → Lz.code (Lz.res s b wide ((O.size : Int) - 1)) = 3) := fun hne => by
      rw [hOs]
      refine f4 (fun e => ?_)
      rw [← Bool.not_eq_true, List.isEmpty_iff] at hne
      exact hne (List.eq_nil_of_length_eq_zero (by rw [toList_len, hOs, e]; rfl))
    generalize hcd : Lz.code (Lz.res s b wide ((O.size : Int) - 1)) = C at *
    generalize hot : ByteArray.mk (Lz.out (Lz.res s b wide ((O.size : Int) - 1))).toArray = O2 at *
    clear hcd hot f1 f2 f3 f4 hO hR hOs
    have HWP : Hid (∀ w', Calls Try.prog 11 #[.int .i64 (b : Int)] w' fun e w'' => e = .returned (.int .i64 ((2 ^ b : Nat) : Int)) ∧ w'' = w') := fun w' => wiPow_any b w' (by omega)
    have hpw : 2 ^ b ≤ 512 := Nat.le_trans (Nat.pow_le_pow_right (by omega) hb) (by decide)
    generalize 2 ^ b = P at *
    have hbe : (O.toList == O.toList) = true := by simp
    go_wp2_with fail
    refine (HIM.out _).mono ?_
    rintro e w2 ⟨rfl, b2⟩
    have B2 : Hid (Below w.heap.size w w2) := B1.out.trans (b2.mono B1.out.size)
    clear b2 B1
    go_wp2_with fail
    refine (HSP.out _).mono ?_
    rintro e w3 ⟨rfl, b3⟩
    have B3 : Hid (Below w.heap.size w w3) := B2.out.trans (b3.mono B2.out.size)
    clear b3 B2 HIM HSP
    go_wp2_with fail
    refine (HI2.out _).mono ?_
    rintro e w4 ⟨rfl, b4⟩
    have B4 : Hid (Below w.heap.size w w4) := B3.out.trans (b4.mono B3.out.size)
    clear b4 B3 HI2
    go_wp2_with fail
    go_loopw [13] (fun i wr => ∃ k : Nat, k ≤ O.size ∧ i = .int .i64 (k : Int) ∧ Hid (Below w.heap.size w wr)) (fun i _ => O.size - (intOf i).toNat)
    case atStart => exact ⟨0, Nat.zero_le _, rfl, B4⟩
    case round =>
      obtain ⟨k, hk, rfl, HB⟩ := hrel
      clear B4
      by_cases hlt : k < O.size
      · obtain ⟨y, hy⟩ : ∃ y, y = (O[k]).toNat := ⟨_, rfl⟩
        have hsy : (O[k]).toNat = y := hy.symm
        have hyP : y < P := by rw [hy]; exact HBY.out k hlt
        have hyb : y < 256 := by rw [hy]; exact UInt8.toNat_lt _
        have hi : (k : Int) < (O.size : Int) := by omega
        have hd : decide ((y : Int) ≥ (P : Int)) = false := decide_eq_false (by omega)
        clear hy HC3
        go_wp2_with fail
        go_quiet ((go_at_call 11; exact Calls.quiet_of_same (HWP.out _)))
        go_wp2_with fail
        go_roundw
        case rel => exact ⟨k + 1, by omega, by go_num, below_drewN HB.out _⟩
        case measure => simp [intOf]; omega
      · cases hE : O.toList.isEmpty with
        | true =>
          clear HC3
          go_wp2_with fail
          go_ret
          exact ⟨rfl, HB.out⟩
        | false =>
          have hC : C = 3 := HC3.out hE
          subst hC
          clear HC3
          go_wp2_with fail
          go_ret
          exact ⟨rfl, HB.out⟩
end Go.Proofs.Ytjfihmpnbblomaa
