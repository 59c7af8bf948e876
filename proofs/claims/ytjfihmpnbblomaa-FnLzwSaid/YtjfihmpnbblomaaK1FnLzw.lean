/- Texts laid together: LzFine, LzAns, LzNew, LzReadB, LzTopB, DrawLzw, DrawLzwPut. -/
import Derived.Test.YtjfihmpnbblomaaLzSmall
import Derived.RangeFuncBox
import Derived.Test.YtjfihmpnbblomaaLzKeep
import Derived.Test.YtjfihmpnbblomaaLzRdr
import Derived.Test.YtjfihmpnbblomaaLzStart
import Derived.Laws.MakeOwn
import Derived.Deep.RegionHeld3
import Derived.Test.YtjfihmpnbblomaaLzWorkB
import Derived.Shelf.Abstract
import Derived.Test.YtjfihmpnbblomaaDrawWalks
import Derived.Test.YtjfihmpnbblomaaOwnText
import Derived.Test.YtjfihmpnbblomaaEachReg
import Derived.Deep.Cut
import Derived.Deep.CutRange
/- What can be read by LZW at all; two new blocks. -/
namespace Go.Proofs.Ytjfihmpnbblomaa
open Go.RowKit

def LzFine (s : ByteArray) (b : Int) (wide : Bool) (limit : Int) : Prop := Lz.ok b wide = true ∧ s.size ≤ 9000 ∧ 0 ≤ limit ∧ limit ≤ 5000
theorem duo1 (w : World) (a b : Obj) : ((w.alloc a).alloc b).heap[w.heap.size + 1]? = some b := by
  have := World.alloc_heap_new (w.alloc a) b; simpa using this
theorem duo0 (w : World) (a b : Obj) : ((w.alloc a).alloc b).heap[w.heap.size]? = some a :=
  (Below.heap_alloc _ _ _ (by simp)).trans (World.alloc_heap_new w a)
end Go.Proofs.Ytjfihmpnbblomaa

/- What is read by LZW: the answers. -/
namespace Go.Proofs.Ytjfihmpnbblomaa
open Go.RowKit

instance (s : ByteArray) (b : Int) (wide : Bool) (limit : Int) : Decidable (LzFine s b wide limit) := by unfold LzFine; infer_instance
/-- all numbers with what they put out, or a code -/
def Lz.res (s : ByteArray) (b : Int) (wide : Bool) (limit : Int) : Except Int (List (Nat × ByteArray)) :=
  if LzFine s b wide limit then Lz.go s b.toNat wide (8 * s.size + 1) 0 (Lz.start b.toNat) ⟨#[]⟩ limit.toNat else .error 1
def Lz.codes (R : Except Int (List (Nat × ByteArray))) : List Int := match R with | .ok dn => codesOf dn | .error _ => []
def Lz.out (R : Except Int (List (Nat × ByteArray))) : List UInt8 := match R with | .ok dn => textsOf dn | .error _ => []
def Lz.code (R : Except Int (List (Nat × ByteArray))) : Int := match R with | .ok _ => 0 | .error c => c

theorem Lz.ok_bd {b : Int} {wide : Bool} (h : Lz.ok b wide = true) : 2 ≤ b ∧ b ≤ 8 := by
  unfold Lz.ok at h
  split at h
  · have := eq_of_beq h; omega
  · simp at h; omega
theorem Lz.res_no {s : ByteArray} {b limit : Int} {wide : Bool} (h : ¬ LzFine s b wide limit) : Lz.res s b wide limit = .error 1 := by unfold Lz.res; rw [if_neg h]
theorem Lz.res_yes {s : ByteArray} {b limit : Nat} {wide : Bool} (h : LzFine s b wide limit) : Lz.res s b wide limit = Lz.go s b wide (8 * s.size + 1) 0 (Lz.start b) ⟨#[]⟩ limit := by unfold Lz.res; rw [if_pos h, Int.toNat_natCast, Int.toNat_natCast]

/-- all that is told of what comes of it -/
theorem Lz.go_len {s : ByteArray} {b : Nat} {wide : Bool} : ∀ {f p : Nat} {l : List ByteArray} {last : ByteArray} {left : Nat} {dn : List (Nat × ByteArray)}, Lz.go s b wide f p l last left = .ok dn → dn.length ≤ f ∧ (textsOf dn).length ≤ left
  | 0, p, l, last, left, dn, h => by unfold Lz.go at h; cases h
  | f + 1, p, l, last, left, dn, h => by
    cases hs : Lz.step s b wide p l last left with
    | error c => rw [Lz.go_err hs] at h; cases h
    | ok r =>
      obtain ⟨v, t, l2, last2, left2⟩ := r
      have hl := Lz.step_left hs
      by_cases hv : v = 2 ^ b + 1
      · rw [Lz.go_end hs hv] at h
        cases h
        have : textsOf [(v, t)] = t.data.toList := by simp [textsOf]
        rw [this]
        exact ⟨by simp, by show t.size ≤ _; omega⟩
      · rw [Lz.go_on hs hv] at h
        cases hg : Lz.go s b wide f (p + Lz.width b wide l.length) l2 last2 left2 with
        | error c => rw [hg] at h; cases h
        | ok dn' =>
          rw [hg] at h
          have ih := Lz.go_len hg
          have e : dn = (v, t) :: dn' := by cases h; rfl
          subst e
          have e2 : textsOf ((v, t) :: dn') = t.data.toList ++ textsOf dn' := by simp [textsOf]
          have e3 : t.data.toList.length = t.size := rfl
          rw [e2, List.length_append, e3, List.length_cons]
          omega
theorem Lz.res_len {s : ByteArray} {b limit : Int} {wide : Bool} {dn : List (Nat × ByteArray)} (h : Lz.res s b wide limit = .ok dn) : dn.length ≤ 72001 ∧ (textsOf dn).length ≤ 5000 ∧ ((textsOf dn).length : Int) ≤ limit := by
  unfold Lz.res at h
  split at h
  · rename_i hf
    obtain ⟨h1, h2, h3, h4⟩ := hf
    have := Lz.go_len h
    omega
  · cases h
theorem Lz.codes_len (s : ByteArray) (b limit : Int) (wide : Bool) : (Lz.codes (Lz.res s b wide limit)).length ≤ 72001 := by
  cases h : Lz.res s b wide limit with
  | error c => show 0 ≤ _; omega
  | ok dn => show (codesOf dn).length ≤ _; rw [codesOf_len]; exact (Lz.res_len h).1
theorem Lz.out_len (s : ByteArray) (b limit : Int) (wide : Bool) : (Lz.out (Lz.res s b wide limit)).length ≤ 5000 := by
  cases h : Lz.res s b wide limit with
  | error c => show 0 ≤ _; omega
  | ok dn => exact (Lz.res_len h).2.1
end Go.Proofs.Ytjfihmpnbblomaa

/- A new reader of LZW, of the program. -/
namespace Go.Proofs.Ytjfihmpnbblomaa
open Go.RowKit

/-- the first k are there, the others are nothing yet -/
def Lz.part (n k : Nat) : List ByteArray := Lz.ones k ++ List.replicate (n - k) ⟨#[]⟩
theorem Lz.ones_len (k : Nat) : (Lz.ones k).length = k := by simp [Lz.ones]
theorem Lz.part_set (n k : Nat) (h : k < n) : (Lz.part n k).set k (Lz.one k) = Lz.part n (k + 1) := by
  unfold Lz.part
  rw [Lz.ones_snoc, show n - k = (n - (k + 1)) + 1 by omega, List.replicate_succ, List.append_assoc, List.set_append_right _ _ (by rw [Lz.ones_len]; omega), Lz.ones_len, Nat.sub_self]
  rfl
theorem Lz.part_start (b : Nat) : Lz.part (2 ^ b + 2) (2 ^ b) = Lz.start b := by
  unfold Lz.part
  rw [Nat.add_sub_cancel_left]
  rfl
theorem txtsV_set (l : List ByteArray) (j : Nat) (x : ByteArray) : (txtsV l).set j (.string x) = txtsV (l.set j x) := by simp [txtsV, List.map_set]
theorem txtsV_rep (n : Nat) : txtsV (List.replicate n ⟨#[]⟩) = List.replicate n (.string ⟨#[]⟩) := by simp [txtsV]

theorem make_txts (n : Nat) (hl : n ≤ 2000000) (w : World) :
    (Instr.makeSlice 43 (.int .i64 (n : Int)) (.int .i64 (n : Int))).run Try.prog w = .ok (.slice (some ⟨w.heap.size, 0, none⟩) n n) (w.alloc (.cells (madeCells #[.string ⟨#[]⟩] n) 9)) := by
  obtain ⟨i0, hi, hz0, hz1, hz2⟩ := info_parts info_string
  have h := run_make (P := Try.prog) w 43 9 i0 (.string ⟨#[]⟩) Try.underlying43 hi hz0 .i64 .i64 (n : Int) (n : Int) (by omega) (by omega) (by rw [hz2]; omega) (by omega)
  rw [h, Int.toNat_natCast, hz1, Nat.mul_one]
  rfl
theorem own_txts (w : World) (n : Nat) (hl : n ≤ 2000000) : OwnL (w.alloc (.cells (madeCells #[.string ⟨#[]⟩] n) 9)) w.heap.size (.slice (some ⟨w.heap.size, 0, none⟩) n n) n (Lz.part n 0) := by
  unfold OwnL
  have e : txtsV (Lz.part n 0) = (madeCells #[Value.string ⟨#[]⟩] n).toList := by
    rw [toList_madeCells_one]
    exact txtsV_rep n
  rw [e]
  exact World.ownsRow_lit w _ n (Nat.le_refl _) (by unfold maxLen; omega) (by rw [size_madeCells, Nat.mul_one])

theorem alloc_cell (w : World) (o : Obj) (p : Addr) (h : p.block < w.heap.size) : (w.alloc o).cell? p = w.cell? p := ((Below.refl w.heap.size w).alloc (Nat.le_refl _) o).cell h

theorem lzOrderOf_any (hi : Bool) (w : World) : Calls Try.prog 61 #[.bool hi] w fun e w' => e = .returned (ordV hi) ∧ w' = w := by
  cases hi
  · exact orderOf_low w
  · exact orderOf_high w

theorem lzr_new (w : World) (b : Nat) (wide : Bool) (s : ByteArray) (tv : Value) (limit : Nat) : LzR (w.alloc (.cells #[.int .i64 (b : Int), .bool wide, ordV wide, .string s, .int .i64 0, tv, .string ⟨#[]⟩, .int .i64 (limit : Int)] 89)) w.heap.size b wide s 0 tv ⟨#[]⟩ limit := by
  have hc : ∀ i, (w.alloc (.cells #[.int .i64 (b : Int), .bool wide, ordV wide, .string s, .int .i64 0, tv, .string ⟨#[]⟩, .int .i64 (limit : Int)] 89)).cell? ⟨w.heap.size, i, none⟩ = (#[.int .i64 (b : Int), .bool wide, ordV wide, .string s, .int .i64 0, tv, .string ⟨#[]⟩, .int .i64 (limit : Int)] : Array Value)[i]? := fun i => World.cell?_alloc_at _ _ _ _ rfl
  have hf : ∀ i, (w.alloc (.cells #[.int .i64 (b : Int), .bool wide, ordV wide, .string s, .int .i64 0, tv, .string ⟨#[]⟩, .int .i64 (limit : Int)] 89)).frozen? ⟨w.heap.size, i, none⟩ = false := fun i => World.frozen?_alloc_at _ _ _ _ rfl
  exact ⟨hc 0, hc 1, ⟨hc 2, hc 3, hc 4, hf 4⟩, hc 5, hc 6, hc 7, hf 5, hf 6, hf 7⟩

/-- what comes of it -/
def LzNew (w : World) (b : Nat) (wide : Bool) (s : ByteArray) (limit : Nat) (e : Ending) (w' : World) : Prop :=
  ∃ B g, e = .returned (.pointer (some ⟨B, 0, none⟩)) ∧ LzR w' B b wide s 0 (.slice (some ⟨g, 0, none⟩) (2 ^ b + 2) (2 ^ b + 2)) ⟨#[]⟩ limit ∧ OwnL w' w.heap.size (.slice (some ⟨g, 0, none⟩) (2 ^ b + 2) (2 ^ b + 2)) (2 ^ b + 2) (Lz.start b) ∧ Below w.heap.size w w' ∧ w.heap.size ≤ B ∧ w.heap.size ≤ g ∧ g ≠ B

set_option maxHeartbeats 2000000 in
theorem lzNew_any (b limit : Nat) (wide : Bool) (s : ByteArray) (hb : b ≤ 8) (w : World) :
    Calls Try.prog 50 #[.string s, .agg #[.int .i64 (b : Int), .bool wide], .int .i64 (limit : Int)] w (LzNew w b wide s limit) := by
  have HFI : Hid (∀ w', Calls Try.prog 58 #[.agg #[.int .i64 (b : Int), .bool wide]] w' fun e w'' => e = .returned (.int .i64 ((2 ^ b + 2 : Nat) : Int)) ∧ Below w'.heap.size w' w'') := fun w' => lzFirst_any b hb wide w'
  have HCL : Hid (∀ w', Calls Try.prog 57 #[.agg #[.int .i64 (b : Int), .bool wide]] w' fun e w'' => e = .returned (.int .i64 ((2 ^ b : Nat) : Int)) ∧ Below w'.heap.size w' w'') := fun w' => lzClear_any b hb wide w'
  have hp := Lz.pow_le hb
  have HPS : Hid (Lz.part (2 ^ b + 2) (2 ^ b) = Lz.start b) := Lz.part_start b
  have HQ : Hid (∀ B g e w', e = .returned (.pointer (some ⟨B, 0, none⟩)) → LzR w' B b wide s 0 (.slice (some ⟨g, 0, none⟩) (2 ^ b + 2) (2 ^ b + 2)) ⟨#[]⟩ limit → OwnL w' w.heap.size (.slice (some ⟨g, 0, none⟩) (2 ^ b + 2) (2 ^ b + 2)) (2 ^ b + 2) (Lz.start b) → Below w.heap.size w w' → w.heap.size ≤ B → w.heap.size ≤ g → g ≠ B → LzNew w b wide s limit e w') := fun B g e w' h1 h2 h3 h4 h5 h6 h7 => ⟨B, g, h1, h2, h3, h4, h5, h6, h7⟩
  generalize hS : Lz.start b = S at *
  clear hS
  obtain ⟨n, hn⟩ : ∃ n : Nat, n = 2 ^ b + 2 := ⟨_, rfl⟩
  rw [← hn] at HFI HPS HQ
  obtain ⟨P, hP⟩ : ∃ P : Nat, P = 2 ^ b := ⟨_, rfl⟩
  rw [← hP] at HCL HPS hp
  have hPn : n = P + 2 := by omega
  have hPn' : P + 1 < n := by omega
  have hnb : n ≤ 258 := by omega
  clear hn hP hPn
  have B0 : Hid (Below w.heap.size w (w.alloc (.cells #[.int .i64 (b : Int), .bool wide] 50))) := (Below.refl _ _).alloc (Nat.le_refl _) _
  go_enter Try.func50, Try.ntmps50
  go_wp2_with fail
  refine (HFI.out _).mono ?_
  rintro e w1 ⟨rfl, b1⟩
  have hz1 : w.heap.size < w1.heap.size := by have := b1.size; simp at this; omega
  obtain ⟨hc1, -⟩ : (∀ o, w1.cell? ⟨w.heap.size, o, none⟩ = (w.alloc (.cells #[.int .i64 (b : Int), .bool wide] 50)).cell? ⟨w.heap.size, o, none⟩) ∧ True := ⟨fun o => b1.cell (p := ⟨w.heap.size, o, none⟩) (by simp), trivial⟩
  have c10 : w1.cell? ⟨w.heap.size, 0, none⟩ = some (.int .i64 (b : Int)) := by rw [hc1]; simp
  have c11 : w1.cell? ⟨w.heap.size, 1, none⟩ = some (.bool wide) := by rw [hc1]; simp
  have B1 : Hid (Below w.heap.size w w1) := B0.out.trans (b1.mono (by simp))
  have hmk := make_txts n (by omega) w1
  clear b1 hc1 B0 HFI
  go_wp2_with fail
  refine (HCL.out _).mono ?_
  rintro e w2 ⟨rfl, b2⟩
  have hz2 : w1.heap.size < w2.heap.size := by have := b2.size; simp at this; omega
  have c20 : w2.cell? ⟨w.heap.size, 0, none⟩ = some (.int .i64 (b : Int)) := by rw [b2.cell (p := ⟨w.heap.size, 0, none⟩) (by simp; omega), alloc_cell _ _ _ hz1]; exact c10
  have c21 : w2.cell? ⟨w.heap.size, 1, none⟩ = some (.bool wide) := by rw [b2.cell (p := ⟨w.heap.size, 1, none⟩) (by simp; omega), alloc_cell _ _ _ hz1]; exact c11
  have B2 : Hid (Below w.heap.size w w2) := (B1.out.alloc B1.out.size _).trans (b2.mono (by have := B1.out.size; simp; omega))
  have O2 : Hid (OwnL w2 w1.heap.size (.slice (some ⟨w1.heap.size, 0, none⟩) n n) n (Lz.part n 0)) := (own_txts w1 n (by omega)).kept (fun k hk => by
    have e : k = w1.heap.size := by cases hk; rfl
    subst e
    exact b2.block _ (by simp))
  clear b2 B1 c10 c11 hmk HCL
  generalize w1.heap.size = g at *
  go_wp2_with fail
  go_loopw [14] (fun i wr => ∃ k : Nat, k ≤ P ∧ i = .int .i64 (k : Int) ∧ OwnL wr g (.slice (some ⟨g, 0, none⟩) n n) n (Lz.part n k) ∧ Below w.heap.size w wr ∧ wr.cell? ⟨w.heap.size, 0, none⟩ = some (.int .i64 (b : Int)) ∧ wr.cell? ⟨w.heap.size, 1, none⟩ = some (.bool wide)) (fun i _ => P - (intOf i).toNat)
  case atStart => exact ⟨0, Nat.zero_le _, rfl, O2.out, B2.out, c20, c21⟩
  case round =>
    obtain ⟨k, hk, rfl, ho, hbel, d0, d1⟩ := hrel
    clear O2 B2 c20 c21
    have HO : Hid (OwnL wr g (.slice (some ⟨g, 0, none⟩) n n) n (Lz.part n k)) := ho
    have HB : Hid (Below w.heap.size w wr) := hbel
    have hgr := (ho.lt g rfl).2
    by_cases hlt : k < P
    · have hu := wrap_u8_small k (by omega)
      have htx : Sem.run Try.prog (convert 22 9 (.slice (some ⟨wr.heap.size, 0, none⟩) 1 1)) (wr.alloc (.cells #[.int .u8 (k : Int)] 5)) = .ok (.string (Lz.one k)) (wr.alloc (.cells #[.int .u8 (k : Int)] 5)) := run_text1 wr k wr.heap.size rfl
      have hkl : k < (Lz.part n k).length := by rw [ho.len]; omega
      have hck := ho.cell k hkl
      have hfk : wr.frozen? ⟨g, k, none⟩ = false := World.ownsRow.frozenAt ho k
      generalize hx : (Lz.part n k)[k] = x at *
      clear hx ho hbel
      have hgk : (k : Int) < (n : Int) := by omega
      obtain ⟨W2, hW2⟩ : ∃ W2, W2 = (wr.alloc (.cells #[.int .u8 (k : Int)] 5)).setCell ⟨g, k, none⟩ (.string (Lz.one k)) := ⟨_, rfl⟩
      have hst := (World.ownsRow.stored (HO.out.alloc (.cells #[.int .u8 (k : Int)] 5)) k (.string (Lz.one k))).1
      rw [txtsV_set, Lz.part_set n k (by omega), ← hW2] at hst
      have HO2 : Hid (OwnL W2 g (.slice (some ⟨g, 0, none⟩) n n) n (Lz.part n (k + 1))) := hst
      have HB2 : Hid (Below w.heap.size w W2) := by show Below _ _ _; rw [hW2]; exact (HB.out.alloc HB.out.size _).setCell (by show w.heap.size ≤ g; omega) _
      have e0 : W2.cell? ⟨w.heap.size, 0, none⟩ = some (.int .i64 (b : Int)) := by
        rw [hW2, World.cell?_setCell_other _ _ _ _ (fun e => by have := congrArg Addr.block e; simp at this; omega), alloc_cell _ _ _ (by show w.heap.size < _; omega)]; exact d0
      have e1 : W2.cell? ⟨w.heap.size, 1, none⟩ = some (.bool wide) := by
        rw [hW2, World.cell?_setCell_other _ _ _ _ (fun e => by have := congrArg Addr.block e; simp at this; omega), alloc_cell _ _ _ (by show w.heap.size < _; omega)]; exact d1
      have HE : Hid (W2.cell? ⟨w.heap.size, 0, none⟩ = some (.int .i64 (b : Int)) ∧ W2.cell? ⟨w.heap.size, 1, none⟩ = some (.bool wide)) := ⟨e0, e1⟩
      have HW2 : Hid (W2 = (wr.alloc (.cells #[.int .u8 (k : Int)] 5)).setCell ⟨g, k, none⟩ (.string (Lz.one k))) := hW2
      clear hst e0 e1 hW2 d0 d1 HPS HQ
      go_wp2_with fail
      go_roundw
      case rel =>
        refine ⟨k + 1, by omega, by go_num, ?_⟩
        rw [← World.setCell_alloc_past _ _ _ _ hgr, ← HW2.out]
        exact ⟨HO2.out, HB2.out, HE.out.1, HE.out.2⟩
      case measure => simp [intOf]; omega
    · have e : P = k := by omega
      subst e
      have HO2 : Hid (OwnL wr w.heap.size (.slice (some ⟨g, 0, none⟩) n n) n S) := by
        show OwnL _ _ _ _ _
        rw [← HPS.out]; exact ho.down (by omega)
      have HOR : Hid (∀ w', Calls Try.prog 61 #[.bool wide] w' fun e w'' => e = .returned (ordV wide) ∧ w'' = w') := fun w' => lzOrderOf_any wide w'
      have hgw : g ≠ wr.heap.size := by omega
      clear ho hbel HO HPS
      obtain ⟨ov, hov⟩ : ∃ f, ordV wide = .func (.func f) #[] #[] := by cases wide <;> exact ⟨_, rfl⟩
      have HOV : Hid (ordV wide = .func (.func ov) #[] #[]) := hov
      rw [hov] at HOR
      clear hov
      go_wp2_with fail
      go_region_held3 (fun w' => w'.cell? ⟨w.heap.size, 0, none⟩ = some (.int .i64 (b : Int)) ∧ w'.cell? ⟨w.heap.size, 1, none⟩ = some (.bool wide)) (go_keep) ((go_at_call 61; refine (HOR.out _).mono ?_; rintro e w3 ⟨rfl, hw3⟩; subst hw3))
      all_goals go_wp2_with fail
      all_goals go_ret
      all_goals
        refine HQ.out wr.heap.size g _ _ rfl ?_ ((HO2.out.alloc _).drew) ((HB.out.alloc HB.out.size _).drew) HB.out.size (by omega) hgw
        rw [← HOV.out]
        exact (lzr_new wr b wide s _ limit).drew
end Go.Proofs.Ytjfihmpnbblomaa

/- lzwRead[byte] of the program. -/
namespace Go.Proofs.Ytjfihmpnbblomaa
open Go.RowKit Go.Shelf

theorem KpB.down {w : World} {base base' : Nat} {kv : Value} {dn : List (Nat × ByteArray)} (h : KpB w base kv dn) (hb : base' ≤ base) : KpB w base' kv dn := by
  refine ⟨h.1, ?_⟩
  rcases h.2 with h0 | ⟨g, cap, cur, rfl, hgB, r⟩
  · exact .inl h0
  · exact .inr ⟨g, cap, cur, rfl, Nat.le_trans hb hgB, r⟩
def LzYesB (w : World) (Rs : Except Int (List (Nat × ByteArray))) (KB : Nat) (w' : World) : Prop := ∃ dn kv, Rs = .ok dn ∧ Boxed w' KB 22 kv ∧ KpB w' (KB + 2) kv dn ∧ Below w.heap.size w w'
def LzNoB (w : World) (Rs : Except Int (List (Nat × ByteArray))) (c : Int) (w' : World) : Prop := c ≠ 0 ∧ Rs = .error c ∧ Below w.heap.size w w'
/-- what lzwRead answers -/
def LzRdB (w : World) (Rs : Except Int (List (Nat × ByteArray))) (e : Ending) (w' : World) : Prop :=
  (∃ dn ao n cap, Rs = .ok dn ∧ e = .returned (.tuple #[.slice ao n cap, .int .i64 0]) ∧ KpB w' w.heap.size (.slice ao n cap) dn ∧ Below w.heap.size w w') ∨ ∃ c, c ≠ 0 ∧ Rs = .error c ∧ e = .returned (.tuple #[.slice none 0 0, .int .i64 c]) ∧ Below w.heap.size w w'

set_option maxHeartbeats 1000000 in
theorem lzReadB_no (s : ByteArray) (b limit : Int) (wide : Bool) (w : World) (hs : s.size ≤ 3000000) (hno : ¬ LzFine s b wide limit) :
    Calls Try.prog 30 #[.string s, .agg #[.int .i64 b, .bool wide], .int .i64 limit, .func (.func 29) #[] #[]] w fun e w' => e = .returned (.tuple #[.slice none 0 0, .int .i64 1]) ∧ Below w.heap.size w w' := by
  have HOK : Hid (∀ w', Calls Try.prog 36 #[.agg #[.int .i64 b, .bool wide]] w' fun e w'' => e = .returned (.bool (Lz.ok b wide)) ∧ Below w'.heap.size w' w'') := fun w' => lzOk_any b wide w'
  have HB0 : Hid (Below w.heap.size w ((w.alloc (.cells #[.int .i64 b, .bool wide] 50)).alloc (.cells #[.func (.func 29) #[] #[]] 46))) := ((Below.refl _ _).alloc (Nat.le_refl _) _).alloc (by simp) _
  have hz0 : w.heap.size ≤ ((w.alloc (.cells #[.int .i64 b, .bool wide] 50)).alloc (.cells #[.func (.func 29) #[] #[]] 46)).heap.size := by simp; omega
  unfold LzFine at hno
  generalize hk : Lz.ok b wide = k at *
  clear hk
  cases k with
  | false =>
    clear hno
    go_enter Try.func30, Try.ntmps30
    go_wp2_with fail
    refine (HOK.out _).mono ?_
    rintro e w1 ⟨rfl, b1⟩
    have HB1 : Hid (Below w.heap.size w w1) := HB0.out.trans (b1.mono hz0)
    clear b1 HB0 hz0 HOK
    go_wp2_with fail
    exact bodyPost_ret (v := .tuple #[.slice none 0 0, .int .i64 1]) (by simp [results, Try.results30, go_sem]) rfl ⟨rfl, HB1.out⟩
  | true =>
    by_cases h1 : 9000 < s.size
    · have d1 : decide ((s.size : Int) > 9000) = true := decide_eq_true (by omega)
      clear hno
      go_enter Try.func30, Try.ntmps30
      go_wp2_with fail
      refine (HOK.out _).mono ?_
      rintro e w1 ⟨rfl, b1⟩
      have HB1 : Hid (Below w.heap.size w w1) := HB0.out.trans (b1.mono hz0)
      clear b1 HB0 hz0 HOK
      go_wp2_with fail
      exact bodyPost_ret (v := .tuple #[.slice none 0 0, .int .i64 1]) (by simp [results, Try.results30, go_sem]) rfl ⟨rfl, HB1.out⟩
    · have d1 : decide ((s.size : Int) > 9000) = false := decide_eq_false (by omega)
      by_cases h2 : limit < 0
      · have d2 : decide (limit < 0) = true := decide_eq_true h2
        clear hno
        go_enter Try.func30, Try.ntmps30
        go_wp2_with fail
        refine (HOK.out _).mono ?_
        rintro e w1 ⟨rfl, b1⟩
        have HB1 : Hid (Below w.heap.size w w1) := HB0.out.trans (b1.mono hz0)
        clear b1 HB0 hz0 HOK
        go_wp2_with fail
        exact bodyPost_ret (v := .tuple #[.slice none 0 0, .int .i64 1]) (by simp [results, Try.results30, go_sem]) rfl ⟨rfl, HB1.out⟩
      · have d2 : decide (limit < 0) = false := decide_eq_false h2
        have h3 : limit > 5000 := by
          have : ¬ (0 ≤ limit ∧ limit ≤ 5000) := fun h => hno ⟨rfl, by omega, h.1, h.2⟩
          omega
        have d3 : decide (limit > 5000) = true := decide_eq_true h3
        clear hno
        go_enter Try.func30, Try.ntmps30
        go_wp2_with fail
        refine (HOK.out _).mono ?_
        rintro e w1 ⟨rfl, b1⟩
        have HB1 : Hid (Below w.heap.size w w1) := HB0.out.trans (b1.mono hz0)
        clear b1 HB0 hz0 HOK
        go_wp2_with fail
        exact bodyPost_ret (v := .tuple #[.slice none 0 0, .int .i64 1]) (by simp [results, Try.results30, go_sem]) rfl ⟨rfl, HB1.out⟩

set_option maxHeartbeats 2000000 in
set_option maxRecDepth 20000 in
theorem lzReadB_yes (s : ByteArray) (b limit : Nat) (wide : Bool) (Rs : Except Int (List (Nat × ByteArray))) (w : World) (hf : LzFine s b wide limit) (hRs : Rs = Lz.go s b wide (8 * s.size + 1) 0 (Lz.start b) ⟨#[]⟩ limit) :
    Calls Try.prog 30 #[.string s, .agg #[.int .i64 (b : Int), .bool wide], .int .i64 (limit : Int), .func (.func 29) #[] #[]] w (LzRdB w Rs) := by
  obtain ⟨hok, hsz, -, hlim⟩ := hf
  have hb : b ≤ 8 := by
    unfold Lz.ok at hok
    split at hok
    · have := eq_of_beq hok; omega
    · simp at hok; omega
  have HOK : Hid (∀ w', Calls Try.prog 36 #[.agg #[.int .i64 (b : Int), .bool wide]] w' fun e w'' => e = .returned (.bool true) ∧ Below w'.heap.size w' w'') := fun w' => by rw [← hok]; exact lzOk_any b wide w'
  have HNW : Hid (∀ w', Calls Try.prog 50 #[.string s, .agg #[.int .i64 (b : Int), .bool wide], .int .i64 (limit : Int)] w' (LzNew w' b wide s limit)) := fun w' => lzNew_any b limit wide s hb w'
  obtain ⟨W0, hW0⟩ : ∃ W0, W0 = (w.alloc (.cells #[.int .i64 (b : Int), .bool wide] 50)).alloc (.cells #[.func (.func 29) #[] #[]] 46) := ⟨_, rfl⟩
  have HB0 : Hid (Below w.heap.size w W0) := by show Below _ _ _; rw [hW0]; exact ((Below.refl _ _).alloc (Nat.le_refl _) _).alloc (by simp) _
  have hz0 : W0.heap.size = w.heap.size + 2 := by rw [hW0]; simp
  have HFB : Hid (Boxed W0 (w.heap.size + 1) 46 (.func (.func 29) #[] #[])) := by
    show Boxed _ _ _ _
    rw [hW0]
    exact duo1 ..
  have HCW : Hid (W0.cell? ⟨w.heap.size, 0, none⟩ = some (.int .i64 (b : Int)) ∧ W0.cell? ⟨w.heap.size, 1, none⟩ = some (.bool wide)) := by
    show _ ∧ _
    rw [hW0]
    exact ⟨(alloc_cell _ _ ⟨w.heap.size, 0, none⟩ (by simp)).trans (by simp), (alloc_cell _ _ ⟨w.heap.size, 1, none⟩ (by simp)).trans (by simp)⟩
  have HW0 : Hid (W0 = (w.alloc (.cells #[.int .i64 (b : Int), .bool wide] 50)).alloc (.cells #[.func (.func 29) #[] #[]] 46)) := hW0
  clear hW0
  have d1 : decide ((s.size : Int) > 9000) = false := decide_eq_false (by omega)
  have d2 : decide ((limit : Int) < 0) = false := decide_eq_false (by omega)
  have d3 : decide ((limit : Int) > 5000) = false := decide_eq_false (by omega)
  have hmf : ∀ (fn : Fn) (first cap : Array Value) (w : World), (Instr.makeFunc fn first cap).run Try.prog w = .ok (.func fn first cap) w := fun _ _ _ _ => rfl
  have HRS : Hid (Rs = Lz.go s b wide (8 * s.size + 1) 0 (Lz.start b) ⟨#[]⟩ limit) := hRs
  clear hRs hok
  go_enter Try.func30, Try.ntmps30
  go_wp2_with fail
  refine (HOK.out _).mono ?_
  rintro e w1 ⟨rfl, b1⟩
  rw [← HW0.out] at b1
  have HB1 : Hid (Below w.heap.size w w1) := HB0.out.trans (b1.mono (by omega))
  have hz1 : w.heap.size + 2 ≤ w1.heap.size := by have := b1.size; omega
  have HFB1 : Hid (Boxed w1 (w.heap.size + 1) 46 (.func (.func 29) #[] #[])) := (b1.block _ (by omega)).trans HFB.out
  have c10 : w1.cell? ⟨w.heap.size, 0, none⟩ = some (.int .i64 (b : Int)) := (b1.cell (p := ⟨w.heap.size, 0, none⟩) (by show w.heap.size < _; omega)).trans HCW.out.1
  have c11 : w1.cell? ⟨w.heap.size, 1, none⟩ = some (.bool wide) := (b1.cell (p := ⟨w.heap.size, 1, none⟩) (by show w.heap.size < _; omega)).trans HCW.out.2
  clear b1 HB0 HFB HCW HOK HW0 hz0
  go_wp2_with fail
  refine (HNW.out _).mono ?_
  rintro e w2 ⟨B, g, rfl, hl2, ho2, b2, hB2, hg2, hgB⟩
  have HB2 : Hid (Below w.heap.size w w2) := HB1.out.trans (b2.mono (by omega))
  have HFB2 : Hid (Boxed w2 (w.heap.size + 1) 46 (.func (.func 29) #[] #[])) := (b2.block _ (by omega)).trans HFB1.out
  have HL2 : Hid (LzR w2 B b wide s 0 (.slice (some ⟨g, 0, none⟩) (2 ^ b + 2) (2 ^ b + 2)) ⟨#[]⟩ limit ∧ OwnL w2 w1.heap.size (.slice (some ⟨g, 0, none⟩) (2 ^ b + 2) (2 ^ b + 2)) (2 ^ b + 2) (Lz.start b)) := ⟨hl2, ho2⟩
  have hBw := hl2.lt
  have hgw := (ho2.lt g rfl).2
  have hz2 := b2.size
  clear hl2 ho2 b2 HB1 HFB1 c10 c11 HNW
  obtain ⟨W4, hW4⟩ : ∃ W4, W4 = (w2.alloc (.cells #[.pointer (some ⟨B, 0, none⟩)] 79)).alloc (.cells #[.slice none 0 0] 22) := ⟨_, rfl⟩
  have hs4 : W4.heap.size = w2.heap.size + 2 := by rw [hW4]; simp
  have HB24 : Hid (Below w2.heap.size w2 W4) := by show Below _ _ _; rw [hW4]; exact ((Below.refl _ _).alloc (Nat.le_refl _) _).alloc (by simp) _
  have HX : Hid (Boxed W4 w2.heap.size 79 (.pointer (some ⟨B, 0, none⟩)) ∧ Boxed W4 (w2.heap.size + 1) 22 (.slice none 0 0)) := by
    show Boxed _ _ _ _ ∧ Boxed _ _ _ _
    rw [hW4]
    exact ⟨duo0 .., duo1 ..⟩
  have HWK : Hid (Calls Try.prog 52 #[.pointer (some ⟨w2.heap.size, 0, none⟩), .pointer (some ⟨w.heap.size + 1, 0, none⟩), .pointer (some ⟨w2.heap.size + 1, 0, none⟩)] (W4.alloc (.cells #[.int .i64 0] 3)) fun e w' => Boxed w' W4.heap.size 3 (.int .i64 0) ∧ ((∃ v, e = .returned v) ∧ LzYesB w Rs (w2.heap.size + 1) w' ∨ ∃ c, e = fault c ∧ LzNoB w Rs c w')) := by
    obtain ⟨x1, x2⟩ := HX.out
    have ba : Below W4.heap.size W4 (W4.alloc (.cells #[.int .i64 0] 3)) := (Below.refl _ _).alloc (Nat.le_refl _) _
    have b24 : Below w2.heap.size w2 (W4.alloc (.cells #[.int .i64 0] 3)) := HB24.out.trans (ba.mono (by omega))
    have hsa : (W4.alloc (.cells #[.int .i64 0] 3)).heap.size = w2.heap.size + 3 := by rw [World.size_alloc, hs4]
    refine (lzWorkB w2.heap.size (w.heap.size + 1) (w2.heap.size + 1) B b w1.heap.size g (2 ^ b + 2) (2 ^ b + 2) limit wide s Rs _ ((ba.block _ (by omega)).trans x1) ((b24.block _ (by omega)).trans HFB2.out) ((ba.block _ (by omega)).trans x2) (HL2.out.1.kept b24) (HL2.out.2.up b24) hb hsz (by omega) HRS.out (by omega) (by omega) (by omega) (by omega) (by omega) (by omega) hgB (by omega) (by omega) (by omega)).mono ?_
    intro e w' hwk
    have hfr : LzF B (w2.heap.size + 1) g (W4.alloc (.cells #[.int .i64 0] 3)) w' := by
      rcases hwk with ⟨-, dn, -, kv, -, -, h⟩ | ⟨c, -, -, -, h⟩ <;> exact h
    have hbel : Below w.heap.size w w' := by
      have h1 : Below w.heap.size w (W4.alloc (.cells #[.int .i64 0] 3)) := HB2.out.trans (b24.mono (by omega))
      exact ⟨hfr.os.trans h1.os, hfr.tape.trans h1.tape, hfr.output.trans h1.output, Nat.le_trans h1.size hfr.size, fun k hk => (hfr.block k (by omega) (by omega) (by omega) (by omega)).trans (h1.block k hk)⟩
    refine ⟨hfr.box (Boxed.new W4 3 (.int .i64 0)) (by omega) (by omega) (by omega), ?_⟩
    rcases hwk with ⟨hv, dn, hR, kv, hbx, hkp, -⟩ | ⟨c, he, hc, hR, -⟩
    · exact .inl ⟨hv, dn, kv, hR, hbx, hkp.down (by omega), hbel⟩
    · exact .inr ⟨c, he, hc, hR, hbel⟩
  have HFI : Hid (Calls Try.prog 51 #[.func (.func 52) #[] #[.pointer (some ⟨w2.heap.size, 0, none⟩), .pointer (some ⟨w.heap.size + 1, 0, none⟩), .pointer (some ⟨w2.heap.size + 1, 0, none⟩)]] W4 (FaultOut W4 (LzYesB w Rs (w2.heap.size + 1)) (LzNoB w Rs))) :=
    faultIn_any 52 _ (enters_of Try.func52 (by kernel_rfl) rfl) _ _ W4 HWK.out
  clear HWK HX HL2 HFB2 HB24 HRS
  have hW4' : (w2.alloc (.cells #[.pointer (some ⟨B, 0, none⟩)] 79)).alloc (.cells #[.slice none 0 0] 22) = W4 := hW4.symm
  clear hW4
  go_wp2_with fail
  refine HFI.out.mono ?_
  rintro e w7 ⟨w6, hb6, (⟨rfl, ⟨dn, kv, hR, hbx, hkp, g5⟩, ht⟩ | ⟨c, rfl, ⟨hc0, hR, g5⟩, ht⟩)⟩
  · have hb7 : Boxed w7 (w2.heap.size + 1) 22 kv := by rw [ht]; exact (Below.heap_setCell w6 ⟨W4.heap.size, 0, none⟩ _ _ (fun e => by have e2 : w2.heap.size + 1 = W4.heap.size := e; omega)).trans hbx
    have hk7 : KpB w7 w.heap.size kv dn := by
      rw [ht]
      exact (hkp.besides (fun k hk => Below.heap_setCell w6 ⟨W4.heap.size, 0, none⟩ _ k (fun e => by have e2 : k = W4.heap.size := e; have := (hkp.lt k hk).1; omega))).down (by omega)
    obtain ⟨ao, n, cap, rfl⟩ : ∃ ao n cap, kv = .slice ao n cap := by
      rcases hk7.2 with ⟨rfl, _⟩ | ⟨g, cap, cur, rfl, _⟩
      · exact ⟨_, _, _, rfl⟩
      · exact ⟨_, _, _, rfl⟩
    have HF : Hid (LzRdB w Rs (.returned (.tuple #[.slice ao n cap, .int .i64 0])) w7) := .inl ⟨dn, ao, n, cap, hR, rfl, hk7, by rw [ht]; exact g5.setCell (by show w.heap.size ≤ W4.heap.size; omega) _⟩
    have k1 := hb7.cell
    clear hb7 hk7 hR hbx hkp g5 ht hb6 HFI
    go_wp2_with fail
    exact bodyPost_ret (v := .tuple #[.slice ao n cap, .int .i64 0]) (by simp [results, Try.results30, go_sem]) rfl HF.out
  · have HF : Hid (LzRdB w Rs (.returned (.tuple #[.slice none 0 0, .int .i64 c])) w7) := .inr ⟨c, hc0, hR, rfl, by rw [ht]; exact g5.setCell (by show w.heap.size ≤ W4.heap.size; omega) _⟩
    have hcb : (c != 0) = true := by rw [bne_iff_ne]; exact hc0
    clear hR g5 ht hb6 HFI hc0
    go_wp2_with fail
    exact bodyPost_ret (v := .tuple #[.slice none 0 0, .int .i64 c]) (by simp [results, Try.results30, go_sem]) rfl HF.out
end Go.Proofs.Ytjfihmpnbblomaa

/- LzwGet of the program. -/
namespace Go.Proofs.Ytjfihmpnbblomaa
open Go.RowKit

set_option maxHeartbeats 1000000 in
theorem impl_lzwGet (s : ByteArray) (b : Int) (wide : Bool) (limit : Int) (w : World) (hs : s.size ≤ 3000000) :
    Calls Try.prog 9 #[.string s, .int .i64 b, .bool wide, .int .i64 limit] w fun e w' => e = .returned (.tuple #[.string ⟨(Lz.out (Lz.res s b wide limit)).toArray⟩, .int .i64 (Lz.code (Lz.res s b wide limit))]) ∧ Below w.heap.size w w' := by
  by_cases hf : LzFine s b wide limit
  · obtain ⟨B, rfl⟩ := Int.eq_ofNat_of_zero_le (show 0 ≤ b by have := Lz.ok_bd hf.1; omega)
    obtain ⟨M, rfl⟩ := Int.eq_ofNat_of_zero_le (show 0 ≤ limit from hf.2.2.1)
    have HR := fun w => lzReadB_yes s B M wide (Lz.res s B wide M) w hf (Lz.res_yes hf)
    generalize hRs : Lz.res s B wide M = R at *
    clear hRs
    have HRD : Hid (∀ w, Calls Try.prog 30 #[.string s, .agg #[.int .i64 (B : Int), .bool wide], .int .i64 (M : Int), .func (.func 29) #[] #[]] w (LzRdB w R)) := HR
    clear HR hf
    go_enter Try.func9, Try.ntmps9
    go_wp2_with fail
    refine (HRD.out _).mono ?_
    rintro e w1 (⟨dn, ao, n, cap, rfl, rfl, hk, bel⟩ | ⟨c, -, rfl, rfl, bel⟩)
    · have htx := OwnT.text hk
      clear HRD hk
      go_wp2_with fail
      go_ret2
      exact ⟨rfl, bel⟩
    · have htx := text_nilT w1
      go_wp2_with fail
      go_ret2
      exact ⟨rfl, bel⟩
  · have HRD : Hid (∀ w, Calls Try.prog 30 #[.string s, .agg #[.int .i64 b, .bool wide], .int .i64 limit, .func (.func 29) #[] #[]] w fun e w' => e = .returned (.tuple #[.slice none 0 0, .int .i64 1]) ∧ Below w.heap.size w w') := fun w => lzReadB_no s b limit wide w hs hf
    rw [Lz.res_no hf]
    clear hf
    go_enter Try.func9, Try.ntmps9
    go_wp2_with fail
    refine (HRD.out _).mono ?_
    rintro e w1 ⟨rfl, bel⟩
    have htx := text_nilT w1
    go_wp2_with fail
    go_ret2
    exact ⟨rfl, bel⟩
end Go.Proofs.Ytjfihmpnbblomaa

/- A text, bits, and whether it is wide, drawn of a code. -/
namespace Go.Proofs.Ytjfihmpnbblomaa
open Go.RowKit

theorem Only.drewW {B : Nat} {w w' : World} (h : Only B w w') : Only B w w'.drew := ⟨⟨h.below.os, h.below.tape, h.below.output, h.below.size, h.below.block⟩, h.rest⟩

/-- one byte in a block of its own -/
def LayO (v : Value) (w : World) (x : Nat) : Prop := ∃ b : Nat, v = .slice (some ⟨b, 0, none⟩) 1 1 ∧ w.cell? ⟨b, 0, none⟩ = some (.int .u8 (x : Int))
theorem LayO.kept {v : Value} {w w' : World} {x : Nat} (h : LayO v w x) (hb : Below w.heap.size w w') : LayO v w' x := by
  obtain ⟨b, h1, h2⟩ := h
  exact ⟨b, h1, (hb.cell (p := ⟨b, 0, none⟩) (World.block_lt_of_cell? w _ h2)).trans h2⟩
theorem layO_new (w : World) (x : Nat) : LayO (.slice (some ⟨w.heap.size, 0, none⟩) 1 1) (w.alloc (.cells #[.int .u8 (x : Int)] 5)) x := ⟨w.heap.size, rfl, by simp⟩
theorem layO_text {w : World} {b d : Nat} (h : w.cell? ⟨b, 0, none⟩ = some (.int .u8 (d : Int))) : Sem.run Try.prog (convert 22 9 (.slice (some ⟨b, 0, none⟩) 1 1)) w = .ok (.string ⟨#[UInt8.ofNat d]⟩) w := by
  refine run_text w ⟨b, 0, none⟩ 1 [d] ?_
  intro j v hj
  match j, hj with
  | 0, hj => simp at hj; subst hj; simpa [Addr.add] using h

set_option linter.unusedSimpArgs false in
set_option maxHeartbeats 2000000 in
set_option maxRecDepth 20000 in
theorem l14Low_any (B p b : Nat) (w : World) (hr : RdAt w B p) (hp : p ≤ 10000) (hb : b ≤ 8) :
    Calls Try.prog 34 #[.pointer (some ⟨B, 0, none⟩), .int .i64 (b : Int)] w fun e w' => (∃ t : ByteArray, e = .returned (.string t) ∧ t.size ≤ 9001) ∧ (∃ q, q ≤ p + 100 ∧ RdAt w' B q) ∧ Only B w w' := by
  have HTX : Hid (Calls Try.prog 27 #[.pointer (some ⟨B, 0, none⟩)] w fun e w' => (∃ t : ByteArray, e = .returned (.string t) ∧ t.size ≤ 9001 ∧ (t.size ≤ 2400 ∨ 9000 ≤ t.size)) ∧ (∃ q, q ≤ p + 100 ∧ RdAt w' B q) ∧ Only B w w') := text_two B p w hr (by omega)
  have HPW : Hid (∀ w', Calls Try.prog 35 #[.int .i64 (b : Int)] w' fun e w'' => e = .returned (.int .i64 ((2 ^ b : Nat) : Int)) ∧ w'' = w') := fun w' => l1Pow_any b w' (by omega)
  have hpw := Lz.pow_le hb
  have hp1 : 1 ≤ 2 ^ b := Nat.one_le_two_pow
  generalize 2 ^ b = P at *
  clear hr
  go_enter Try.func34, Try.ntmps34
  go_wp2_with fail
  refine HTX.out.mono ?_
  rintro e w1 ⟨⟨s, rfl, hs, -⟩, ⟨q, hq, hR1⟩, hO1⟩
  have HX : Hid (RdAt w1 B q ∧ Only B w w1) := ⟨hR1, hO1⟩
  clear hR1 hO1 HTX
  go_wp2_with fail
  go_loopw [6, 7] (fun tv iv wr => ∃ (k : Nat) (t : ByteArray), k ≤ s.size ∧ iv = .int .i64 (k : Int) ∧ tv = .string t ∧ t.size = k ∧ Hid (RdAt wr B q ∧ Only B w wr)) (fun _ iv _ => s.size - (intOf iv).toNat)
  case atStart => exact ⟨0, ⟨#[]⟩, Nat.zero_le _, rfl, rfl, rfl, HX⟩
  case round =>
    obtain ⟨k, t, hk, rfl, rfl, htk, HR⟩ := hrel
    clear HX
    have HTK : Hid (t.size = k) := htk
    by_cases hlt : k < s.size
    · obtain ⟨y, hy⟩ : ∃ y, y = (s[k]).toNat := ⟨_, rfl⟩
      have hsy : (s[k]).toNat = y := hy.symm
      have hyb : y < 256 := by rw [hy]; exact UInt8.toNat_lt _
      obtain ⟨z, hz⟩ : ∃ z, z = y % P := ⟨_, rfl⟩
      have hzb : z < 256 := by rw [hz]; exact Nat.lt_of_le_of_lt (Nat.mod_le _ _) hyb
      have e1 : (y : Int) % (P : Int) = (z : Int) := by rw [hz]; simp
      have e2 : (y : Int).tmod (P : Int) = (z : Int) := by rw [Int.tmod_eq_emod_of_nonneg (by omega)]; exact e1
      have e4 : IntKind.i64.wrap (y : Int) = (y : Int) := wrap_i64_nat y (by omega)
      have e3 : IntKind.i64.wrap (z : Int) = (z : Int) := wrap_i64_nat z (by omega)
      have hu := wrap_u8_small z hzb
      have hP0 : ¬ P = 0 := by omega
      have hki : (k : Int) < (s.size : Int) := by omega
      have hlz : ¬ 9223372036854775807 < t.size + 1 := by omega
      obtain ⟨X, hX⟩ : ∃ X : ByteArray, X = ⟨#[UInt8.ofNat z]⟩ := ⟨_, rfl⟩
      have hXs : X.size = 1 := by rw [hX]; rfl
      have HXX : Hid (X = ⟨#[UInt8.ofNat z]⟩) := hX
      clear hy hz hX htk
      go_wp2_with fail
      refine wp_region_told (S := (fun wy => RdAt wy B q ∧ Only B w wy)) 12 29 [.is (.string t), .is (.string s), .is (.int .i64 (k : Int)), .is (.int .u8 (y : Int)), .is (.int .i64 (y : Int)), .is (.int .i64 (b : Int)), .is (.int .i64 (P : Int)), .is (.int .i64 (z : Int)), .is (.int .u8 (z : Int)), .own (fun v w => LayO v w z) (fun _ _ _ b h => h.kept b), .is (.string X), .is (.string (t ++ X))] (by kernel_rfl) (by kernel_rfl) (by rfl) (fun _ _ _ _ hd h => ⟨hd.trans h.1, h.2⟩) (fun vs => by simp only [puts, List.getElem?_toArray, List.getElem?_cons_succ, List.getElem?_cons_zero, Option.bind_some, Act.put, List.setIfInBounds_toArray, List.set_cons_zero, List.set_cons_succ]; exact rfl) ⟨HR.out.1.drew, HR.out.2.drewW⟩ ?_ ?_
      · refine TellsFrom.cons rfl (fun vs wz hS hd K hK => ?_) ?_
        · try dsimp only at hK ⊢
          try simp only [List.getElem_toArray, List.getElem_cons_succ, List.getElem_cons_zero, Act.put, List.setIfInBounds_toArray, List.set_cons_zero, List.set_cons_succ]
              go_simp
          exact hK.out _ _ hS (Below.refl _ _) rfl
        refine TellsFrom.cons rfl (fun vs wz hS hd K hK => ?_) ?_
        · try dsimp only at hK ⊢
          try simp only [List.getElem_toArray, List.getElem_cons_succ, List.getElem_cons_zero, Act.put, List.setIfInBounds_toArray, List.set_cons_zero, List.set_cons_succ]
              go_simp
          exact hK.out _ _ hS (Below.refl _ _) rfl
        refine TellsFrom.cons rfl (fun vs wz hS hd K hK => ?_) ?_
        · try dsimp only at hK ⊢
          try simp only [List.getElem_toArray, List.getElem_cons_succ, List.getElem_cons_zero, Act.put, List.setIfInBounds_toArray, List.set_cons_zero, List.set_cons_succ]
              go_simp
          exact hK.out _ _ hS (Below.refl _ _) rfl
        refine TellsFrom.cons rfl (fun vs wz hS hd K hK => ?_) ?_
        · try dsimp only at hK ⊢
          have h1 : vs 1 = (.string s) := hd 1 (by kernel_rfl)
          generalize vs 1 = x1 at *
          subst h1
          have h2 : vs 2 = (.int .i64 (k : Int)) := hd 2 (by kernel_rfl)
          generalize vs 2 = x2 at *
          subst h2
          try simp only [List.getElem_toArray, List.getElem_cons_succ, List.getElem_cons_zero, Act.put, List.setIfInBounds_toArray, List.set_cons_zero, List.set_cons_succ]
              go_simp
          exact hK.out _ _ hS (Below.refl _ _) rfl
        refine TellsFrom.cons rfl (fun vs wz hS hd K hK => ?_) ?_
        · try dsimp only at hK ⊢
          have h3 : vs 3 = (.int .u8 (y : Int)) := hd 3 (by kernel_rfl)
          generalize vs 3 = x3 at *
          subst h3
          try simp only [List.getElem_toArray, List.getElem_cons_succ, List.getElem_cons_zero, Act.put, List.setIfInBounds_toArray, List.set_cons_zero, List.set_cons_succ]
              go_simp
          exact hK.out _ _ hS (Below.refl _ _) rfl
        refine TellsFrom.cons rfl (fun vs wz hS hd K hK => ?_) ?_
        · try dsimp only at hK ⊢
          try simp only [List.getElem_toArray, List.getElem_cons_succ, List.getElem_cons_zero, Act.put, List.setIfInBounds_toArray, List.set_cons_zero, List.set_cons_succ]
              go_simp
          exact hK.out _ _ hS (Below.refl _ _) rfl
        refine TellsFrom.cons rfl (fun vs wz hS hd K hK => ?_) ?_
        · try dsimp only at hK ⊢
          have h5 : vs 5 = (.int .i64 (b : Int)) := hd 5 (by kernel_rfl)
          generalize vs 5 = x5 at *
          subst h5
          try simp only [List.getElem_toArray, List.getElem_cons_succ, List.getElem_cons_zero, Act.put, List.setIfInBounds_toArray, List.set_cons_zero, List.set_cons_succ]
          go_simp
          refine (HPW.out _).mono ?_
          rintro e v1 ⟨rfl, hv1⟩
          subst hv1
          exact hK.out _ _ hS (Below.refl _ _) rfl
        refine TellsFrom.cons rfl (fun vs wz hS hd K hK => ?_) ?_
        · try dsimp only at hK ⊢
          have h4 : vs 4 = (.int .i64 (y : Int)) := hd 4 (by kernel_rfl)
          generalize vs 4 = x4 at *
          subst h4
          have h6 : vs 6 = (.int .i64 (P : Int)) := hd 6 (by kernel_rfl)
          generalize vs 6 = x6 at *
          subst h6
          try simp only [List.getElem_toArray, List.getElem_cons_succ, List.getElem_cons_zero, Act.put, List.setIfInBounds_toArray, List.set_cons_zero, List.set_cons_succ]
              go_simp
          exact hK.out _ _ hS (Below.refl _ _) rfl
        refine TellsFrom.cons rfl (fun vs wz hS hd K hK => ?_) ?_
        · try dsimp only at hK ⊢
          have h7 : vs 7 = (.int .i64 (z : Int)) := hd 7 (by kernel_rfl)
          generalize vs 7 = x7 at *
          subst h7
          try simp only [List.getElem_toArray, List.getElem_cons_succ, List.getElem_cons_zero, Act.put, List.setIfInBounds_toArray, List.set_cons_zero, List.set_cons_succ]
              go_simp
          exact hK.out _ _ hS (Below.refl _ _) rfl
        refine TellsFrom.cons rfl (fun vs wz hS hd K hK => ?_) ?_
        · try dsimp only at hK ⊢
          have h8 : vs 8 = (.int .u8 (z : Int)) := hd 8 (by kernel_rfl)
          generalize vs 8 = x8 at *
          subst h8
          try simp only [List.getElem_toArray, List.getElem_cons_succ, List.getElem_cons_zero, Act.put, List.setIfInBounds_toArray, List.set_cons_zero, List.set_cons_succ]
          go_simp
          exact hK.out _ _ ⟨hS.1.alloc _, hS.2.alloc hS.1.lt _⟩ ((Below.refl _ _).alloc (Nat.le_refl _) _) (layO_new wz z)
        refine TellsFrom.cons rfl (fun vs wz hS hd K hK => ?_) ?_
        · try dsimp only at hK ⊢
          have h9 : LayO (vs 9) wz z := hd 9 (by kernel_rfl)
          generalize vs 9 = x9 at *
          obtain ⟨B9, rfl, hC9⟩ := h9
          try simp only [List.getElem_toArray, List.getElem_cons_succ, List.getElem_cons_zero, Act.put, List.setIfInBounds_toArray, List.set_cons_zero, List.set_cons_succ]
          have ht : Sem.run Try.prog (convert 22 9 (.slice (some ⟨B9, 0, none⟩) 1 1)) wz = .ok (.string X) wz := by rw [HXX.out]; exact layO_text hC9
          go_simp
          exact hK.out _ _ hS (Below.refl _ _) rfl
        refine TellsFrom.cons rfl (fun vs wz hS hd K hK => ?_) ?_
        · try dsimp only at hK ⊢
          have h0 : vs 0 = (.string t) := hd 0 (by kernel_rfl)
          generalize vs 0 = x0 at *
          subst h0
          have h10 : vs 10 = (.string X) := hd 10 (by kernel_rfl)
          generalize vs 10 = x10 at *
          subst h10
          try simp only [List.getElem_toArray, List.getElem_cons_succ, List.getElem_cons_zero, Act.put, List.setIfInBounds_toArray, List.set_cons_zero, List.set_cons_succ]
              go_simp
          exact hK.out _ _ hS (Below.refl _ _) rfl
        exact TellsFrom.nil
      · intro vs wz hS hd
        try dsimp only
        have h11 : vs 11 = .string (t ++ X) := hd 11 (by omega)
        clear hd
        generalize vs 0 = y0 at *
        generalize vs 1 = y1 at *
        generalize vs 2 = y2 at *
        generalize vs 3 = y3 at *
        generalize vs 4 = y4 at *
        generalize vs 5 = y5 at *
        generalize vs 6 = y6 at *
        generalize vs 7 = y7 at *
        generalize vs 8 = y8 at *
        generalize vs 9 = y9 at *
        generalize vs 10 = y10 at *
        generalize vs 11 = y11 at *
        subst h11
        have HF : Hid (RdAt wz B q ∧ Only B w wz) := hS
        clear hS
        refine wpAnyH_take (i := 12) (v := .string (t ++ X)) rfl (by kernel_rfl) (by kernel_rfl) (by kernel_rfl) (fun _ _ _ h => h) (Or.inl ⟨by rfl, ?_⟩) trivial ?_
        · intro wy _
          go_simp
        try simp only [List.getElem_toArray, List.getElem_cons_succ, List.getElem_cons_zero, Act.put, List.setIfInBounds_toArray, List.set_cons_zero, List.set_cons_succ]
        refine wpAnyH_done (by kernel_rfl) ?_ _
        try simp only [List.getElem_toArray, List.getElem_cons_succ, List.getElem_cons_zero, Act.put, List.setIfInBounds_toArray, List.set_cons_zero, List.set_cons_succ]
        go_wp2_with fail
        go_roundw
        case rel => exact ⟨k + 1, _, by omega, by go_num, rfl, by rw [ByteArray.size_append, hXs, HTK.out], HF⟩
        case measure => simp [intOf]; omega
    · have HF : Hid ((∃ q', q' ≤ p + 100 ∧ RdAt wr B q') ∧ Only B w wr) := ⟨⟨q, hq, HR.out.1⟩, HR.out.2⟩
      have hts : t.size ≤ 9001 := by omega
      clear htk
      go_wp2_with fail
      go_ret
      exact ⟨⟨t, rfl, hts⟩, HF.out⟩
end Go.Proofs.Ytjfihmpnbblomaa

/- A text, bits, and whether it is wide, drawn of a code: DrawLzwPut. -/
namespace Go.Proofs.Ytjfihmpnbblomaa
open Go.RowKit

/-- what is drawn -/
def LzwDrawn (w : World) (e : Ending) (w' : World) : Prop :=
  (∃ (t : ByteArray) (b : Nat) (wide : Bool), e = .returned (.tuple #[.string t, .int .i64 (b : Int), .bool wide]) ∧ t.size ≤ 9002 ∧ b ≤ 9) ∧ Below w.heap.size w w'
theorem lzwDrawn_mk {w w' : World} {e : Ending} (t : ByteArray) (b : Nat) (wide : Bool) (h1 : e = .returned (.tuple #[.string t, .int .i64 (b : Int), .bool wide])) (h2 : t.size ≤ 9002) (h3 : b ≤ 9) (h4 : Below w.heap.size w w') : LzwDrawn w e w' := ⟨⟨t, b, wide, h1, h2, h3⟩, h4⟩
/-- the reader, and what lies below it -/
def LzwAt (B : Nat) (w wr : World) (q : Nat) : Prop := RdAt wr B q ∧ Below B w wr
theorem LzwAt.only {B q q' : Nat} {w wr wx : World} (h : LzwAt B w wr q) (ho : Only B wr wx) (hr : RdAt wx B q') : LzwAt B w wx q' := ⟨hr, h.2.trans ho.below⟩
theorem LzwAt.alloc {B q : Nat} {w wr : World} (h : LzwAt B w wr q) (o : Obj) : LzwAt B w (wr.alloc o) q := ⟨h.1.alloc _, h.2.alloc (Nat.le_of_lt h.1.lt) _⟩
theorem OwnT.only {B base n : Nat} {w w' : World} {v : Value} {l : List UInt8} (h : OwnT w base v n l) (ho : Only B w w') (hb : B < base) : OwnT w' base v n l :=
  ownsRow_besides h (fun k hk => ho.rest k (World.ownsRow.lt h k hk).2 (fun e => by have := (World.ownsRow.lt h k hk).1; omega))
theorem ownT_none (w : World) : OwnT (w.alloc (.cells #[] 5)) w.heap.size (.slice (some ⟨w.heap.size, 0, none⟩) 0 0) 0 [] := World.ownsRow_lit w #[] 0 (Nat.le_refl _) (by decide) rfl
theorem two_cell (W : World) (j : Nat) (hj : j < 2) : (W.alloc (.cells #[.int .i64 1, .int .i64 9] 3)).cell? ⟨W.heap.size, j, none⟩ = some (.int .i64 ((1 + 8 * j : Nat) : Int)) := by
  rw [World.cell?_alloc_at _ _ _ _ rfl]
  have h : j = 0 ∨ j = 1 := by omega
  rcases h with rfl | rfl <;> rfl

set_option linter.unusedSimpArgs false in
set_option maxHeartbeats 4000000 in
set_option maxRecDepth 20000 in
theorem drawLzwPut_any (a : Option Addr) (len cap : Nat) (w : World) (h : Code8 w a len cap) :
    Calls Try.prog 12 #[.slice a len cap] w (LzwDrawn w) := by
  have HOP : Hid (Calls Try.prog 23 #[.slice a len cap] w fun e w' => e = .returned (.pointer (some ⟨w.heap.size, 0, none⟩)) ∧ RdAt w' w.heap.size 0 ∧ Below w.heap.size w w') := open_any a len cap w h
  clear h
  go_enter Try.func12, Try.ntmps12
  go_wp2_with fail
  refine HOP.out.mono ?_
  rintro e w1 ⟨rfl, hR1, b1⟩
  clear HOP
  obtain ⟨B, hB⟩ : ∃ B, B = w.heap.size := ⟨_, rfl⟩
  have H1 : Hid (LzwAt B w w1 0) := by show LzwAt _ _ _ _; rw [hB]; exact ⟨hR1, b1⟩
  rw [← hB]
  have HBB : Hid (B = w.heap.size) := hB
  clear hB hR1 b1
  go_wp2_with fail
  refine (pick_named B 0 _ _ H1.out.1 (by omega) (by omega) (by omega)).mono ?_
  rintro e w2 ⟨x0, rfl, hx0, hR, hO, -⟩
  have H2 : Hid (LzwAt B w w2 1) := H1.out.only hO hR
  clear hR hO H1
  go_wp2_with fail
  refine (pick_named B 1 _ _ H2.out.1 (by omega) (by omega) (by omega)).mono ?_
  rintro e w3 ⟨y, rfl, hy, hR, hO, -⟩
  have H3 : Hid (LzwAt B w w3 2) := H2.out.only hO hR
  clear hR hO H2
  obtain ⟨wide, hwd⟩ : ∃ wide : Bool, ((y : Int) == 0) = wide := ⟨_, rfl⟩
  go_upto_region 4 with fail
  go_cut [19, 20, 24] from 21 to 24 (fun _ _ c wc => ∃ (cb : Bool) (q : Nat), c = .bool cb ∧ q ≤ 3 ∧ Hid (LzwAt B w wc q))
  case first =>
    cases wide with
    | false =>
      go_wp2_with fail
      go_meet
      case rel => exact ⟨_, 2, rfl, by omega, H3⟩
    | true =>
      go_wp2_with fail
      refine (pick_named B 2 _ _ H3.out.1 (by omega) (by omega) (by omega)).mono ?_
      rintro e w4 ⟨z, rfl, hz, hR, hO, -⟩
      have H4 : Hid (LzwAt B w w4 3) := H3.out.only hO hR
      clear hR hO H3
      go_wp2_with fail
      go_meet
      case rel => exact ⟨_, 3, rfl, by omega, H4⟩
  obtain ⟨cb, q, rfl, hq, HA⟩ := hcut
  clear H3 hwd
  go_upto_if 24 with fail
  go_cut [6] from 25 to 26 (fun x wc' => ∃ b : Nat, x = .int .i64 (b : Int) ∧ 2 ≤ b ∧ b ≤ 8 ∧ wc' = wc)
  case first =>
    cases cb with
    | false =>
      go_wp2_with fail
      go_meet
      case rel => exact ⟨2 + x0, by go_num, by omega, by omega, rfl⟩
    | true =>
      go_wp2_with fail
      go_meet
      case rel => exact ⟨8, by go_num, by omega, by omega, rfl⟩
  obtain ⟨b, rfl, hb2, hb8, hwc⟩ := hcut
  subst hwc
  clear hx0
  go_wp2_with fail
  refine (l14Low_any B q b _ HA.out.1 (by omega) hb8).mono ?_
  rintro e w5 ⟨⟨t, rfl, hts⟩, ⟨q5, hq5, hR⟩, hO⟩
  have H5 : Hid (LzwAt B w w5 q5) := HA.out.only hO hR
  clear hR hO HA
  go_wp2_with fail
  refine (pick_named B q5 _ _ H5.out.1 (by omega) (by omega) (by omega)).mono ?_
  rintro e w6 ⟨v, rfl, hv, hR, hO, -⟩
  have H6 : Hid (LzwAt B w w6 (q5 + 1)) := H5.out.only hO hR
  clear hR hO H5
  obtain ⟨vb, hvb⟩ : ∃ vb : Bool, ((v : Int) == 0) = vb := ⟨_, rfl⟩
  go_upto_if 30 with fail
  go_cut [8, 9, 10] from 31 to 48 (fun x _ _ wc => ∃ (t : ByteArray) (q : Nat), x = .string t ∧ t.size ≤ 9001 ∧ q ≤ 10000 ∧ Hid (LzwAt B w wc q))
  case first =>
    cases vb with
    | false =>
      go_wp2_with fail
      go_meet
      case rel => exact ⟨t, q5 + 1, rfl, hts, by omega, H6⟩
    | true =>
      have hB6 := H6.out.1.lt
      have H7 : Hid (LzwAt B w (w6.alloc (.cells #[] 5)) (q5 + 1)) := H6.out.alloc _
      have O7 : Hid (OwnT (w6.alloc (.cells #[] 5)) (B + 1) (.slice (some ⟨w6.heap.size, 0, none⟩) 0 0) 0 []) := by
        refine ⟨rfl, .inr ⟨w6.heap.size, 0, #[], rfl, by omega, heap_alloc_new w6 _, Nat.le_refl _, Nat.zero_le _, rfl, rfl⟩⟩
      clear H6
      go_wp2_with fail
      refine (pick_named B (q5 + 1) _ _ H7.out.1 (by omega) (by omega) (by omega)).mono ?_
      rintro e w8 ⟨m, rfl, hm, hR, hO, -⟩
      have H8 : Hid (LzwAt B w w8 (q5 + 2)) := H7.out.only hO hR
      have O8 : Hid (OwnT w8 (B + 1) (.slice (some ⟨w6.heap.size, 0, none⟩) 0 0) 0 []) := O7.out.only hO (by omega)
      clear hR hO H7 O7
      have HPW : Hid (∀ w', Calls Try.prog 35 #[.int .i64 (b : Int)] w' fun e w'' => e = .returned (.int .i64 ((2 ^ b : Nat) : Int)) ∧ w'' = w') := fun w' => l1Pow_any b w' (by omega)
      have hpw := Lz.pow_le hb8
      have hp1 : 1 ≤ 2 ^ b := Nat.one_le_two_pow
      generalize 2 ^ b = P at *
      go_wp2_with fail
      go_loopw [9, 10] (fun bv nv wr => ∃ (k q n : Nat) (l : List UInt8), nv = .int .i64 (k : Int) ∧ k + n ≤ 4899 ∧ q + k ≤ q5 + 2 + 4899 ∧ Hid (OwnT wr (B + 1) bv n l) ∧ Hid (LzwAt B w wr q)) (fun _ nv _ => (intOf nv).toNat)
      case atStart => exact ⟨4100 + m, q5 + 2, 0, [], by go_num, by omega, by omega, O8, H8⟩
      case round =>
        obtain ⟨k, q, n, l, rfl, hkn, hqk, HO, HL⟩ := hrel
        clear O8 H8
        by_cases hk : 0 < k
        · have hki : (0 : Int) < (k : Int) := by omega
          have hBr := HL.out.1.lt
          go_wp2_with fail
          refine (HPW.out _).mono ?_
          rintro e w9 ⟨rfl, hw9⟩
          replace hw9 := hw9.symm
          subst hw9
          go_wp2_with fail
          refine (pick_named B q _ _ HL.out.1 (by omega) (by omega) (by omega)).mono ?_
          rintro e w10 ⟨y2, rfl, hy2, hR, hO, -⟩
          have HL2 : Hid (LzwAt B w w10 (q + 1)) := HL.out.only hO hR
          have HO2 : Hid (OwnT w10 (B + 1) u9 n l) := HO.out.only hO (by omega)
          have hu := wrap_u8_small y2 (by omega)
          have hB10 := hR.lt
          clear hR hO HL HO
          have hyc : (y2 : Int) = (((UInt8.ofNat y2).toNat : Nat) : Int) := by
            rw [UInt8.toNat_ofNat']
            omega
          have HYC : Hid ((y2 : Int) = (((UInt8.ofNat y2).toNat : Nat) : Int)) := hyc
          clear hyc
          go_wp2_with (at_builtin; refine wpList_appT1 w10 (by rfl) _ _ (by rfl) (B + 1) _ n l (y2 : Int) (UInt8.ofNat y2) HYC.out (by rfl) HO2.out (by rfl) (by omega) (by omega) ?_)
          intro g2 cap2 w11 ho11 hg11
          have HL11 : Hid (LzwAt B w w11 (q + 1)) := by
            have hbB : Below (B + 1) w10 w11 := hg11.below (Below.refl _ _) (Nat.le_refl _) (by omega)
            exact ⟨HL2.out.1.kept hbB, HL2.out.2.trans (hbB.mono (by omega))⟩
          have HO11 : Hid (OwnT w11 (B + 1) (.slice (some ⟨g2, 0, none⟩) (n + 1) cap2) (n + 1) (l ++ [UInt8.ofNat y2])) := ho11
          have ek : (k : Int) - 1 = ((k - 1 : Nat) : Int) := by omega
          clear ho11 hg11 HL2 HO2
          go_wp2_with fail
          go_roundw
          case rel => exact ⟨k - 1, q + 1, n + 1, _, by first | rfl | (rw [ek]) | go_num, by omega, by omega, HO11, HL11⟩
          case measure => simp [intOf]; omega
        · have hk0 : k = 0 := by omega
          subst hk0
          obtain ⟨T, hT⟩ : ∃ T : ByteArray, T = ⟨l.toArray⟩ := ⟨_, rfl⟩
          have htx := HO.out.text
          rw [← hT] at htx
          have hTs : T.size ≤ 9001 := by
            have h1 := HO.out.len
            have h2 : T.size = l.length := by rw [hT]; simp [ByteArray.size]
            omega
          clear hT
          go_wp2_with fail
          go_meet
          case rel => exact ⟨T, q, rfl, hTs, by omega, HL⟩
  obtain ⟨t2, q6, rfl, hts2, hq6, HA6⟩ := hcut
  clear H6 hts hvb
  go_wp2_with fail
  refine (pick_named B q6 _ _ HA6.out.1 (by omega) (by omega) (by omega)).mono ?_
  rintro e w7 ⟨v7, rfl, hv7, hR, hO, -⟩
  have H7 : Hid (LzwAt B w w7 (q6 + 1)) := HA6.out.only hO hR
  clear hR hO HA6
  by_cases h0 : v7 = 0
  · subst h0
    have H8 : Hid (LzwAt B w (w7.alloc (.cells #[.int .i64 1, .int .i64 9] 3)) (q6 + 1)) := H7.out.alloc _
    have hWB : w7.heap.size ≠ B := by have := H7.out.1.lt; omega
    go_wp2_with fail
    refine (pick_named B (q6 + 1) _ _ H8.out.1 (by omega) (by omega) (by omega)).mono ?_
    rintro e w8 ⟨j, rfl, hj, hR, hO, -⟩
    have hcj : w8.cell? ⟨w7.heap.size, j, none⟩ = some (.int .i64 ((1 + 8 * j : Nat) : Int)) := (hO.cell w7.heap.size j (by simp) hWB).trans (two_cell w7 j (by omega))
    have H9 : Hid (Below w.heap.size w w8) := by rw [← HBB.out]; exact (H8.out.only hO hR).2
    have hjn : j < 2 := by omega
    have hjb : 1 + 8 * j ≤ 9 := by omega
    obtain ⟨b9, hb9⟩ : ∃ b9 : Nat, b9 = 1 + 8 * j := ⟨_, rfl⟩
    rw [← hb9] at hcj hjb
    clear hR hO H8 H7 hb9
    go_wp2_with fail
    exact bodyPost_ret (v := .tuple #[.string t2, .int .i64 (b9 : Int), .bool wide]) (by simp [results, Try.results12, go_sem]) rfl (lzwDrawn_mk _ _ _ rfl (by omega) hjb H9.out)
  · have g0 : ((v7 : Int) == 0) = false := by rw [beq_eq_false_iff_ne]; omega
    have H9 : Hid (Below w.heap.size w w7) := by rw [← HBB.out]; exact H7.out.2
    clear H7
    by_cases h1 : v7 = 1
    · subst h1
      obtain ⟨T, hT⟩ : ∃ T : ByteArray, t2 ++ ⟨#[255]⟩ = T := ⟨_, rfl⟩
      have hTs : T.size ≤ 9002 := by rw [← hT, ByteArray.size_append]; have : (ByteArray.mk #[255]).size = 1 := rfl; omega
      have hlz : ¬ 9223372036854775807 < t2.size + 1 := by omega
      go_wp2_with fail
      first | rw [hT] | skip
      exact bodyPost_ret (v := .tuple #[.string T, .int .i64 (b : Int), .bool wide]) (by simp [results, Try.results12, go_sem]) rfl (lzwDrawn_mk _ _ _ rfl hTs (by omega) H9.out)
    · have g1 : ((v7 : Int) == 1) = false := by rw [beq_eq_false_iff_ne]; omega
      go_wp2_with fail
      exact bodyPost_ret (v := .tuple #[.string t2, .int .i64 (b : Int), .bool wide]) (by simp [results, Try.results12, go_sem]) rfl (lzwDrawn_mk _ _ _ rfl (by omega) (by omega) H9.out)
end Go.Proofs.Ytjfihmpnbblomaa
