/- Texts laid together: Base, IntsWalks, OwnRow, IntOwn, MarkWalks, AppInts, DfRow, AppOne, DfConcI, TkRow, TkOwn, TyMath, DfRunM, BgMath, TurnWalks, SymWalks, BitRow, BitOwn, DfMath, MakeMath, MakeBound, CodeMath, CpMath, InWalks, PowWalks, CodeWalks, MakeWalks, DfApp, DfOftM, CfMath, HpMath, CtMath, HpMem, CfInv, RdWalks, StrWalks, OnlyB, TextWalks, DrawWalks, DrawRow, CfMem, ExCodeCost, ExCodeFull, BpMath, BpAnswer, PutMath, DfRunS, TyBack, TyEntry, TyThree2, TyMap, TyAdd, TyThree, TyBox, TyToken, PairMake, CpImpl, BpRow, OrdWalks, BgImpl, BpWrite, AdMath, AdWalks. -/
import Derived.WalkKit
import Derived.WalkSpells
import Derived.WalkLawsBesides
import Derived.Laws.CopyOwn
import Derived.Deep.QuietTactic
import Derived.BigQuiet
import Derived.BigRegion
import Derived.Deep.RegionWith
import Derived.OpenShut
import Derived.Test.YtcgmmpfckmhahaaGreatProg
import Derived.Laws.MakeOwn
import Derived.Deep.AppendLies
import Derived.Laws.OwnMore
import Derived.Laws.Tables
import Derived.Lib.AppendZeros
import Init
import Derived.StillTailTactics
import Derived.RangeFuncBox
import Derived.Below
import Derived.Laws.BytesString
import Derived.RangeFuncLeaves
import Derived.RangeFuncWrites
import Derived.Shelf.Abstract
import Derived.OwnWalkIn
import Derived.TacticsInMore
import Derived.LoopNIn
import Derived.LoopIn
import Derived.Maps.OwnRows
import Derived.Maps.OwnSet
import Derived.Maps.Views
import Derived.WideKeyEntry
import Derived.DeepKeys4
import Derived.Deep.RegionLaw
import Derived.Lib.LazyBuf
import Derived.Maps.OwnOps
import Derived.OwnWalk
import Derived.Deep.RegionHeld3
/- Small facts that the walks share: endings, bytes of a text, bits of a 64-bit number. -/
namespace Go.Proofs.YtcgmmpfckmhahaaGreat
open Go.RowKit

theorem ret_int {k : IntKind} {a b : Int} (h : a = b) : Ending.returned (.int k a) = .returned (.int k b) := by rw [h]

theorem take_snoc (s : ByteArray) (k : Nat) (h : k < s.size) : s.data.toList.take (k + 1) = s.data.toList.take k ++ [s[k]] := by
  rw [List.take_succ_eq_append_getElem (by simpa using h)]; rfl

theorem bytes_len (s : ByteArray) : s.data.toList.length = s.size := by simp

theorem ofInt_i64 (a : Nat) (ha : a < 9223372036854775808) : (BitVec.ofInt 64 (a : Int)).toNat = a := by
  rw [BitVec.ofInt_natCast, BitVec.toNat_ofNat]; exact Nat.mod_eq_of_lt (by omega)

theorem wrap_i64_nat (a : Nat) (ha : a < 9223372036854775808) : IntKind.i64.wrap (a : Int) = (a : Int) := by
  simp [IntKind.wrap, IntKind.bits, IntKind.signed]; omega

theorem i64_or_nat (a b : Nat) (ha : a < 9223372036854775808) (hb : b < 9223372036854775808) : bits .or .i64 (a : Int) (b : Int) = ((a ||| b : Nat) : Int) := by
  have hx : a ||| b < 2 ^ 63 := Nat.or_lt_two_pow (by omega) (by omega)
  show IntKind.i64.wrap ((BitVec.ofInt 64 (a : Int) ||| BitVec.ofInt 64 (b : Int)).toNat : Int) = _
  rw [BitVec.toNat_or, ofInt_i64 a ha, ofInt_i64 b hb, wrap_i64_nat _ (by omega)]

theorem i64_and_nat (a b : Nat) (ha : a < 9223372036854775808) (hb : b < 9223372036854775808) : bits .and .i64 (a : Int) (b : Int) = ((a &&& b : Nat) : Int) := by
  have hx : a &&& b < 2 ^ 63 := Nat.and_lt_two_pow _ (by omega)
  show IntKind.i64.wrap ((BitVec.ofInt 64 (a : Int) &&& BitVec.ofInt 64 (b : Int)).toNat : Int) = _
  rw [BitVec.toNat_and, ofInt_i64 a ha, ofInt_i64 b hb, wrap_i64_nat _ (by omega)]

theorem setCell_drewN (w : World) (n : Nat) (a : Addr) (v : Value) : (w.drewN n).setCell a v = (w.setCell a v).drewN n := rfl

theorem two_store (w : World) (x y x' y' : Value) (t : TypeId) (O : Obj) (n : Nat) :
    ((((w.alloc (.cells #[x, y] t)).alloc O).drewN n).setCell ⟨w.heap.size, 0, none⟩ x').setCell ⟨w.heap.size, 1, none⟩ y' = ((w.alloc (.cells #[x', y'] t)).alloc O).drewN n := by
  rw [setCell_drewN, setCell_drewN, World.setCell_alloc_past _ _ _ _ (by simp), World.setCell_alloc_past _ _ _ _ (by simp),
    World.setCell_alloc_at _ _ _ _ _ rfl, World.setCell_alloc_at _ _ _ _ _ rfl]
  rfl

theorem ret_pair {a b : Int} {x y : Bool} (h : a = b) (g : x = y) : Ending.returned (.tuple #[.int .i64 a, .bool x]) = .returned (.tuple #[.int .i64 b, .bool y]) := by rw [h, g]

end Go.Proofs.YtcgmmpfckmhahaaGreat

/- A list of ints in memory: read, copied, compared. -/
namespace Go.Proofs.YtcgmmpfckmhahaaGreat
open Go.RowKit

/-- the slice's cells read as the list -/
def Ints (w : World) (a : Option Addr) (zs : List Int) : Prop :=
  zs = [] ∨ ∃ b off, a = some ⟨b, off, none⟩ ∧ b < w.heap.size ∧ ∀ i (h : i < zs.length), w.cell? ⟨b, off + i, none⟩ = some (.int .i64 zs[i])

theorem Ints.kept {w w' : World} {a : Option Addr} {zs : List Int} (h : Ints w a zs) (hb : Below w.heap.size w w') : Ints w' a zs := by
  rcases h with h | ⟨b, off, rfl, hbB, hc⟩
  · exact .inl h
  · exact .inr ⟨b, off, rfl, Nat.lt_of_lt_of_le hbB hb.size, fun i hi => (hb.cell (p := ⟨b, off + i, none⟩) hbB).trans (hc i hi)⟩

/-- a new row, its first k cells copied -/
def cp (zs : List Int) (k : Nat) : Array Value := ((List.range zs.length).map fun j => Value.int .i64 (if j < k then zs.getD j 0 else 0)).toArray

theorem cp_size (zs : List Int) (k : Nat) : (cp zs k).size = zs.length := by simp [cp]
theorem cp_get (zs : List Int) (k j : Nat) (h : j < zs.length) : (cp zs k)[j]? = some (Value.int .i64 (if j < k then zs.getD j 0 else 0)) := by
  simp [cp, h]
theorem made_cp (zs : List Int) : madeCells #[Value.int .i64 0] (zs.length * 1) = cp zs 0 := by
  apply Array.ext_getElem?
  intro j
  by_cases hj : j < zs.length
  · rw [cp_get _ _ _ hj, Nat.mul_one]
    unfold madeCells
    simp [hj, Nat.mod_one]
  · rw [Array.getElem?_eq_none (by rw [size_madeCells]; omega), Array.getElem?_eq_none (by rw [cp_size]; omega)]

theorem info_int : (Tryz.prog.info? 3).map (fun i => (i.zero, i.size, i.bytes)) = some (some (.int .i64 0), 1, 8) := by kernel_rfl

theorem make_ints (zs : List Int) (n : Nat) (hn : zs.length = n) (hl : n ≤ 2000000) (w : World) :
    (Instr.makeSlice 36 (.int .i64 (n : Int)) (.int .i64 (n : Int))).run Tryz.prog w = .ok (.slice (some ⟨w.heap.size, 0, none⟩) n n) (w.alloc (.cells (cp zs 0) 3)) := by
  obtain ⟨i0, hi, hz0, hz1, hz2⟩ := info_parts info_int
  have h := run_make (P := Tryz.prog) w 36 3 i0 (.int .i64 0) Tryz.underlying36 hi hz0 .i64 .i64 (n : Int) (n : Int) (by omega) (by omega) (by rw [hz2]; omega) (by omega)
  rw [h, Int.toNat_natCast, hz1, ← made_cp, hn]
  rfl

end Go.Proofs.YtcgmmpfckmhahaaGreat

/- A new row of ints, written cell by cell. -/
namespace Go.Proofs.YtcgmmpfckmhahaaGreat
open Go.RowKit

/-- a row of ints -/
def arr (l : List Int) : Array Value := (l.map (fun z => Value.int .i64 z)).toArray

theorem arr_set (l : List Int) (k : Nat) (v : Int) : (arr l).setIfInBounds k (.int .i64 v) = arr (l.set k v) := by
  unfold arr
  simp [List.map_set]
theorem arr_get (l : List Int) (k : Nat) (h : k < l.length) : (arr l)[k]? = some (.int .i64 l[k]) := by
  simp [arr, h]
theorem cp_arr (zs : List Int) : cp zs 0 = arr (List.replicate zs.length 0) := by
  apply Array.ext_getElem?
  intro j
  by_cases hj : j < zs.length
  · rw [cp_get _ _ _ hj, arr_get _ _ (by simpa using hj)]; simp
  · rw [Array.getElem?_eq_none (by rw [cp_size]; omega), Array.getElem?_eq_none (by simp [arr]; omega)]

/-- a list of the call's own, in a block from lo on: its cells can be written -/
def Owns (w : World) (lo : Nat) (a : Option Addr) (l : List Int) : Prop :=
  l = [] ∨ ∃ b, a = some ⟨b, 0, none⟩ ∧ lo ≤ b ∧ b < w.heap.size ∧ ∀ i (h : i < l.length), w.cell? ⟨b, i, none⟩ = some (.int .i64 l[i]) ∧ w.frozen? ⟨b, i, none⟩ = false

theorem Owns.ints {w : World} {lo : Nat} {a : Option Addr} {l : List Int} (h : Owns w lo a l) : Ints w a l := by
  rcases h with h | ⟨b, rfl, _, hb, hc⟩
  · exact .inl h
  · exact .inr ⟨b, 0, rfl, hb, fun i hi => by rw [Nat.zero_add]; exact (hc i hi).1⟩

theorem owns_arr (w : World) (l : List Int) : Owns (w.alloc (.cells (arr l) 3)) w.heap.size (some ⟨w.heap.size, 0, none⟩) l := by
  refine .inr ⟨w.heap.size, rfl, Nat.le_refl _, by simp, fun i hi => ⟨?_, ?_⟩⟩
  · rw [World.cell?_alloc_at _ _ _ _ rfl, arr_get _ _ hi]
  · rw [World.frozen?_alloc_at _ _ _ _ rfl]
end Go.Proofs.YtcgmmpfckmhahaaGreat

/- A list of ints that a call gathers in a row of its own. -/
namespace Go.Proofs.YtcgmmpfckmhahaaGreat
open Go.RowKit

/-- ints as they lie in memory -/
def intsV (l : List Int) : List Value := l.map fun x : Int => Value.int .i64 x
theorem intsV_len (l : List Int) : (intsV l).length = l.length := by simp [intsV]
theorem intsV_get (l : List Int) (j : Nat) (h : j < l.length) : (intsV l)[j]? = some (.int .i64 l[j]) := by simp [intsV, h]
theorem intsV_snoc (l : List Int) (x : Int) : intsV l ++ [.int .i64 x] = intsV (l ++ [x]) := by simp [intsV]

/-- the slice v owns the ints l, n of them -/
def OwnI (w : World) (B : Nat) (v : Value) (n : Nat) (l : List Int) : Prop := w.ownsRow B 3 1 v n (intsV l)

theorem OwnI.len {w : World} {B n : Nat} {v : Value} {l : List Int} (h : OwnI w B v n l) : l.length = n := by
  have := h.1
  rw [intsV_len] at this; omega

theorem OwnI.owns {w : World} {B n : Nat} {v : Value} {l : List Int} (h : OwnI w B v n l) : ∃ ao cap, v = .slice ao n cap ∧ Owns w B ao l := by
  have hl := h.len
  rcases h.2 with ⟨rfl, h0⟩ | ⟨g, cap, cur, rfl, hgB, hg, _, _, _, ht⟩
  · subst h0
    exact ⟨none, 0, rfl, .inl (List.eq_nil_of_length_eq_zero hl)⟩
  · refine ⟨some ⟨g, 0, none⟩, cap, rfl, .inr ⟨g, rfl, hgB, ?_, fun i hi => ⟨?_, ?_⟩⟩⟩
    · rcases Nat.lt_or_ge g w.heap.size with hlt | hge
      · exact hlt
      · rw [Array.getElem?_eq_none hge] at hg; cases hg
    · exact (World.ownsRow.cellAt h i (by omega)).trans (intsV_get l i hi)
    · exact World.ownsRow.frozenAt h i

theorem OwnI.more {w : World} {B n g cap : Nat} {l : List Int} {x : Int} (h : w.ownsRow B 3 1 (.slice (some ⟨g, 0, none⟩) (n + 1) cap) (n + 1) (intsV l ++ [.int .i64 x])) :
    OwnI w B (.slice (some ⟨g, 0, none⟩) (n + 1) cap) (n + 1) (l ++ [x]) := by
  rw [intsV_snoc] at h; exact h

theorem OwnI.drewN {w : World} {B n : Nat} {v : Value} {l : List Int} (h : OwnI w B v n l) (m : Nat) : OwnI (w.drewN m) B v n l := h

theorem ownI_none (w : World) : OwnI (w.alloc (.cells #[] 3)) w.heap.size (.slice (some ⟨w.heap.size, 0, none⟩) 0 0) 0 [] :=
  World.ownsRow_lit w #[] 0 (Nat.le_refl _) (by decide) rfl
end Go.Proofs.YtcgmmpfckmhahaaGreat

/- Marks laid into a list of the call's own, and found again. -/
namespace Go.Proofs.YtcgmmpfckmhahaaGreat
open Go.RowKit

/-- n cells at the head of block b, which can be written -/
def Own (w : World) (b n : Nat) (f : Nat → Int) : Prop := b < w.heap.size ∧ ∀ i, i < n → w.cell? ⟨b, i, none⟩ = some (.int .i64 (f i)) ∧ w.frozen? ⟨b, i, none⟩ = false

/-- nothing but block b has turned -/
structure Turned (b : Nat) (w w' : World) : Prop where
  os : w'.os = w.os
  tape : w'.tape = w.tape
  output : w'.output = w.output
  size : w'.heap.size = w.heap.size
  rest : ∀ k, k ≠ b → w'.heap[k]? = w.heap[k]?

theorem Turned.refl (b : Nat) (w : World) : Turned b w w := ⟨rfl, rfl, rfl, rfl, fun _ _ => rfl⟩
theorem Turned.set {b : Nat} {w w' : World} (h : Turned b w w') (i : Nat) (v : Value) : Turned b w (w'.setCell ⟨b, i, none⟩ v) :=
  ⟨h.os, h.tape, h.output, by rw [World.size_setCell]; exact h.size, fun k hk => (Below.heap_setCell w' ⟨b, i, none⟩ v k hk).trans (h.rest k hk)⟩
theorem Turned.below {b lo : Nat} {w w' : World} (h : Turned b w w') (hb : lo ≤ b) : Below lo w w' :=
  ⟨h.os, h.tape, h.output, Nat.le_of_eq h.size.symm, fun k hk => h.rest k (by omega)⟩
theorem Turned.ints {b : Nat} {w w' : World} (h : Turned b w w') {a : Option Addr} {zs : List Int} (hI : Ints w a zs) (hne : ∀ x, a = some x → x.block ≠ b) : Ints w' a zs := by
  rcases hI with e | ⟨c, off, rfl, hc, hcell⟩
  · exact .inl e
  · exact .inr ⟨c, off, rfl, by rw [h.size]; exact hc, fun i hi => (World.cell?_of_block (w := w) (a := ⟨c, off + i, none⟩) (h.rest c (hne _ rfl))).trans (hcell i hi)⟩
theorem Turned.owns {b lo : Nat} {w w' : World} (h : Turned b w w') {a : Option Addr} {l : List Int} (hI : Owns w lo a l) (hne : b < lo) : Owns w' lo a l := by
  rcases hI with e | ⟨c, rfl, hlo, hc, hcell⟩
  · exact .inl e
  · refine .inr ⟨c, rfl, hlo, by rw [h.size]; exact hc, fun i hi => ⟨?_, ?_⟩⟩
    · exact (World.cell?_of_block (w := w) (a := ⟨c, i, none⟩) (h.rest c (by omega))).trans (hcell i hi).1
    · exact (World.frozen?_of_block (w := w) (a := ⟨c, i, none⟩) (h.rest c (by omega))).trans (hcell i hi).2
theorem Owns.kept {w w' : World} {lo : Nat} {a : Option Addr} {l : List Int} (h : Owns w lo a l) (hb : Below w.heap.size w w') : Owns w' lo a l := by
  rcases h with e | ⟨c, rfl, hlo, hc, hcell⟩
  · exact .inl e
  · exact .inr ⟨c, rfl, hlo, Nat.lt_of_lt_of_le hc hb.size, fun i hi => ⟨(hb.cell (p := ⟨c, i, none⟩) hc).trans (hcell i hi).1, (hb.frozen (p := ⟨c, i, none⟩) hc).trans (hcell i hi).2⟩⟩

theorem Own.step {w : World} {b n k : Nat} {f g : Nat → Int} (h : Own w b n f) (hk : k < n) (hg : g k = (k : Int) + 1) (hf : ∀ i, i < n → i ≠ k → g i = f i) :
    Own (w.setCell ⟨b, k, none⟩ (.int .i64 ((k : Int) + 1))) b n g := by
  refine ⟨by rw [World.size_setCell]; exact h.1, fun i hi => ⟨?_, ?_⟩⟩
  · by_cases e : i = k
    · subst e; rw [World.cell?_setCell_same _ _ _ (h.2 i hi).1, hg]
    · rw [World.cell?_setCell_other _ _ _ _ (fun q => e (congrArg Addr.off q).symm), (h.2 i hi).1, hf i hi e]
  · rw [World.frozen?_setCell]; exact (h.2 i hi).2

end Go.Proofs.YtcgmmpfckmhahaaGreat

/- Ints appended to a row of the call's own: none or more. -/
namespace Go.Proofs.YtcgmmpfckmhahaaGreat
open Go.RowKit

/-- nothing is appended -/
theorem append_nothing (a : Option Addr) (n cap : Nat) (h : n ≤ cap) (b : Option Addr) (c : Nat) (ty : TypeId) (w : World) :
    (Builtin.append_ #[36, 36] ty #[.slice a n cap, .slice b 0 c]).run Tryz.prog w = .ok (.slice a n cap) w := by
  obtain ⟨i0, hi0, hz0, hz1, hz2⟩ := info_parts info_int
  cases a <;> cases b <;> simp [Builtin.append_, run_underlying Tryz.underlying36, sizeOf, typeInfo, hi0, Builtin.lenOf, Builtin.firstCells, h, storeCells, loadCells, loadCellsFrom]

theorem run_append_ints (ty : TypeId) (base : Nat) (v : Value) (n : Nat) (l : List Int) (w : World) (hown : OwnI w base v n l) (ca : Option Addr) (m c : Nat) (cs : List Int) (hc : Ints w ca cs) (hm : cs.length = m) (h63 : n + m ≤ 9000000) (hbase : base ≤ w.heap.size) :
    ∃ a cap w', (Builtin.append_ #[36, 36] ty #[v, .slice ca m c]).run Tryz.prog w = .ok (.slice a (n + m) cap) w' ∧ OwnI w' base (.slice a (n + m) cap) (n + m) (l ++ cs) ∧ w.grownBy w' v.ownBlock := by
  obtain ⟨i0, hi0, hz0, hz1, hz2⟩ := info_parts info_int
  rcases Nat.eq_zero_or_pos m with h0 | hp
  · subst h0
    have hcs : cs = [] := List.eq_nil_of_length_eq_zero hm
    subst hcs
    obtain ⟨ao, cap, rfl, _⟩ := hown.owns
    have hle : n ≤ cap := by
      rcases hown.2 with ⟨e, h0⟩ | ⟨g, cap', cur, e, _, _, h1, _⟩
      · cases e; omega
      · cases e; exact h1
    refine ⟨ao, cap, w, append_nothing ao n cap hle ca c ty w, by simpa using hown, ⟨rfl, rfl, rfl, Nat.le_refl _, fun _ _ _ => rfl⟩⟩
  · rcases hc with e | ⟨b, off, rfl, hb, hcell⟩
    · rw [e] at hm; simp at hm; omega
    · obtain ⟨g, cap, w', hr, h2, h3, _, _⟩ := run_append_lies (P := Tryz.prog) w 36 ty base 3 i0 (.int .i64 0) 1 8 Tryz.underlying36 hi0 hz0 hz1 hz2 rfl (by decide) v n (intsV l) hown ⟨b, off, none⟩ m c (intsV cs) (by rw [intsV_len]; omega)
        (fun j u hu => by
          have hj : j < cs.length := by
            rcases Nat.lt_or_ge j cs.length with h | h
            · exact h
            · rw [List.getElem?_eq_none (by rw [intsV_len]; exact h)] at hu; cases hu
          rw [intsV_get cs j hj] at hu
          cases hu
          have hadd : (⟨b, off, none⟩ : Addr).add j = ⟨b, off + j, none⟩ := by unfold Addr.add; split <;> simp_all
          rw [hadd]; exact hcell j hj)
        (fun u hu => by simp [intsV] at hu; obtain ⟨x, _, rfl⟩ := hu; rfl) hp (by unfold maxLen; omega) (by omega) hbase w.heap.size rfl
      exact ⟨some ⟨g, 0, none⟩, cap, w', hr, by show World.ownsRow _ _ _ _ _ _ _; rw [show intsV (l ++ cs) = intsV l ++ intsV cs by simp [intsV]]; exact h2, h3⟩

theorem wp_append_ints {w : World} {o : Oper} {a : Act} {K : Act → World → Prop} {Q : Exit → Act → World → Prop} (s x : Operand)
    (ho : o.op = .call { callee := .builtin .append, args := #[s, x], argTypes := #[36, 36] })
    (base : Nat) (v : Value) (n : Nat) (l : List Int) (hs : a.eval s = v) (hown : OwnI w base v n l) (ca : Option Addr) (m c : Nat) (cs : List Int) (hx : a.eval x = .slice ca m c) (hc : Ints w ca cs) (hm : cs.length = m) (h63 : n + m ≤ 9000000) (hbase : base ≤ w.heap.size)
    (h : ∀ a' cap w', OwnI w' base (.slice a' (n + m) cap) (n + m) (l ++ cs) → w.grownBy w' v.ownBlock → K (a.put o.dst (.slice a' (n + m) cap)) w') : o.wp Tryz.prog a w K Q := by
  obtain ⟨a', cap, w', hr, h2, h3⟩ := run_append_ints o.type base v n l w hown ca m c cs hc hm h63 hbase
  unfold Oper.wp execOp
  simp only [ho, resolve, invoke, builtin, Sem.run_bind, Sem.run_pure, Result.andThen_ok, List.map_toArray, List.map_cons, List.map_nil, hs, hx, hr]
  exact h a' cap w' h2 h3

theorem wpList_append_ints {w : World} {ops : Array Oper} {rest : List Oper} {o : Oper} {a : Act} {Q : Exit → Act → World → Prop} (hgd : o.guard = none) (s x : Operand)
    (ho : o.op = .call { callee := .builtin .append, args := #[s, x], argTypes := #[36, 36] })
    (base : Nat) (v : Value) (n : Nat) (l : List Int) (hs : a.eval s = v) (hown : OwnI w base v n l) (ca : Option Addr) (m c : Nat) (cs : List Int) (hx : a.eval x = .slice ca m c) (hc : Ints w ca cs) (hm : cs.length = m) (h63 : n + m ≤ 9000000) (hbase : base ≤ w.heap.size)
    (h : ∀ a' cap w', OwnI w' base (.slice a' (n + m) cap) (n + m) (l ++ cs) → w.grownBy w' v.ownBlock → wpList Tryz.prog ops Q rest (a.put o.dst (.slice a' (n + m) cap)) w') : wpList Tryz.prog ops Q (o :: rest) a w :=
  wpList_plain hgd fun _ hK => wp_append_ints s x ho base v n l hs hown ca m c cs hx hc hm h63 hbase fun a' cap w' h2 h3 => hK _ _ (h a' cap w' h2 h3)

theorem step_append_ints {w : World} {ops : Array Oper} {o : Oper} {a : Act} {K : Act → World → Prop} {Q : Exit → Act → World → Prop} {E : Prop} (hgd : o.guard = none) (s x : Operand)
    (ho : o.op = .call { callee := .builtin .append, args := #[s, x], argTypes := #[36, 36] })
    (base : Nat) (v : Value) (n : Nat) (l : List Int) (hs : a.eval s = v) (hown : OwnI w base v n l) (ca : Option Addr) (m c : Nat) (cs : List Int) (hx : a.eval x = .slice ca m c) (hc : Ints w ca cs) (hm : cs.length = m) (h63 : n + m ≤ 9000000) (hbase : base ≤ w.heap.size)
    (h : ∀ a' cap w', OwnI w' base (.slice a' (n + m) cap) (n + m) (l ++ cs) → w.grownBy w' v.ownBlock → K (a.put o.dst (.slice a' (n + m) cap)) w') :
    if Region.wanted o (yielded ops a.tmps) = true then Oper.wp Tryz.prog o a w K Q else E := by
  have hw : Region.wanted o (yielded ops a.tmps) = true := by simp [Region.wanted, hgd]
  rw [if_pos hw]
  exact wp_append_ints s x ho base v n l hs hown ca m c cs hx hc hm h63 hbase h
end Go.Proofs.YtcgmmpfckmhahaaGreat

/- A row of numbers that fills a block. -/
namespace Go.Proofs.YtcgmmpfckmhahaaGreat
open Go.RowKit

/-- a row of numbers fills a block -/
def DRow (W : World) (b : Nat) (l : List Int) : Prop := W.heap[b]? = some (.cells (l.map (Value.int .i64)).toArray 3 (0, 0))
theorem DRow.kept {W W' : World} {b : Nat} {l : List Int} (h : DRow W b l) (hb : W'.heap[b]? = W.heap[b]?) : DRow W' b l := hb.trans h
theorem DRow.lt {W : World} {b : Nat} {l : List Int} (h : DRow W b l) : b < W.heap.size := (Array.getElem?_eq_some_iff.1 h).1
theorem DRow.cell {W : World} {b : Nat} {l : List Int} (h : DRow W b l) (i : Nat) (hi : i < l.length) : W.cell? ⟨b, i, none⟩ = some (.int .i64 l[i]) := by
  unfold World.cell?
  rw [show W.heap[b]? = _ from h]
  simp [hi]
theorem DRow.set {W : World} {b : Nat} {l : List Int} (h : DRow W b l) (k : Nat) (v : Int) : DRow (W.setCell ⟨b, k, none⟩ (.int .i64 v)) b (l.set k v) := by
  unfold DRow at *
  rw [setCell_eq_setRow W b k _ _ _ _ h, setRow_heap W b _ _ _ _ h]
  simp [List.map_set]
theorem cp_zeroD (n : Nat) : cp (List.replicate n (0 : Int)) 0 = ((List.replicate n (0 : Int)).map (Value.int .i64)).toArray := by
  unfold cp
  congr 1
  refine List.ext_getElem (by simp) (fun i h1 h2 => by simp)
theorem DRow.free {W : World} {b : Nat} {l : List Int} (h : DRow W b l) (i : Nat) : W.frozen? ⟨b, i, none⟩ = false := by
  unfold World.frozen?
  rw [show W.heap[b]? = _ from h]
  simp
end Go.Proofs.YtcgmmpfckmhahaaGreat

/- One int appended to a row of the call's own. -/
namespace Go.Proofs.YtcgmmpfckmhahaaGreat
open Go.RowKit

/-- the world behind an append: only v's own row has turned, and new blocks came -/
structure Grew (base : Nat) (w0 w' : World) (v : Value) (g : Nat) : Prop where
  os : w'.os = w0.os
  tape : w'.tape = w0.tape
  output : w'.output = w0.output
  size : w0.heap.size ≤ w'.heap.size
  own : ∀ k, v.ownBlock = some k → base ≤ k ∧ k < w0.heap.size
  block : ∀ k, k < w0.heap.size → some k ≠ v.ownBlock → w'.heap[k]? = w0.heap[k]?
  at_ : v.ownBlock = some g ∨ w0.heap.size ≤ g
  lt : g < w'.heap.size

theorem Grew.below {base g B : Nat} {w0 w' W : World} {v : Value} (h : Grew base w0 w' v g) (hb : Below B W w0) (hB : B ≤ base) (hs : B ≤ w0.heap.size) : Below B W w' :=
  hb.trans ⟨h.os, h.tape, h.output, h.size, fun k hk => h.block k (by omega) (fun e => by have := (h.own k e.symm).1; omega)⟩
theorem Grew.cell {base g : Nat} {w0 w' : World} {v : Value} (h : Grew base w0 w' v g) {a : Addr} (ha : a.block < w0.heap.size) (hf : v.ownBlock ≠ some a.block) : w'.cell? a = w0.cell? a :=
  World.cell?_of_block (w := w0) (h.block a.block ha (fun e => hf e.symm))
theorem Grew.far {base g b cap n : Nat} {w0 w' : World} {v : Value} (h : Grew base w0 w' v g) (hb : b < w0.heap.size) (hf : v.ownBlock ≠ some b) : (Value.slice (some ⟨g, 0, none⟩) n cap).ownBlock ≠ some b := by
  show some g ≠ some b
  intro e
  cases e
  rcases h.at_ with e | e
  · exact hf e
  · omega

theorem Grew.of {base g e size n : Nat} {w0 w' : World} {v : Value} {xs : List Value} {o : Obj} (hown : w0.ownsRow base e size v n xs) (hg : (w0.alloc o).grownBy w' v.ownBlock) (hat : v.ownBlock = some g ∨ g = (w0.alloc o).heap.size) (hlt : g < w'.heap.size) : Grew base w0 w' v g := by
  have hs := hg.size
  rw [World.size_alloc] at hs
  refine ⟨hg.os, hg.tape, hg.output, by omega, fun k hk => World.ownsRow.lt hown k hk, fun k hk hne => ?_, ?_, hlt⟩
  · rw [hg.block k (by rw [World.size_alloc]; omega) hne]; exact Below.heap_alloc _ _ _ hk
  · rcases hat with e | e
    · exact .inl e
    · rw [World.size_alloc] at e; exact .inr (by omega)

theorem wpList_app1 {ops : Array Oper} {rest : List Oper} {o : Oper} {a : Act} {Q : Exit → Act → World → Prop} (w0 : World) (hgd : o.guard = none) (s x : Operand)
    (ho : o.op = .call { callee := .builtin .append, args := #[s, x], argTypes := #[36, 36] })
    (base : Nat) (v : Value) (n : Nat) (l : List Int) (z : Int) (hs : a.eval s = v) (hown : OwnI w0 base v n l) (hx : a.eval x = .slice (some ⟨w0.heap.size, 0, none⟩) 1 1) (hn : n ≤ 2000000) (hb : base ≤ w0.heap.size)
    (h : ∀ g cap w', OwnI w' base (.slice (some ⟨g, 0, none⟩) (n + 1) cap) (n + 1) (l ++ [z]) → Grew base w0 w' v g → wpList Tryz.prog ops Q rest (a.put o.dst (.slice (some ⟨g, 0, none⟩) (n + 1) cap)) w') :
    wpList Tryz.prog ops Q (o :: rest) a (w0.alloc (.cells #[.int .i64 z] 3)) := by
  obtain ⟨i0, hi0, hz0, hz1, hz2⟩ := info_parts info_int
  refine wpList_append_lies _ hgd s x _ ho base 3 i0 (.int .i64 0) 1 8 Tryz.underlying36 hi0 hz0 hz1 hz2 rfl (by decide) v n (intsV l) hs (World.ownsRow.alloc (show World.ownsRow _ _ _ _ _ _ _ from hown) _) ⟨w0.heap.size, 0, none⟩ 1 1 [.int .i64 z] hx rfl (World.news_of_block (heap_alloc_new _ _)) (fun u hu => by simp at hu; subst hu; rfl) (by decide) (by unfold maxLen; omega) (by omega) (by rw [World.size_alloc]; omega) _ rfl ?_
  intro g cap w' hown' hg hat hlt
  exact h g cap w' (OwnI.more hown') (Grew.of hown hg hat hlt)

theorem OwnI.alloc {w : World} {B n : Nat} {v : Value} {l : List Int} (h : OwnI w B v n l) (o : Obj) : OwnI (w.alloc o) B v n l := World.ownsRow.alloc (show World.ownsRow _ _ _ _ _ _ _ from h) o
theorem OwnI.far {w : World} {B n : Nat} {v : Value} {l : List Int} (h : OwnI w B v n l) {b : Nat} (hb : w.heap.size ≤ b) : v.ownBlock ≠ some b := fun e => by have := (World.ownsRow.lt h b e).2; omega
end Go.Proofs.YtcgmmpfckmhahaaGreat

/- slices.Grow and slices.Concat over lists of numbers. -/
namespace Go.Proofs.YtcgmmpfckmhahaaGreat
open Go.RowKit

theorem size_zerosI (z : Value) (h : z.cells.size = 1) (k : Nat) : (Builtin.zeroCells z.cells k).size = k := by
  unfold Builtin.zeroCells
  simp [h]
set_option maxHeartbeats 4000000 in
set_option maxRecDepth 100000 in
theorem grow_nil (n : Nat) (w : World) (h0 : 0 < n) (hn : n ≤ 1000) : Calls Tryz.prog 95 #[.slice none 0 0, .int .i64 (n : Int)] w fun e w' => (∃ v, e = .returned v ∧ OwnI w' w.heap.size v 0 []) ∧ Below w.heap.size w w' := by
  obtain ⟨i0, hi0, hz0, hz1, hz2⟩ := info_parts info_int
  have h1 : ¬ ((n : Int) < 0) := by omega
  have h4 : (n : Int) > 0 := by omega
  have hrz : ∀ ty, (Builtin.append_ #[36, 3] ty #[.slice none 0 0, .int .i64 (n : Int)]).run Tryz.prog w =
      .ok (.slice (some ⟨w.heap.size, 0, none⟩) n (grownCap w n 0 3)) (w.drew.alloc (.cells (Builtin.zeroCells (Value.int .i64 0).cells n ++ Builtin.zeroCells (Value.int .i64 0).cells (grownCap w n 0 3 - n)) 3)) := fun ty =>
    Lib.run_append_nil_zeros w 36 3 ty 3 i0 (.int .i64 0) .i64 .i64 Tryz.underlying36 Tryz.underlying3 hi0 hz0 n h0 (by omega) (by omega) (by rw [hz2]; omega)
  have hGn : n ≤ grownCap w n 0 3 := grownCap_ge w _ _ _
  have hG63 : grownCap w n 0 3 ≤ maxLen := grownCap_le_maxLen w n 0 3 (by unfold maxLen; omega)
  obtain ⟨G, hG⟩ : ∃ G, G = grownCap w n 0 3 := ⟨_, rfl⟩
  rw [← hG] at hrz hGn hG63
  have hsz : (Builtin.zeroCells (Value.int .i64 0).cells n ++ Builtin.zeroCells (Value.int .i64 0).cells (G - n)).size = G * 1 := by
    rw [Array.size_append, size_zerosI _ rfl, size_zerosI _ rfl]; omega
  generalize Builtin.zeroCells (Value.int .i64 0).cells n ++ Builtin.zeroCells (Value.int .i64 0).cells (G - n) = cur at *
  have HE : Hid ((∃ v, Ending.returned (.slice (some ⟨w.heap.size, 0, none⟩) 0 G) = .returned v ∧ OwnI (w.drew.alloc (.cells cur 3)) w.heap.size v 0 []) ∧ Below w.heap.size w (w.drew.alloc (.cells cur 3))) :=
    ⟨⟨_, rfl, rfl, .inr ⟨w.heap.size, G, cur, rfl, Nat.le_refl _, heap_alloc_new w.drew _, Nat.zero_le _, hG63, hsz, by simp [intsV]⟩⟩, (Below.refl _ _).drew.alloc (Nat.le_refl _) _⟩
  have hG' : (G : Int) ≤ 9223372036854775807 := by unfold maxLen at hG63; omega
  clear hsz hG
  unfold maxLen at hG63
  go_enter Tryz.func95, Tryz.ntmps95
  go_wp2_with (at_builtin; refine Lib.wpList_append_run _ rfl _ _ _ _ rfl _ _ rfl rfl _ _ (hrz _) ?_)
  all_goals (go_ret; exact HE.out)
def ccSize (n1 n2 k : Nat) : Nat := if k = 0 then 0 else if k = 1 then n1 else n1 + n2
def ccRow (l1 l2 : List Int) (k : Nat) : List Int := if k = 0 then [] else if k = 1 then l1 else l1 ++ l2
/-- what stands at a place of the two lists -/
theorem cc_at {A : Nat} {a1 a2 : Option Addr} {n1 c1 n2 c2 : Nat} {l1 l2 : List Int} {w : World} (hA : w.heap[A]? = some (.cells #[.slice a1 n1 c1, .slice a2 n2 c2] 36 (0, 0))) (h1 : Ints w a1 l1) (h2 : Ints w a2 l2) (e1 : l1.length = n1) (e2 : l2.length = n2) (k : Nat) (hk : k < 2) :
    ∃ a n c l, w.cell? ⟨A, k, none⟩ = some (.slice a n c) ∧ Ints w a l ∧ l.length = n ∧ ccSize n1 n2 (k + 1) = ccSize n1 n2 k + n ∧ ccRow l1 l2 (k + 1) = ccRow l1 l2 k ++ l := by
  rcases (by omega : k = 0 ∨ k = 1) with rfl | rfl
  · exact ⟨a1, n1, c1, l1, by simp [World.cell?, hA], h1, e1, by simp [ccSize], by simp [ccRow]⟩
  · exact ⟨a2, n2, c2, l2, by simp [World.cell?, hA], h2, e2, by simp [ccSize], by simp [ccRow]⟩
theorem ccSize_le (n1 n2 k : Nat) : ccSize n1 n2 k ≤ n1 + n2 := by unfold ccSize; split; omega; split <;> omega
set_option maxHeartbeats 4000000 in
set_option maxRecDepth 100000 in
theorem concat_two (A : Nat) (a1 a2 : Option Addr) (n1 c1 n2 c2 : Nat) (l1 l2 : List Int) (w : World) (hA : w.heap[A]? = some (.cells #[.slice a1 n1 c1, .slice a2 n2 c2] 36 (0, 0))) (h1 : Ints w a1 l1) (h2 : Ints w a2 l2) (e1 : l1.length = n1) (e2 : l2.length = n2) (h0 : 0 < n1 + n2) (hn : n1 + n2 ≤ 1000) :
    Calls Tryz.prog 82 #[.slice (some ⟨A, 0, none⟩) 2 2] w fun e w' => (∃ a c, e = .returned (.slice a (n1 + n2) c) ∧ OwnI w' w.heap.size (.slice a (n1 + n2) c) (n1 + n2) (l1 ++ l2)) ∧ Below w.heap.size w w' := by
  have hAl : A < w.heap.size := (Array.getElem?_eq_some_iff.1 hA).1
  have HAT : Hid (∀ k, k < 2 → ∃ a n c l, w.cell? ⟨A, k, none⟩ = some (.slice a n c) ∧ Ints w a l ∧ l.length = n ∧ ccSize n1 n2 (k + 1) = ccSize n1 n2 k + n ∧ ccRow l1 l2 (k + 1) = ccRow l1 l2 k ++ l) := cc_at hA h1 h2 e1 e2
  clear hA h1 h2 e1 e2
  go_enter Tryz.func82, Tryz.ntmps82
  go_wp2_with fail
  go_loop [3, 11] (fun s i => ∃ k z : Nat, k ≤ 2 ∧ i = .int .i64 (k : Int) ∧ s = .int .i64 (z : Int) ∧ Hid (z = ccSize n1 n2 k)) (fun _ i => 2 - (intOf i).toNat)
  case atStart => exact ⟨0, 0, by omega, rfl, rfl, rfl⟩
  case round =>
    obtain ⟨k, z, hk, rfl, rfl, HZ⟩ := hrel
    by_cases hlt : k < 2
    · obtain ⟨a, n, c, l, q, _, _, hs, _⟩ := HAT.out k hlt
      have hb := ccSize_le n1 n2 (k + 1)
      have HS : Hid (z + n = ccSize n1 n2 (k + 1)) := by rw [hs, ← HZ.out]; exact rfl
      have hzn : z + n ≤ 1000 := by rw [HS.out]; omega
      have hki : (k : Int) < 2 := by omega
      clear hs hb HZ
      go_wp2_with fail
      go_round
      case rel => exact ⟨k + 1, z + n, by omega, by go_num, by go_num, HS⟩
      case measure => simp [intOf]; omega
    · have hki : ¬ (k : Int) < 2 := by omega
      have hk2 : k = 2 := by omega
      have HN : Hid (z = n1 + n2) := by have h := HZ.out; rw [hk2] at h; exact h
      have hz0 : 0 < z := by rw [HN.out]; exact h0
      have hz1 : z ≤ 1000 := by rw [HN.out]; exact hn
      clear HZ hk2
      go_wp2_with fail
      refine (grow_nil z w hz0 hz1).mono ?_
      rintro e W1 ⟨⟨v, rfl, hO⟩, hb⟩
      have HO1 : Hid (OwnI W1 w.heap.size v 0 [] ∧ Below w.heap.size w W1) := ⟨hO, hb⟩
      clear hO hb
      go_wp2_with fail
      go_loopw [6, 27] (fun o i wr => ∃ k m : Nat, k ≤ 2 ∧ i = .int .i64 (k : Int) ∧ Hid (OwnI wr w.heap.size o m (ccRow l1 l2 k) ∧ Below w.heap.size w wr ∧ m = ccSize n1 n2 k)) (fun _ i _ => 2 - (intOf i).toNat)
      case atStart => exact ⟨0, 0, by omega, rfl, HO1.out.1, HO1.out.2, rfl⟩
      case round =>
        obtain ⟨k, m, hk, rfl, HR⟩ := hrel
        clear HO1
        by_cases hlt : k < 2
        · obtain ⟨a, n, c, l, q, hi, hl, hs, hr⟩ := HAT.out k hlt
          have bR := HR.out.2.1
          have r0 := (bR.cell (p := ⟨A, k, none⟩) hAl).trans q
          have hbs := bR.size
          have HI : Hid (Ints wr a l) := hi.kept bR
          have HL : Hid (l.length = n) := hl
          have hb := ccSize_le n1 n2 (k + 1)
          have HS : Hid (m + n = ccSize n1 n2 (k + 1) ∧ ccRow l1 l2 (k + 1) = ccRow l1 l2 k ++ l) := by rw [hs, ← HR.out.2.2]; exact ⟨rfl, hr⟩
          have hzn : m + n ≤ 1000 := by rw [HS.out.1]; omega
          have hki : (k : Int) < 2 := by omega
          clear hs hb bR q hi hl hr
          go_wp2_with (at_builtin; refine wpList_append_ints (by rfl) _ _ (by rfl) w.heap.size _ m (ccRow l1 l2 k) (by rfl) HR.out.1 a n c l (by rfl) HI.out HL.out (by omega) hbs ?_; intro x cx w2 hO2 hG2)
          have HF : Hid (OwnI w2 w.heap.size (.slice x (m + n) cx) (m + n) (ccRow l1 l2 (k + 1)) ∧ Below w.heap.size w w2 ∧ m + n = ccSize n1 n2 (k + 1)) := ⟨by rw [HS.out.2]; exact hO2, HR.out.2.1.grown hG2 hbs (fun k hk => (World.ownsRow.lt (show World.ownsRow _ _ _ _ _ _ _ from HR.out.1) k hk).1), HS.out.1⟩
          clear hO2 hG2 HR HS
          go_wp2_with fail
          go_roundw
          case rel => exact ⟨k + 1, m + n, by omega, by go_num, HF⟩
          case measure => simp [intOf]; omega
        · have hki : ¬ (k : Int) < 2 := by omega
          have hk2 : k = 2 := by omega
          subst hk2
          have hmN : m = n1 + n2 := HR.out.2.2
          obtain ⟨ao, cap, rfl, _⟩ := HR.out.1.owns
          have HE : Hid ((∃ a c, Ending.returned (.slice ao m cap) = .returned (.slice a (n1 + n2) c) ∧ OwnI wr w.heap.size (.slice a (n1 + n2) c) (n1 + n2) (l1 ++ l2)) ∧ Below w.heap.size w wr) := by
            have h := HR.out.1
            rw [hmN] at h ⊢
            exact ⟨⟨_, _, rfl, h⟩, HR.out.2.1⟩
          clear hmN HR
          go_wp2_with fail
          go_ret
          exact HE.out
end Go.Proofs.YtcgmmpfckmhahaaGreat

/- A list of tokens (three numbers each) in memory. -/
namespace Go.Proofs.YtcgmmpfckmhahaaGreat
open Go.RowKit

abbrev Tk := Int × Int × Int
/-- the slice's cells read as the list: three cells an element -/
def Toks (w : World) (a : Option Addr) (l : List Tk) : Prop :=
  l = [] ∨ ∃ b off, a = some ⟨b, off, none⟩ ∧ b < w.heap.size ∧ ∀ i (h : i < l.length), w.cell? ⟨b, off + i * 3, none⟩ = some (.int .i64 (l[i]).1) ∧ w.cell? ⟨b, off + i * 3 + 1, none⟩ = some (.int .i64 (l[i]).2.1) ∧ w.cell? ⟨b, off + i * 3 + 2, none⟩ = some (.int .i64 (l[i]).2.2)

theorem Toks.kept {w w' : World} {a : Option Addr} {l : List Tk} (h : Toks w a l) (hb : Below w.heap.size w w') : Toks w' a l := by
  rcases h with h | ⟨b, off, rfl, hbB, hc⟩
  · exact .inl h
  · exact .inr ⟨b, off, rfl, Nat.lt_of_lt_of_le hbB hb.size, fun i hi => ⟨(hb.cell (p := ⟨b, off + i * 3, none⟩) hbB).trans (hc i hi).1, (hb.cell (p := ⟨b, off + i * 3 + 1, none⟩) hbB).trans (hc i hi).2.1, (hb.cell (p := ⟨b, off + i * 3 + 2, none⟩) hbB).trans (hc i hi).2.2⟩⟩

theorem Toks.at {w : World} {a : Option Addr} {l : List Tk} (h : Toks w a l) {i : Nat} (hi : i < l.length) :
    ∃ b off, a = some ⟨b, off, none⟩ ∧ b < w.heap.size ∧ w.cell? ⟨b, off + i * 3, none⟩ = some (.int .i64 (l[i]).1) ∧ w.cell? ⟨b, off + i * 3 + 1, none⟩ = some (.int .i64 (l[i]).2.1) ∧ w.cell? ⟨b, off + i * 3 + 2, none⟩ = some (.int .i64 (l[i]).2.2) := by
  rcases h with h | ⟨b, off, rfl, hbB, hc⟩
  · rw [h] at hi; simp at hi
  · exact ⟨b, off, rfl, hbB, hc i hi⟩
end Go.Proofs.YtcgmmpfckmhahaaGreat

/- A list of tokens in a row of one's own. -/
namespace Go.Proofs.YtcgmmpfckmhahaaGreat
open Go.RowKit

theorem info_tok : (Tryz.prog.info? 54).map (fun i => (i.zero, i.size, i.bytes)) = some (some (.agg #[.int .i64 0, .int .i64 0, .int .i64 0]), 3, 24) := by kernel_rfl

def tkCells : List Tk → List Value
  | [] => []
  | p :: l => .int .i64 p.1 :: .int .i64 p.2.1 :: .int .i64 p.2.2 :: tkCells l
theorem tkCells_len : ∀ l : List Tk, (tkCells l).length = l.length * 3
  | [] => rfl
  | p :: l => by simp only [tkCells, List.length_cons, tkCells_len l]; omega
theorem tkCells_get : ∀ (l : List Tk) (i : Nat) (h : i < l.length), (tkCells l)[i * 3]? = some (.int .i64 (l[i]).1) ∧ (tkCells l)[i * 3 + 1]? = some (.int .i64 (l[i]).2.1) ∧ (tkCells l)[i * 3 + 2]? = some (.int .i64 (l[i]).2.2)
  | [], i, h => by simp at h
  | p :: l, 0, h => by simp [tkCells]
  | p :: l, i + 1, h => by
    have := tkCells_get l i (by simpa using h)
    rw [show (i + 1) * 3 = i * 3 + 1 + 1 + 1 by omega, show i * 3 + 1 + 1 + 1 + 2 = i * 3 + 2 + 1 + 1 + 1 by omega]
    simp only [tkCells, List.getElem?_cons_succ, List.getElem_cons_succ]
    exact this
theorem tkCells_set : ∀ (l : List Tk) (k : Nat) (v s d : Int), k < l.length → (((tkCells l).set (k * 3) (.int .i64 v)).set (k * 3 + 1) (.int .i64 s)).set (k * 3 + 2) (.int .i64 d) = tkCells (l.set k (v, s, d))
  | [], k, v, s, d, h => by simp at h
  | p :: l, 0, v, s, d, h => by simp [tkCells]
  | p :: l, k + 1, v, s, d, h => by
    have := tkCells_set l k v s d (by simpa using h)
    rw [show (k + 1) * 3 = k * 3 + 1 + 1 + 1 by omega, show k * 3 + 1 + 1 + 1 + 2 = k * 3 + 2 + 1 + 1 + 1 by omega]
    simp only [tkCells, List.set_cons_succ]
    rw [this]

def OwnK (w : World) (B : Nat) (v : Value) (n : Nat) (l : List Tk) : Prop := w.ownsRow B 54 3 v n (tkCells l)
theorem OwnK.len {w : World} {B n : Nat} {v : Value} {l : List Tk} (h : OwnK w B v n l) : l.length = n := by
  have := h.1
  rw [tkCells_len] at this; omega
theorem OwnK.toks {w : World} {B n : Nat} {v : Value} {l : List Tk} (h : OwnK w B v n l) : ∃ ao cap, v = .slice ao n cap ∧ Toks w ao l := by
  have hl := h.len
  rcases h.2 with ⟨rfl, h0⟩ | ⟨g, cap, cur, rfl, _, hg, _, _, _, ht⟩
  · subst h0
    exact ⟨none, 0, rfl, .inl (List.eq_nil_of_length_eq_zero hl)⟩
  · refine ⟨some ⟨g, 0, none⟩, cap, rfl, .inr ⟨g, 0, rfl, (Array.getElem?_eq_some_iff.1 hg).1, fun i hi => ?_⟩⟩
    obtain ⟨c1, c2, c3⟩ := tkCells_get l i hi
    rw [Nat.zero_add]
    exact ⟨(World.ownsRow.cellAt h (i * 3) (by omega)).trans c1, (World.ownsRow.cellAt h (i * 3 + 1) (by omega)).trans c2, (World.ownsRow.cellAt h (i * 3 + 2) (by omega)).trans c3⟩
theorem OwnK.same {w w' : World} {B n : Nat} {v : Value} {l : List Tk} (h : OwnK w B v n l) (hk : ∀ k, k < w.heap.size → B ≤ k → w'.heap[k]? = w.heap[k]?) : OwnK w' B v n l := by
  refine ⟨h.1, ?_⟩
  rcases h.2 with h2 | ⟨g, cap, cur, hv, hg, hh, r⟩
  · exact .inl h2
  · exact .inr ⟨g, cap, cur, hv, hg, by rw [hk g (Array.getElem?_eq_some_iff.1 hh).1 hg]; exact hh, r⟩
theorem OwnK.put {w : World} {B n g cap k : Nat} {l : List Tk} (h : OwnK w B (.slice (some ⟨g, 0, none⟩) n cap) n l) (hk : k < n) (v s d : Int) :
    OwnK (((w.setCell ⟨g, k * 3, none⟩ (.int .i64 v)).setCell ⟨g, k * 3 + 1, none⟩ (.int .i64 s)).setCell ⟨g, k * 3 + 2, none⟩ (.int .i64 d)) B (.slice (some ⟨g, 0, none⟩) n cap) n (l.set k (v, s, d)) := by
  have h1 := (World.ownsRow.stored h (k * 3) (.int .i64 v)).1
  have h2 := (World.ownsRow.stored h1 (k * 3 + 1) (.int .i64 s)).1
  have h3 := (World.ownsRow.stored h2 (k * 3 + 2) (.int .i64 d)).1
  rw [tkCells_set l k v s d (by rw [h.len]; exact hk)] at h3
  exact h3

end Go.Proofs.YtcgmmpfckmhahaaGreat

/- What comes again in a text (mathematics). -/
namespace Go.Proofs.YtcgmmpfckmhahaaGreat
namespace Ty

/-- the byte at a place -/
def b (s : ByteArray) (i : Nat) : Nat := if h : i < s.size then (s[i]).toNat else 0
theorem b_at {s : ByteArray} {i : Nat} (h : i < s.size) : b s i = (s[i]).toNat := dif_pos h
theorem b_lt (s : ByteArray) (i : Nat) : b s i < 256 := by
  unfold b
  split
  · exact UInt8.toNat_lt _
  · omega
/-- how many are alike -/
def mat (s : ByteArray) : Nat → Nat → Nat → Nat
  | _, _, 0 => 0
  | a, c, f + 1 => if c < s.size ∧ b s a = b s c then mat s (a + 1) (c + 1) f + 1 else 0
theorem mat_yes {s : ByteArray} {a c f : Nat} (h1 : c < s.size) (h2 : b s a = b s c) : mat s a c (f + 1) = mat s (a + 1) (c + 1) f + 1 := by rw [mat, if_pos ⟨h1, h2⟩]
theorem mat_no {s : ByteArray} {a c f : Nat} (h : ¬ (c < s.size ∧ b s a = b s c)) : mat s a c f = 0 := by
  cases f with
  | zero => rfl
  | succ f => rw [mat, if_neg h]
theorem mat_le (s : ByteArray) : ∀ (f a c : Nat), mat s a c f ≤ f
  | 0, _, _ => Nat.le_refl _
  | f + 1, a, c => by
    rw [mat]
    split
    · have := mat_le s f (a + 1) (c + 1); omega
    · omega
theorem mat_in (s : ByteArray) : ∀ (f a c : Nat), c ≤ s.size → c + mat s a c f ≤ s.size
  | 0, _, _, h => h
  | f + 1, a, c, h => by
    rw [mat]
    split
    · rename_i h1
      have := mat_in s f (a + 1) (c + 1) (by omega); omega
    · exact h
theorem mat_same (s : ByteArray) : ∀ (f a c i : Nat), i < mat s a c f → b s (a + i) = b s (c + i)
  | 0, _, _, _, h => by simp [mat] at h
  | f + 1, a, c, i, h => by
    rw [mat] at h
    split at h
    · rename_i h1
      cases i with
      | zero => exact h1.2
      | succ i =>
        have := mat_same s f (a + 1) (c + 1) i (by omega)
        rw [show a + (i + 1) = a + 1 + i by omega, show c + (i + 1) = c + 1 + i by omega]
        exact this
    · omega
/-- three bytes stand there, and are those of the other place -/
def three (s : ByteArray) (p c : Nat) : Prop := c + 3 ≤ s.size ∧ b s p = b s c ∧ b s (p + 1) = b s (c + 1) ∧ b s (p + 2) = b s (c + 2)
theorem mat_three (s : ByteArray) (p c f : Nat) : 3 ≤ mat s p c (f + 3) ↔ three s p c := by
  unfold three
  constructor
  · intro h
    have h0 := mat_same s (f + 3) p c 0 (by omega)
    have h1 := mat_same s (f + 3) p c 1 (by omega)
    have h2 := mat_same s (f + 3) p c 2 (by omega)
    by_cases hc : c ≤ s.size
    · have := mat_in s (f + 3) p c hc
      exact ⟨by omega, h0, h1, h2⟩
    · rw [mat_no (by omega)] at h; omega
  · rintro ⟨h0, h1, h2, h3⟩
    rw [mat_yes (by omega) h1, mat_yes (by omega) h2, mat_yes (by omega) h3]
    omega

/-- one more place that is looked at -/
def upd (s : ByteArray) (A : Nat) (g : Nat × Nat) (p : Nat) : Nat × Nat := if g.1 < mat s p A 258 then (mat s p A 258, A - p) else g
/-- the best of those not farther back than k -/
def bst (s : ByteArray) (A : Nat) : Nat → Nat × Nat
  | 0 => (0, 0)
  | k + 1 => upd s A (bst s A k) (A - (k + 1))
theorem upd_le {s : ByteArray} {A : Nat} {g : Nat × Nat} (p : Nat) (h : g.1 ≤ 258) : (upd s A g p).1 ≤ 258 := by
  unfold upd
  split
  · exact mat_le _ _ _ _
  · exact h
theorem bst_le (s : ByteArray) (A : Nat) : ∀ k, (bst s A k).1 ≤ 258
  | 0 => by simp [bst]
  | k + 1 => upd_le _ (bst_le s A k)
/-- the best one is one of those that were looked at -/
theorem bst_is (s : ByteArray) (A : Nat) : ∀ k, k ≤ A → (bst s A k).1 = 0 ∨ (1 ≤ (bst s A k).2 ∧ (bst s A k).2 ≤ k ∧ (bst s A k).1 = mat s (A - (bst s A k).2) A 258)
  | 0, _ => .inl rfl
  | k + 1, h => by
    have ih := bst_is s A k (by omega)
    rw [bst, upd]
    split
    · right
      refine ⟨by show 1 ≤ A - (A - (k + 1)); omega, by show A - (A - (k + 1)) ≤ k + 1; omega, ?_⟩
      show _ = mat s (A - (A - (A - (k + 1)))) A 258
      rw [show A - (A - (A - (k + 1))) = A - (k + 1) by omega]
    · rcases ih with h1 | ⟨h1, h2, h3⟩
      · exact .inl h1
      · exact .inr ⟨h1, by omega, h3⟩
instance (s : ByteArray) (p c : Nat) : Decidable (three s p c) := by unfold three; infer_instance
/-- the places before A at which the same three bytes stand, ascending -/
def pls (s : ByteArray) (x y z : Nat) (A : Nat) : List Nat := (List.range A).filter (fun p => decide (p + 3 ≤ s.size ∧ b s p = x ∧ b s (p + 1) = y ∧ b s (p + 2) = z))
theorem pls_yes {s : ByteArray} {x y z A : Nat} (h : A + 3 ≤ s.size ∧ b s A = x ∧ b s (A + 1) = y ∧ b s (A + 2) = z) : pls s x y z (A + 1) = pls s x y z A ++ [A] := by
  unfold pls
  rw [List.range_succ, List.filter_append, List.filter_cons, if_pos (decide_eq_true h)]
  rfl
theorem pls_no {s : ByteArray} {x y z A : Nat} (h : ¬ (A + 3 ≤ s.size ∧ b s A = x ∧ b s (A + 1) = y ∧ b s (A + 2) = z)) : pls s x y z (A + 1) = pls s x y z A := by
  unfold pls
  rw [List.range_succ, List.filter_append, List.filter_cons, if_neg (by simpa using h)]
  simp
theorem pls_lt {s : ByteArray} {x y z A p : Nat} (h : p ∈ pls s x y z A) : p < A := by
  unfold pls at h
  rw [List.mem_filter] at h
  exact List.mem_range.1 h.1
theorem pls_len (s : ByteArray) (x y z A : Nat) : (pls s x y z A).length ≤ A := by
  have := List.length_filter_le (fun p => decide (p + 3 ≤ s.size ∧ b s p = x ∧ b s (p + 1) = y ∧ b s (p + 2) = z)) (List.range A)
  rw [List.length_range] at this
  exact this
theorem range_back (A : Nat) : (List.range A).reverse = (List.range A).map (fun i => A - (i + 1)) := by
  apply List.ext_getElem
  · simp
  · intro i h1 h2
    simp
    omega
/-- what the program finds: among those places, the nearest first -/
def gst (s : ByteArray) (A k : Nat) : Nat × Nat := (((List.range k).map (fun i => A - (i + 1))).filter (fun p => decide (three s p A))).foldl (upd s A) (0, 0)
theorem gst_is (s : ByteArray) (A : Nat) : ∀ k, gst s A k = if 3 ≤ (bst s A k).1 then bst s A k else (0, 0)
  | 0 => by simp [gst, bst]
  | k + 1 => by
    have ih := gst_is s A k
    have e : gst s A (k + 1) = if three s (A - (k + 1)) A then upd s A (gst s A k) (A - (k + 1)) else gst s A k := by
      unfold gst
      rw [List.range_succ, List.map_append, List.filter_append, List.foldl_append]
      by_cases h : three s (A - (k + 1)) A
      · simp [h]
      · simp [h]
    rw [e, ih]
    have hm := mat_three s (A - (k + 1)) A 255
    rw [bst]
    by_cases h : three s (A - (k + 1)) A
    · have hm3 : 3 ≤ mat s (A - (k + 1)) A 258 := hm.2 h
      rw [if_pos h]
      by_cases h3 : 3 ≤ (bst s A k).1
      · rw [if_pos h3]
        unfold upd
        by_cases h4 : (bst s A k).1 < mat s (A - (k + 1)) A 258
        · rw [if_pos h4, if_pos (show 3 ≤ (mat s (A - (k + 1)) A 258, A - (A - (k + 1))).1 from hm3)]
        · rw [if_neg h4, if_pos h3]
      · rw [if_neg h3]
        unfold upd
        rw [if_pos (show ((0, 0) : Nat × Nat).1 < mat s (A - (k + 1)) A 258 by show 0 < _; omega), if_pos (show (bst s A k).1 < mat s (A - (k + 1)) A 258 by omega), if_pos (show 3 ≤ (mat s (A - (k + 1)) A 258, A - (A - (k + 1))).1 from hm3)]
    · have hm3 : ¬ 3 ≤ mat s (A - (k + 1)) A 258 := fun q => h (hm.1 q)
      rw [if_neg h]
      unfold upd
      by_cases h3 : 3 ≤ (bst s A k).1
      · rw [if_neg (show ¬ (bst s A k).1 < mat s (A - (k + 1)) A 258 by omega)]
      · rw [if_neg h3]
        by_cases h4 : (bst s A k).1 < mat s (A - (k + 1)) A 258
        · rw [if_pos h4, if_neg (show ¬ 3 ≤ (mat s (A - (k + 1)) A 258, A - (A - (k + 1))).1 from hm3)]
        · rw [if_neg h4, if_neg h3]
/-- .. and breaks off where no longer one can come -/
def lok (s : ByteArray) (A : Nat) : List Nat → Nat × Nat → Nat × Nat
  | [], g => g
  | p :: l, g => if (upd s A g p).1 = 258 then upd s A g p else lok s A l (upd s A g p)
theorem fold_full (s : ByteArray) (A : Nat) : ∀ (l : List Nat) (g : Nat × Nat), g.1 = 258 → l.foldl (upd s A) g = g
  | [], _, _ => rfl
  | p :: l, g, h => by
    have e : upd s A g p = g := by
      unfold upd
      rw [if_neg (by have := mat_le s 258 p A; omega)]
    rw [List.foldl_cons, e]
    exact fold_full s A l g h
theorem lok_is (s : ByteArray) (A : Nat) : ∀ (l : List Nat) (g : Nat × Nat), lok s A l g = l.foldl (upd s A) g
  | [], _ => rfl
  | p :: l, g => by
    rw [lok, List.foldl_cons]
    split
    · rename_i h
      rw [fold_full s A l _ h]
    · exact lok_is s A l _
theorem lok_best (s : ByteArray) (A : Nat) (hA : A + 3 ≤ s.size) : lok s A (pls s (b s A) (b s (A + 1)) (b s (A + 2)) A).reverse (0, 0) = if 3 ≤ (bst s A A).1 then bst s A A else (0, 0) := by
  rw [lok_is, ← gst_is]
  unfold gst pls
  rw [← range_back, ← List.filter_reverse]
  congr 1
  apply List.filter_congr
  intro p hp
  have hp' : p < A := by simpa using hp
  unfold three
  have e : (p + 3 ≤ s.size ∧ b s p = b s A ∧ b s (p + 1) = b s (A + 1) ∧ b s (p + 2) = b s (A + 2)) ↔ (A + 3 ≤ s.size ∧ b s p = b s A ∧ b s (p + 1) = b s (A + 1) ∧ b s (p + 2) = b s (A + 2)) :=
    ⟨fun h => ⟨hA, h.2⟩, fun h => ⟨by omega, h.2⟩⟩
  exact decide_eq_decide.2 e
theorem bst_short {s : ByteArray} {A : Nat} (hA : ¬ A + 3 ≤ s.size) (k : Nat) (hk : k ≤ A) (h1 : A ≤ s.size) : ¬ 3 ≤ (bst s A k).1 := by
  intro h
  rcases bst_is s A k hk with h0 | ⟨_, _, h3⟩
  · omega
  · have := mat_in s 258 (A - (bst s A k).2) A h1
    omega

/-- the token at a place, and where the next one stands -/
def tok (s : ByteArray) (A : Nat) : Tk := if 3 ≤ (bst s A A).1 then (0, ((bst s A A).1 : Int), ((bst s A A).2 : Int)) else ((b s A : Int), 0, 0)
def adv (s : ByteArray) (A : Nat) : Nat := if 3 ≤ (bst s A A).1 then (bst s A A).1 else 1
theorem adv_pos (s : ByteArray) (A : Nat) : 1 ≤ adv s A := by unfold adv; split <;> omega
theorem adv_in {s : ByteArray} {A : Nat} (h : A < s.size) : A + adv s A ≤ s.size := by
  unfold adv
  split
  · rename_i h3
    rcases bst_is s A A (Nat.le_refl _) with h0 | ⟨_, _, h4⟩
    · omega
    · rw [h4]
      exact mat_in s 258 _ A (by omega)
  · omega
def all (s : ByteArray) : Nat → Nat → List Tk
  | 0, _ => []
  | f + 1, A => if A < s.size then tok s A :: all s f (A + adv s A) else []
theorem all_fuel (s : ByteArray) : ∀ (f f' A : Nat), s.size - A ≤ f → s.size - A ≤ f' → all s f A = all s f' A
  | 0, 0, _, _, _ => rfl
  | 0, f' + 1, A, h, _ => by rw [all, all, if_neg (by omega)]
  | f + 1, 0, A, _, h => by rw [all, all, if_neg (by omega)]
  | f + 1, f' + 1, A, h, h' => by
    rw [all, all]
    by_cases hA : A < s.size
    · rw [if_pos hA, if_pos hA, all_fuel s f f' _ (by have := adv_pos s A; omega) (by have := adv_pos s A; omega)]
    · rw [if_neg hA, if_neg hA]
def from_ (s : ByteArray) (A : Nat) : List Tk := all s (s.size - A) A
theorem from_step {s : ByteArray} {A : Nat} (h : A < s.size) : from_ s A = tok s A :: from_ s (A + adv s A) := by
  unfold from_
  obtain ⟨f, hf⟩ : ∃ f, s.size - A = f + 1 := ⟨s.size - A - 1, by omega⟩
  rw [hf, all, if_pos h, all_fuel s f (s.size - (A + adv s A)) _ (by have := adv_pos s A; omega) (Nat.le_refl _)]
theorem from_end {s : ByteArray} {A : Nat} (h : ¬ A < s.size) : from_ s A = [] := by
  unfold from_
  rw [show s.size - A = 0 by omega]; rfl
theorem all_len (s : ByteArray) : ∀ f A, (all s f A).length ≤ f
  | 0, _ => Nat.le_refl _
  | f + 1, A => by
    rw [all]
    split
    · rw [List.length_cons]; have := all_len s f (A + adv s A); omega
    · simp
theorem from_len (s : ByteArray) (A : Nat) : (from_ s A).length ≤ s.size - A := all_len s _ _
end Ty
end Go.Proofs.YtcgmmpfckmhahaaGreat

/- Lengths as symbols: noughts in a row, and what comes again (mathematics); a row of symbols with their further bits. -/
namespace Go.Proofs.YtcgmmpfckmhahaaGreat
open Go.RowKit
namespace Df
/-- how many are the same from a place on -/
def alike (l : List Int) (p : Nat) : Nat := 1 + ((l.drop (p + 1)).takeWhile (fun z => z == l.getD p 0)).length
theorem alike_step {l : List Int} {p n : Nat} (h : p + n < l.length) (he : l[p + n] = l.getD p 0) : ((l.drop (p + n)).takeWhile (fun z => z == l.getD p 0)).length = 1 + ((l.drop (p + (n + 1))).takeWhile (fun z => z == l.getD p 0)).length := by
  rw [List.drop_eq_getElem_cons h, List.takeWhile_cons, he, beq_self_eq_true, if_pos rfl, List.length_cons, Nat.add_comm, Nat.add_assoc]
theorem alike_stop {l : List Int} {p n : Nat} (h : ∀ h : p + n < l.length, l[p + n] ≠ l.getD p 0) : ((l.drop (p + n)).takeWhile (fun z => z == l.getD p 0)).length = 0 := by
  by_cases h1 : p + n < l.length
  · rw [List.drop_eq_getElem_cons h1, List.takeWhile_cons]
    have h2 : (l[p + n] == l.getD p 0) = false := beq_eq_false_iff_ne.2 (h h1)
    rw [h2]
    rfl
  · rw [List.drop_eq_nil_of_le (by omega)]
    rfl
theorem alike_le {l : List Int} {p : Nat} (h : p < l.length) : p + alike l p ≤ l.length := by
  unfold alike
  have h1 := (List.takeWhile_sublist (fun z => z == l.getD p 0) (l := l.drop (p + 1))).length_le
  rw [List.length_drop] at h1
  omega
theorem alike_pos (l : List Int) (p : Nat) : 1 ≤ alike l p := by unfold alike; omega
/-- how many numbers are needed -/
def usedF (l : List Int) (least : Nat) : Nat → Nat
  | 0 => 0
  | n + 1 => if least < n + 1 ∧ l.getD n 0 = 0 then usedF l least n else n + 1
def used (l : List Int) (least : Nat) : Nat := usedF l least l.length
theorem usedF_le (l : List Int) (least : Nat) : ∀ n, usedF l least n ≤ n
  | 0 => Nat.le_refl _
  | n + 1 => by
    unfold usedF
    split
    · exact Nat.le_succ_of_le (usedF_le l least n)
    · exact Nat.le_refl _
theorem usedF_ge (l : List Int) (least : Nat) : ∀ n, least ≤ n → least ≤ usedF l least n
  | 0, h => h
  | n + 1, h => by
    unfold usedF
    split
    · next h1 => exact usedF_ge l least n (by omega)
    · exact h
theorem used_le (l : List Int) (least : Nat) : used l least ≤ l.length := usedF_le l least _
theorem used_ge {l : List Int} {least : Nat} (h : least ≤ l.length) : least ≤ used l least := usedF_ge l least _ h
/-- the sign of the lengths that stand next, and of how many -/
def run (l : List Int) (p : Nat) : Tk × Nat :=
  if l.getD p 0 = 0 ∧ 11 ≤ alike l p then ((18, ((min (alike l p) 138 - 11 : Nat) : Int), 7), min (alike l p) 138)
  else if l.getD p 0 = 0 ∧ 3 ≤ alike l p then ((17, ((alike l p - 3 : Nat) : Int), 3), alike l p)
  else if 0 < p ∧ l.getD p 0 = l.getD (p - 1) 0 ∧ 3 ≤ alike l p then ((16, ((min (alike l p) 6 - 3 : Nat) : Int), 2), min (alike l p) 6)
  else ((l.getD p 0, 0, 0), 1)
theorem run_pos (l : List Int) (p : Nat) : 1 ≤ (run l p).2 := by
  unfold run
  split
  · show 1 ≤ min _ _; omega
  · split
    · show 1 ≤ alike l p; omega
    · split
      · show 1 ≤ min _ _; omega
      · exact Nat.le_refl _
theorem run_in {l : List Int} {p : Nat} (h : p < l.length) : p + (run l p).2 ≤ l.length := by
  have h1 := alike_le h
  unfold run
  split
  · show p + min _ _ ≤ _; omega
  · split
    · exact h1
    · split
      · show p + min _ _ ≤ _; omega
      · show p + 1 ≤ _; omega
def runsF (l : List Int) : Nat → Nat → List Tk
  | 0, _ => []
  | f + 1, p => if p < l.length then (run l p).1 :: runsF l f (p + (run l p).2) else []
theorem runs_fuel (l : List Int) : ∀ (f f' p : Nat), l.length - p ≤ f → l.length - p ≤ f' → runsF l f p = runsF l f' p
  | 0, 0, _, _, _ => rfl
  | 0, f' + 1, p, h, _ => by unfold runsF; rw [if_neg (by omega)]
  | f + 1, 0, p, _, h => by unfold runsF; rw [if_neg (by omega)]
  | f + 1, f' + 1, p, h, h' => by
    unfold runsF
    have := run_pos l p
    by_cases hp : p < l.length
    · rw [if_pos hp, if_pos hp, runs_fuel l f f' _ (by omega) (by omega)]
    · rw [if_neg hp, if_neg hp]
def runsFrom (l : List Int) (p : Nat) : List Tk := runsF l (l.length - p) p
def runs (l : List Int) : List Tk := runsFrom l 0
theorem runs_step {l : List Int} {p : Nat} (h : p < l.length) : runsFrom l p = (run l p).1 :: runsFrom l (p + (run l p).2) := by
  unfold runsFrom
  obtain ⟨f, hf⟩ : ∃ f, l.length - p = f + 1 := ⟨l.length - p - 1, by omega⟩
  rw [hf]
  show (if p < l.length then _ else _) = _
  rw [if_pos h, runs_fuel l f (l.length - (p + (run l p).2)) _ (by have := run_pos l p; omega) (Nat.le_refl _)]
theorem runs_end {l : List Int} {p : Nat} (h : ¬ p < l.length) : runsFrom l p = [] := by
  unfold runsFrom
  rw [show l.length - p = 0 by omega]
  rfl
theorem runsF_len (l : List Int) : ∀ f p, (runsF l f p).length ≤ f
  | 0, _ => Nat.le_refl _
  | f + 1, p => by
    unfold runsF
    split
    · rw [List.length_cons]; exact Nat.succ_le_succ (runsF_len l f _)
    · exact Nat.zero_le _
theorem runs_len (l : List Int) : (runs l).length ≤ l.length := runsF_len l _ _
end Df
theorem tkCells_snocR : ∀ (l : List Tk) (v s d : Int), tkCells l ++ [.int .i64 v, .int .i64 s, .int .i64 d] = tkCells (l ++ [(v, s, d)])
  | [], _, _, _ => rfl
  | p :: l, v, s, d => by
    have := tkCells_snocR l v s d
    simp only [tkCells, List.cons_append] at this ⊢
    rw [← this]
/-- a row of three numbers each, of some type -/
def Own3 (T : TypeId) (w : World) (B : Nat) (v : Value) (n : Nat) (l : List Tk) : Prop := w.ownsRow B T 3 v n (tkCells l)
theorem Own3.below {T : TypeId} {w w' : World} {B n : Nat} {v : Value} {l : List Tk} (h : Own3 T w B v n l) (b : Below w.heap.size w w') : Own3 T w' B v n l := by
  have hg : w.grownBy w' none := ⟨b.os, b.tape, b.output, b.size, fun k hk _ => b.block k hk⟩
  refine World.ownsRow.kept (show World.ownsRow _ _ _ _ _ _ _ from h) hg ?_
  cases v.ownBlock with
  | none => exact .inl rfl
  | some k => exact .inr (by simp)
theorem Own3.len {T : TypeId} {w : World} {B n : Nat} {v : Value} {l : List Tk} (h : Own3 T w B v n l) : l.length = n := by
  have := h.1
  rw [tkCells_len] at this
  omega
theorem wpList_app3 {T TS : TypeId} (hT : (Tryz.prog.info? T).map (fun i => (i.zero, i.size, i.bytes)) = some (some (.agg #[.int .i64 0, .int .i64 0, .int .i64 0]), 3, 24)) (hU : Tryz.prog.underlying TS = some (.slice T))
    {ops : Array Oper} {rest : List Oper} {o : Oper} {a : Act} {Q : Exit → Act → World → Prop} (w0 : World) (hgd : o.guard = none) (s x : Operand)
    (ho : o.op = .call { callee := .builtin .append, args := #[s, x], argTypes := #[TS, TS] })
    (base : Nat) (v : Value) (n : Nat) (l : List Tk) (t1 t2 t3 : Int) (hs : a.eval s = v) (hown : Own3 T w0 base v n l) (hx : a.eval x = .slice (some ⟨w0.heap.size, 0, none⟩) 1 1) (hn : n ≤ 1000000) (hb : base ≤ w0.heap.size)
    (h : ∀ g cap w', Own3 T w' base (.slice (some ⟨g, 0, none⟩) (n + 1) cap) (n + 1) (l ++ [(t1, t2, t3)]) → Below base w0 w' → wpList Tryz.prog ops Q rest (a.put o.dst (.slice (some ⟨g, 0, none⟩) (n + 1) cap)) w') :
    wpList Tryz.prog ops Q (o :: rest) a (w0.alloc (.cells #[.int .i64 t1, .int .i64 t2, .int .i64 t3] T)) := by
  obtain ⟨i0, hi0, hz0, hz1, hz2⟩ := info_parts hT
  refine wpList_append_lies _ hgd s x _ ho base T i0 (.agg #[.int .i64 0, .int .i64 0, .int .i64 0]) 3 24 hU hi0 hz0 hz1 hz2 rfl (by decide) v n (tkCells l) hs (World.ownsRow.alloc (show World.ownsRow _ _ _ _ _ _ _ from hown) _) ⟨w0.heap.size, 0, none⟩ 1 1 [.int .i64 t1, .int .i64 t2, .int .i64 t3] hx rfl (World.news_of_block (heap_alloc_new _ _)) (fun u hu => by simp at hu; rcases hu with rfl | rfl | rfl <;> rfl) (by decide) (by unfold maxLen; omega) (by omega) (by rw [World.size_alloc]; omega) _ rfl ?_
  intro g cap w' hown' hg _ _
  rw [tkCells_snocR] at hown'
  exact h g cap w' hown' (((Below.refl base w0).alloc hb _).grown hg (by rw [World.size_alloc]; omega) (fun k hk => (World.ownsRow.lt (show World.ownsRow _ _ _ _ _ _ _ from hown) k hk).1))
end Go.Proofs.YtcgmmpfckmhahaaGreat

/- Plain mathematics of bits of a text as a number: the lowest first, or the highest first. -/
namespace Go.Proofs.YtcgmmpfckmhahaaGreat
namespace Bg

/-- the highest first, of the first k -/
def big (b : Nat → Nat) : Nat → Nat
  | 0 => 0
  | k + 1 => 2 * big b k + b k

/-- the lowest first, of the first k -/
def low (b : Nat → Nat) : Nat → Nat
  | 0 => 0
  | k + 1 => low b k + b k * 2 ^ k

theorem big_lt (b : Nat → Nat) (hb : ∀ i, b i < 2) : ∀ k, big b k < 2 ^ k := by
  intro k
  induction k with
  | zero => simp [big]
  | succ k ih => have := hb k; simp only [big, Nat.pow_succ]; omega

def num (b : Nat → Nat) (size : Nat) (hi : Bool) : Nat := if hi then big b size else low b size

/-- where in its byte a bit stands -/
def spot (hi : Bool) (i : Nat) : Nat := if hi then 7 - i % 8 else i % 8
theorem spot_le (hi : Bool) (i : Nat) : spot hi i ≤ 7 := by unfold spot; split <;> omega
end Bg
end Go.Proofs.YtcgmmpfckmhahaaGreat

/- A number of so many bits the other way round: the specification's way, and the program's. -/
namespace Go.Proofs.YtcgmmpfckmhahaaGreat
open Go.RowKit

/-- a number's bits the other way round -/
def turned (n size : Nat) : Nat := Bg.big (fun i => n / 2 ^ i % 2) size
theorem turned_lt (n size : Nat) : turned n size < 2 ^ size := Bg.big_lt _ (fun _ => Nat.mod_lt _ (by omega)) size

set_option maxHeartbeats 400000 in
theorem l3Turn_any (n size : Nat) (w : World) (hn : n ≤ 16777216) (hs : size ≤ 15) :
    Calls Tryz.prog 60 #[.int .i64 n, .int .i64 size] w fun e w' => e = .returned (.int .i64 (turned n size : Nat)) ∧ w' = w := by
  go_enter Tryz.func60, Tryz.ntmps60
  go_wp2_with fail
  go_loop [0, 5, 6] (fun m x i => ∃ k y z : Nat, k ≤ size ∧ i = .int .i64 k ∧ y = turned n k ∧ x = .int .i64 y ∧ z = n / 2 ^ k ∧ m = .int .i64 z) (fun _ _ i => size - (intOf i).toNat)
  case atStart => exact ⟨0, 0, n, Nat.zero_le _, rfl, rfl, rfl, by simp, rfl⟩
  case round =>
    obtain ⟨k, y, z, hk, rfl, hy, rfl, hz, rfl⟩ := hrel
    have hyl := turned_lt n k
    have hp : 2 ^ k ≤ 2 ^ 15 := Nat.pow_le_pow_right (by omega) (by omega)
    have hzl : z ≤ n := by rw [hz]; exact Nat.div_le_self _ _
    rw [← hy] at hyl
    have hyb : y ≤ 32768 := by omega
    have HY : Hid (2 * y + z % 2 = turned n (k + 1)) := by show _ = _; rw [hy, hz]; rfl
    have HZ : Hid (z / 2 = n / 2 ^ (k + 1)) := by show _ = _; rw [hz, Nat.div_div_eq_div_mul, Nat.pow_succ]
    have HX : Hid (y = turned n k) := hy
    clear hy hz hyl hp
    by_cases hlt : k < size
    · go_wp2_with fail
      go_round
      case rel => exact ⟨k + 1, 2 * y + z % 2, z / 2, by omega, by go_num, HY.out, by go_num, HZ.out, by go_num⟩
      case measure => simp [intOf]; omega
    · have hk' : k = size := by omega
      subst hk'
      go_wp2_with fail
      go_ret
      exact ⟨ret_int (by rw [HX.out]), rfl⟩

theorem or_turn (y z v : Nat) (hy : y ≤ 32768) (hz : z ≤ 16777216) (hv : v = 2 * y + z % 2) : bits .or .i64 ((y : Int) * 2) (bits .and .i64 (z : Int) 1) = (v : Int) := by
  have h1 := i64_and_nat z 1 (by omega) (by omega)
  rw [show ((1 : Nat) : Int) = 1 from rfl, Nat.and_one_is_mod] at h1
  rw [h1, show (y : Int) * 2 = ((2 * y : Nat) : Int) by omega, i64_or_nat _ _ (by omega) (by omega), hv]
  congr 1
  have h2 : z % 2 < 2 ^ 1 := by omega
  have := Nat.two_pow_add_eq_or_of_lt h2 y
  rw [Nat.pow_one] at this
  omega

set_option maxHeartbeats 400000 in
theorem turnRound_any (n size : Nat) (w : World) (hn : n ≤ 16777216) (hs : size ≤ 15) :
    Calls Tryz.prog 69 #[.int .i64 n, .int .i64 size] w fun e w' => e = .returned (.int .i64 (turned n size : Nat)) ∧ w' = w := by
  go_enter Tryz.func69, Tryz.ntmps69
  go_wp2_with fail
  go_loop [0, 5, 7] (fun m x i => ∃ k y z : Nat, k ≤ size ∧ i = .int .i64 k ∧ y = turned n k ∧ x = .int .i64 y ∧ z = n / 2 ^ k ∧ m = .int .i64 z) (fun _ _ i => size - (intOf i).toNat)
  case atStart => exact ⟨0, 0, n, Nat.zero_le _, rfl, rfl, rfl, by simp, rfl⟩
  case round =>
    obtain ⟨k, y, z, hk, rfl, hy, rfl, hz, rfl⟩ := hrel
    have hyl := turned_lt n k
    have hp : 2 ^ k ≤ 2 ^ 15 := Nat.pow_le_pow_right (by omega) (by omega)
    have hzl : z ≤ n := by rw [hz]; exact Nat.div_le_self _ _
    rw [← hy] at hyl
    have hyb : y ≤ 32768 := by omega
    have hzb : z ≤ 16777216 := by omega
    obtain ⟨v, hv⟩ : ∃ v, v = 2 * y + z % 2 := ⟨_, rfl⟩
    have hor := or_turn y z v hyb hzb hv
    have HY : Hid (v = turned n (k + 1)) := by show _ = _; rw [hv, hy, hz]; rfl
    have HZ : Hid (z / 2 = n / 2 ^ (k + 1)) := by show _ = _; rw [hz, Nat.div_div_eq_div_mul, Nat.pow_succ]
    have HX : Hid (y = turned n k) := hy
    clear hy hz hyl hp hv
    by_cases hlt : k < size
    · go_wp2_with fail
      go_round
      case rel => exact ⟨k + 1, v, z / 2, by omega, by go_num, HY.out, by first | rfl | go_num, HZ.out, by go_num⟩
      case measure => simp [intOf]; omega
    · have hk' : k = size := by omega
      subst hk'
      go_wp2_with fail
      go_ret
      exact ⟨ret_int (by rw [HX.out]), rfl⟩
end Go.Proofs.YtcgmmpfckmhahaaGreat

/- A symbol as bits: the specification's l3Sym. -/
namespace Go.Proofs.YtcgmmpfckmhahaaGreat
open Go.RowKit

theorem Ints.at {w : World} {a : Option Addr} {zs : List Int} (h : Ints w a zs) {i : Nat} (hi : i < zs.length) :
    ∃ b off, a = some ⟨b, off, none⟩ ∧ b < w.heap.size ∧ w.cell? ⟨b, off + i, none⟩ = some (.int .i64 zs[i]) := by
  rcases h with h | ⟨b, off, rfl, hbB, hc⟩
  · rw [h] at hi; simp at hi
  · exact ⟨b, off, rfl, hbB, hc i hi⟩

set_option maxHeartbeats 1000000 in
set_option maxRecDepth 20000 in
theorem l3Sym_any (a1 a2 : Option Addr) (n c1 c2 k V S : Nat) (cs ls : List Int) (w : World) (h1 : Ints w a1 cs) (h2 : Ints w a2 ls) (hn1 : cs.length = n) (hn2 : ls.length = n) (hk : k < n)
    (hV : cs[k]'(by omega) = (V : Int)) (hS : ls[k]'(by omega) = (S : Int)) (hVb : V ≤ 16777216) (hSb : S ≤ 15) :
    Calls Tryz.prog 33 #[.slice a1 n c1, .slice a2 n c2, .int .i64 k] w fun e w' => e = .returned (.agg #[.int .i64 (turned V S : Nat), .int .i64 S]) ∧ Below w.heap.size w w' := by
  obtain ⟨b1, o1, rfl, hb1, e1⟩ := h1.at (show k < cs.length by omega)
  obtain ⟨b2, o2, rfl, hb2, e2⟩ := h2.at (show k < ls.length by omega)
  rw [hV] at e1
  rw [hS] at e2
  have hki : (k : Int) < (n : Int) := by omega
  have hk0 : (0 : Int) ≤ (k : Int) := by omega
  have HT : Hid (∀ w, Calls Tryz.prog 60 #[.int .i64 V, .int .i64 S] w fun e w' => e = .returned (.int .i64 (turned V S : Nat)) ∧ w' = w) := fun w => l3Turn_any V S w hVb hSb
  generalize turned V S = T at *
  clear h1 h2 hn1 hn2 hV hS
  have f1 : (w.alloc (.cells #[.int .i64 0, .int .i64 0] 32)).cell? ⟨b1, o1 + k, none⟩ = some (.int .i64 (V : Int)) := (World.cell?_alloc_past _ _ _ hb1).trans e1
  have f2 : (w.alloc (.cells #[.int .i64 0, .int .i64 0] 32)).cell? ⟨b2, o2 + k, none⟩ = some (.int .i64 (S : Int)) := (World.cell?_alloc_past _ _ _ hb2).trans e2
  have f3 : (w.alloc (.cells #[.int .i64 0, .int .i64 0] 32)).cell? ⟨w.heap.size, 0, none⟩ = some (.int .i64 0) := by rw [World.cell?_alloc_at _ _ _ _ rfl]; rfl
  have f4 : (w.alloc (.cells #[.int .i64 0, .int .i64 0] 32)).cell? ⟨w.heap.size, 1, none⟩ = some (.int .i64 0) := by rw [World.cell?_alloc_at _ _ _ _ rfl]; rfl
  have f5 : (w.alloc (.cells #[.int .i64 0, .int .i64 0] 32)).frozen? ⟨w.heap.size, 0, none⟩ = false := by rw [World.frozen?_alloc_at _ _ _ _ rfl]
  have f6 : (w.alloc (.cells #[.int .i64 0, .int .i64 0] 32)).frozen? ⟨w.heap.size, 1, none⟩ = false := by rw [World.frozen?_alloc_at _ _ _ _ rfl]
  have hbel : Below w.heap.size w (w.alloc (.cells #[.int .i64 0, .int .i64 0] 32)) := (Below.refl _ _).alloc (Nat.le_refl _) _
  have HF : Hid (_ ∧ _ ∧ _ ∧ _ ∧ _ ∧ _ ∧ _) := ⟨f1, f2, f3, f4, f5, f6, hbel⟩
  clear f1 f2 f3 f4 f5 f6 hbel
  go_enter Tryz.func33, Tryz.ntmps33
  go_wp2_with fail
  obtain ⟨f1, f2, f3, f4, f5, f6, hbel⟩ := HF.out
  clear HF e1 e2 hb1 hb2
  generalize w.alloc (.cells #[.int .i64 0, .int .i64 0] 32) = W at *
  go_still_tail 14, (by kernel_rfl)
  still_call (HT.out _)
  repeat still_step
  refine wpStill_nil ?_
  go_wp2_with fail
  refine bodyPost_ret (v := .agg #[.int .i64 (T : Int), .int .i64 (S : Int)]) (by simp [results, Tryz.results33, go_sem, *]) rfl ⟨rfl, (hbel.drew.setCell (p := ⟨w.heap.size, 0, none⟩) (Nat.le_refl _) _).setCell (p := ⟨w.heap.size, 1, none⟩) (Nat.le_refl _) _⟩
end Go.Proofs.YtcgmmpfckmhahaaGreat

/- A list of bits (a number and a size each) in memory. -/
namespace Go.Proofs.YtcgmmpfckmhahaaGreat
open Go.RowKit

/-- the slice's cells read as the list: two cells an element -/
def Bits2 (w : World) (a : Option Addr) (l : List (Int × Int)) : Prop :=
  l = [] ∨ ∃ b off, a = some ⟨b, off, none⟩ ∧ b < w.heap.size ∧ ∀ i (h : i < l.length), w.cell? ⟨b, off + i * 2, none⟩ = some (.int .i64 (l[i]).1) ∧ w.cell? ⟨b, off + i * 2 + 1, none⟩ = some (.int .i64 (l[i]).2)

theorem Bits2.kept {w w' : World} {a : Option Addr} {l : List (Int × Int)} (h : Bits2 w a l) (hb : Below w.heap.size w w') : Bits2 w' a l := by
  rcases h with h | ⟨b, off, rfl, hbB, hc⟩
  · exact .inl h
  · exact .inr ⟨b, off, rfl, Nat.lt_of_lt_of_le hbB hb.size, fun i hi => ⟨(hb.cell (p := ⟨b, off + i * 2, none⟩) hbB).trans (hc i hi).1, (hb.cell (p := ⟨b, off + i * 2 + 1, none⟩) hbB).trans (hc i hi).2⟩⟩

/-- what a place of a row of bits holds -/
theorem Bits2.at {w : World} {a : Option Addr} {l : List (Int × Int)} (h : Bits2 w a l) {i : Nat} (hi : i < l.length) :
    ∃ b off, a = some ⟨b, off, none⟩ ∧ b < w.heap.size ∧ w.cell? ⟨b, off + i * 2, none⟩ = some (.int .i64 (l[i]).1) ∧ w.cell? ⟨b, off + i * 2 + 1, none⟩ = some (.int .i64 (l[i]).2) := by
  rcases h with h | ⟨b, off, rfl, hbB, hc⟩
  · rw [h] at hi; simp at hi
  · exact ⟨b, off, rfl, hbB, hc i hi⟩
end Go.Proofs.YtcgmmpfckmhahaaGreat

/- A list of bits that a call gathers in a row of its own. -/
namespace Go.Proofs.YtcgmmpfckmhahaaGreat
open Go.RowKit

theorem info_bit : (Tryz.prog.info? 32).map (fun i => (i.zero, i.size, i.bytes)) = some (some (.agg #[.int .i64 0, .int .i64 0]), 2, 16) := by kernel_rfl

/-- bits as they lie in memory -/
def cellsOf : List (Int × Int) → List Value
  | [] => []
  | p :: l => .int .i64 p.1 :: .int .i64 p.2 :: cellsOf l

theorem cellsOf_len : ∀ l : List (Int × Int), (cellsOf l).length = l.length * 2
  | [] => rfl
  | p :: l => by simp only [cellsOf, List.length_cons, cellsOf_len l]; omega
theorem cellsOf_get : ∀ (l : List (Int × Int)) (i : Nat) (h : i < l.length), (cellsOf l)[i * 2]? = some (.int .i64 (l[i]).1) ∧ (cellsOf l)[i * 2 + 1]? = some (.int .i64 (l[i]).2)
  | [], i, h => by simp at h
  | p :: l, 0, h => by simp [cellsOf]
  | p :: l, i + 1, h => by
    have := cellsOf_get l i (by simpa using h)
    rw [show (i + 1) * 2 = i * 2 + 1 + 1 by omega, show i * 2 + 1 + 1 + 1 = i * 2 + 1 + 1 + 1 from rfl]
    simp only [cellsOf, List.getElem?_cons_succ, List.getElem_cons_succ]
    exact this
theorem cellsOf_snoc : ∀ (l : List (Int × Int)) (v s : Int), cellsOf l ++ [.int .i64 v, .int .i64 s] = cellsOf (l ++ [(v, s)])
  | [], v, s => rfl
  | p :: l, v, s => by simp only [cellsOf, List.cons_append, cellsOf_snoc l v s]
theorem cellsOf_put (p : Int × Int) (l : List (Int × Int)) (v s : Int) : ((cellsOf (p :: l)).set 0 (.int .i64 v)).set 1 (.int .i64 s) = cellsOf ((v, s) :: l) := by simp [cellsOf]

/-- the slice v owns the bits l, n of them -/
def OwnP (w : World) (B : Nat) (v : Value) (n : Nat) (l : List (Int × Int)) : Prop := w.ownsRow B 32 2 v n (cellsOf l)

theorem OwnP.len {w : World} {B n : Nat} {v : Value} {l : List (Int × Int)} (h : OwnP w B v n l) : l.length = n := by
  have := h.1
  rw [cellsOf_len] at this; omega

theorem OwnP.bits {w : World} {B n : Nat} {v : Value} {l : List (Int × Int)} (h : OwnP w B v n l) : ∃ ao cap, v = .slice ao n cap ∧ Bits2 w ao l := by
  have hl := h.len
  rcases h.2 with ⟨rfl, h0⟩ | ⟨g, cap, cur, rfl, _, hg, _, _, _, ht⟩
  · subst h0
    exact ⟨none, 0, rfl, .inl (List.eq_nil_of_length_eq_zero hl)⟩
  · refine ⟨some ⟨g, 0, none⟩, cap, rfl, .inr ⟨g, 0, rfl, ?_, fun i hi => ?_⟩⟩
    · rcases Nat.lt_or_ge g w.heap.size with hlt | hge
      · exact hlt
      · rw [Array.getElem?_eq_none hge] at hg; cases hg
    · obtain ⟨c1, c2⟩ := cellsOf_get l i hi
      rw [Nat.zero_add]
      exact ⟨(World.ownsRow.cellAt h (i * 2) (by omega)).trans c1, (World.ownsRow.cellAt h (i * 2 + 1) (by omega)).trans c2⟩

theorem OwnP.more {w : World} {B n g cap : Nat} {l : List (Int × Int)} {v s : Int} (h : w.ownsRow B 32 2 (.slice (some ⟨g, 0, none⟩) (n + 1) cap) (n + 1) (cellsOf l ++ [.int .i64 v, .int .i64 s])) :
    OwnP w B (.slice (some ⟨g, 0, none⟩) (n + 1) cap) (n + 1) (l ++ [(v, s)]) := by
  rw [cellsOf_snoc] at h; exact h

/-- the row stays where only other blocks turn -/
theorem OwnP.same {w w' : World} {B n : Nat} {v : Value} {l : List (Int × Int)} (h : OwnP w B v n l) (hk : ∀ k, k < w.heap.size → B ≤ k → w'.heap[k]? = w.heap[k]?) : OwnP w' B v n l := by
  refine ⟨h.1, ?_⟩
  rcases h.2 with h2 | ⟨g, cap, cur, hv, hg, hh, r⟩
  · exact .inl h2
  · have hlt : g < w.heap.size := by
      rcases Nat.lt_or_ge g w.heap.size with hlt | hge
      · exact hlt
      · rw [Array.getElem?_eq_none hge] at hh; cases hh
    exact .inr ⟨g, cap, cur, hv, hg, by rw [hk g hlt hg]; exact hh, r⟩

/-- the first is another one -/
theorem OwnP.first {w : World} {B n g cap : Nat} {p : Int × Int} {l : List (Int × Int)} (h : OwnP w B (.slice (some ⟨g, 0, none⟩) n cap) n (p :: l)) (v s : Int) :
    OwnP ((w.setCell ⟨g, 0, none⟩ (.int .i64 v)).setCell ⟨g, 1, none⟩ (.int .i64 s)) B (.slice (some ⟨g, 0, none⟩) n cap) n ((v, s) :: l) := by
  have h1 := (World.ownsRow.stored h 0 (.int .i64 v)).1
  have h2 := (World.ownsRow.stored h1 1 (.int .i64 s)).1
  rw [cellsOf_put] at h2
  exact h2

theorem own_none (w : World) : OwnP (w.alloc (.cells #[] 32)) w.heap.size (.slice (some ⟨w.heap.size, 0, none⟩) 0 0) 0 [] :=
  World.ownsRow_lit w #[] 0 (Nat.le_refl _) (by decide) rfl
end Go.Proofs.YtcgmmpfckmhahaaGreat

/- Symbols of sizes and of distances (mathematics). -/
namespace Go.Proofs.YtcgmmpfckmhahaaGreat
namespace Df
/-- the least size that a symbol tells, and its further bits -/
def szN (n : Nat) : Nat × Nat := if n = 28 then (258, 0) else if n < 8 then (3 + n, 0) else (3 + (4 + n % 4) * 2 ^ (n / 4 - 1), n / 4 - 1)
/-- the least distance that a symbol tells, and its further bits -/
def dsN (s : Nat) : Nat × Nat := if s < 4 then (1 + s, 0) else (1 + (2 + s % 2) * 2 ^ (s / 2 - 1), s / 2 - 1)
/-- the greatest number, so much at most, of which f is not above x -/
def down (f : Nat → Nat) (x : Nat) : Nat → Nat
  | 0 => 0
  | k + 1 => if f (k + 1) ≤ x then k + 1 else down f x k
theorem down_le (f : Nat → Nat) (x : Nat) : ∀ k, down f x k ≤ k
  | 0 => Nat.le_refl _
  | k + 1 => by
    unfold down
    split
    · exact Nat.le_refl _
    · exact Nat.le_succ_of_le (down_le f x k)
theorem down_is {f : Nat → Nat} {x : Nat} (h0 : f 0 ≤ x) : ∀ k, f (down f x k) ≤ x
  | 0 => h0
  | k + 1 => by
    unfold down
    split
    · assumption
    · exact down_is h0 k
theorem down_yes {f : Nat → Nat} {x k : Nat} (h0 : f k ≤ x) : down f x k = k := by
  cases k with
  | zero => rfl
  | succ k => unfold down; rw [if_pos h0]
theorem down_no {f : Nat → Nat} {x k : Nat} (h : ¬ f (k + 1) ≤ x) : down f x (k + 1) = down f x k := by
  show (if f (k + 1) ≤ x then k + 1 else down f x k) = _
  rw [if_neg h]
def szSym (x : Nat) : Nat := down (fun k => (szN k).1) x 28
def dsSym (x : Nat) : Nat := down (fun k => (dsN k).1) x 29
theorem szN_all : ∀ k, k < 29 → 3 ≤ (szN k).1 ∧ (szN k).1 ≤ 258 ∧ (szN k).2 ≤ 5 := by decide +kernel
theorem dsN_all : ∀ k, k < 30 → 1 ≤ (dsN k).1 ∧ (dsN k).1 ≤ 24577 ∧ (dsN k).2 ≤ 13 := by decide +kernel
theorem szSym_lt (x : Nat) : szSym x < 29 := Nat.lt_succ_of_le (down_le _ _ _)
theorem dsSym_lt (x : Nat) : dsSym x < 30 := Nat.lt_succ_of_le (down_le _ _ _)
/-- the further bits of a size, and of a distance -/
def szBit (x : Nat) : Int × Int := (((x - (szN (szSym x)).1 : Nat) : Int), (((szN (szSym x)).2 : Nat) : Int))
def dsBit (x : Nat) : Int × Int := (((x - (dsN (dsSym x)).1 : Nat) : Int), (((dsN (dsSym x)).2 : Nat) : Int))
theorem szBit_all : ∀ x, x < 259 → 3 ≤ x → (szN (szSym x)).1 ≤ x ∧ x - (szN (szSym x)).1 < 2 ^ (szN (szSym x)).2 := by decide +kernel
end Df
end Go.Proofs.YtcgmmpfckmhahaaGreat

/- Plain mathematics of the numbers of a code, as both texts reckon them: length by length, symbol by symbol. -/
namespace Go.Proofs.YtcgmmpfckmhahaaGreat
namespace Mk

/-- the first k symbols of one length -/
def inner (zs : List Int) (n : Int) : Nat → Nat × List Int → Nat × List Int
  | 0, s => s
  | k + 1, s => if zs.getD k 0 = n then ((inner zs n k s).1 + 1, (inner zs n k s).2.set k ((inner zs n k s).1 : Int)) else inner zs n k s

/-- all lengths up to m -/
def outer (zs : List Int) : Nat → Nat × List Int
  | 0 => (0, List.replicate zs.length 0)
  | m + 1 => inner zs ((m + 1 : Nat) : Int) zs.length (2 * (outer zs m).1, (outer zs m).2)

def mk (zs : List Int) : List Int := (outer zs 15).2

theorem inner_hit (zs : List Int) (n : Int) (k : Nat) (s : Nat × List Int) (h : zs.getD k 0 = n) :
    inner zs n (k + 1) s = ((inner zs n k s).1 + 1, (inner zs n k s).2.set k ((inner zs n k s).1 : Int)) := if_pos h
theorem inner_miss (zs : List Int) (n : Int) (k : Nat) (s : Nat × List Int) (h : ¬ zs.getD k 0 = n) : inner zs n (k + 1) s = inner zs n k s := if_neg h

theorem inner_le (zs : List Int) (n : Int) (s : Nat × List Int) : ∀ k, (inner zs n k s).1 ≤ s.1 + k := by
  intro k
  induction k with
  | zero => exact Nat.le_refl _
  | succ k ih =>
    by_cases h : zs.getD k 0 = n
    · rw [inner_hit zs n k s h]; simp only; omega
    · rw [inner_miss zs n k s h]; omega

theorem inner_len (zs : List Int) (n : Int) (s : Nat × List Int) : ∀ k, (inner zs n k s).2.length = s.2.length := by
  intro k
  induction k with
  | zero => rfl
  | succ k ih =>
    by_cases h : zs.getD k 0 = n
    · rw [inner_hit zs n k s h]; simp only [List.length_set]; exact ih
    · rw [inner_miss zs n k s h]; exact ih

theorem outer_len (zs : List Int) : ∀ m, (outer zs m).2.length = zs.length := by
  intro m
  induction m with
  | zero => simp [outer]
  | succ m ih => show (inner zs _ zs.length _).2.length = _; rw [inner_len]; exact ih

theorem outer_le (zs : List Int) (hz : zs.length ≤ 300) : ∀ m, (outer zs m).1 + 300 ≤ 300 * 2 ^ m := by
  intro m
  induction m with
  | zero => simp [outer]
  | succ m ih =>
    have := inner_le zs ((m + 1 : Nat) : Int) (2 * (outer zs m).1, (outer zs m).2) zs.length
    show (inner zs _ zs.length _).1 + 300 ≤ _
    rw [Nat.pow_succ]
    simp only at this
    omega

theorem outer_bound (zs : List Int) (hz : zs.length ≤ 300) (m : Nat) (hm : m ≤ 15) : (outer zs m).1 ≤ 9830400 := by
  have h := outer_le zs hz m
  have h2 : 2 ^ m ≤ 2 ^ 15 := Nat.pow_le_pow_right (by omega) hm
  omega

theorem mk_len (zs : List Int) : (mk zs).length = zs.length := outer_len zs 15
end Mk
end Go.Proofs.YtcgmmpfckmhahaaGreat

/- The numbers of a code are small numbers, none below nought. -/
namespace Go.Proofs.YtcgmmpfckmhahaaGreat
namespace Mk

/-- each is a number from 0 to 9830400 -/
def Small (l : List Int) : Prop := ∀ z ∈ l, 0 ≤ z ∧ z ≤ 9830400

theorem small_set {l : List Int} (h : Small l) (k : Nat) (v : Int) (hv : 0 ≤ v ∧ v ≤ 9830400) : Small (l.set k v) := by
  intro z hz
  rcases List.mem_or_eq_of_mem_set hz with hz | rfl
  · exact h z hz
  · exact hv

theorem small_replicate (n : Nat) : Small (List.replicate n 0) := by
  intro z hz
  rw [List.mem_replicate] at hz
  obtain ⟨_, rfl⟩ := hz
  omega

theorem inner_small (zs : List Int) (n : Int) (s : Nat × List Int) (hs : s.1 + 300 ≤ 9830400) (h : Small s.2) : ∀ k, k ≤ 300 → Small (inner zs n k s).2 := by
  intro k
  induction k with
  | zero => intro _; exact h
  | succ k ih =>
    intro hk
    have hi := ih (by omega)
    have hl := inner_le zs n s k
    by_cases g : zs.getD k 0 = n
    · rw [inner_hit zs n k s g]; exact small_set hi k _ (by omega)
    · rw [inner_miss zs n k s g]; exact hi

theorem outer_small (zs : List Int) (hz : zs.length ≤ 300) : ∀ m, m ≤ 15 → Small (outer zs m).2 := by
  intro m
  induction m with
  | zero => intro _; exact small_replicate _
  | succ m ih =>
    intro hm
    have hb := outer_le zs hz m
    have hp : 2 ^ m ≤ 2 ^ 14 := Nat.pow_le_pow_right (by omega) (by omega)
    have h1 : 2 * (outer zs m).1 + 300 ≤ 9830400 := by omega
    exact inner_small zs ((m + 1 : Nat) : Int) (2 * (outer zs m).1, (outer zs m).2) h1 (ih (by omega)) zs.length hz

theorem mk_small (zs : List Int) (hz : zs.length ≤ 300) : Small (mk zs) := outer_small zs hz 15 (Nat.le_refl _)
end Mk
end Go.Proofs.YtcgmmpfckmhahaaGreat

/- Plain mathematics of lengths of a code: how much of a whole they take. -/
namespace Go.Proofs.YtcgmmpfckmhahaaGreat
namespace Cd

def okLen (z : Int) : Bool := decide (0 ≤ z) && decide (z ≤ 15)
def part (z : Int) : Nat := if 0 < z then 2 ^ (15 - z.toNat) else 0
def taken : List Int → Nat
  | [] => 0
  | z :: l => part z + taken l
def valid (l : List Int) : Bool := l.all okLen

theorem taken_append (l m : List Int) : taken (l ++ m) = taken l + taken m := by
  induction l with
  | nil => simp [taken]
  | cons z l ih => simp only [List.cons_append, taken, ih]; omega

theorem valid_append (l m : List Int) : valid (l ++ m) = (valid l && valid m) := by
  unfold valid; rw [List.all_append]

theorem take_valid (l : List Int) (k : Nat) (h : valid l = true) : valid (l.take k) = true := by
  have e := valid_append (l.take k) (l.drop k)
  rw [List.take_append_drop, h] at e
  exact (Bool.and_eq_true _ _ ▸ e.symm).1

theorem take_snoc (l : List Int) (k : Nat) (h : k < l.length) : l.take (k + 1) = l.take k ++ [l[k]] := by
  rw [List.take_succ_eq_append_getElem h]

theorem taken_snoc (l : List Int) (k : Nat) (h : k < l.length) : taken (l.take (k + 1)) = taken (l.take k) + part l[k] := by
  rw [take_snoc l k h, taken_append]; simp [taken]

theorem valid_snoc (l : List Int) (k : Nat) (h : k < l.length) : valid (l.take (k + 1)) = (valid (l.take k) && okLen l[k]) := by
  rw [take_snoc l k h, valid_append]; simp [valid]

theorem not_valid (l : List Int) (k : Nat) (h : k < l.length) (hz : okLen l[k] = false) : valid l = false := by
  cases e : valid l
  · rfl
  · have := take_valid l (k + 1) e
    rw [valid_snoc l k h, hz, Bool.and_false] at this
    cases this

/-- what is left of the whole; -1 if lengths are not ok -/
def left (l : List Int) : Int := if valid l = true ∧ taken l ≤ 32768 then 32768 - (taken l : Int) else -1

def okB (l : List Int) : Bool := decide (l.length ≤ 300) && (valid l && decide (taken l ≤ 32768))

end Cd
end Go.Proofs.YtcgmmpfckmhahaaGreat

/- Symbols as bits: the mathematics. -/
namespace Go.Proofs.YtcgmmpfckmhahaaGreat
namespace Cp

/-- the bits of a symbol -/
def bit (ls : List Int) (s : Nat) : Int × Int := (((turned ((Mk.mk ls).getD s 0).toNat (ls.getD s 0).toNat : Nat) : Int), ls.getD s 0)
/-- those of all symbols -/
def all (ls : List Int) : List (Int × Int) := (List.range ls.length).map (bit ls)
theorem all_len (ls : List Int) : (all ls).length = ls.length := by simp [all]
theorem all_get (ls : List Int) (s : Nat) (h : s < (all ls).length) : (all ls)[s] = bit ls s := by simp [all]

/-- symbols that a code has -/
def Good (ls : List Int) (z : Int) : Prop := 0 ≤ z ∧ z < (ls.length : Int) ∧ ls.getD z.toNat 0 ≠ 0
def Ok (zs ls : List Int) : Prop := Cd.okB ls = true ∧ zs.length ≤ 9000 ∧ ∀ z ∈ zs, Good ls z
open Classical in
noncomputable def put (zs ls : List Int) : List (Int × Int) := if Ok zs ls then zs.map (fun z => bit ls z.toNat) else []
/-- what a code's length and number are -/
theorem parts {ls : List Int} (h : Cd.okB ls = true) (s : Nat) (hs : s < ls.length) : ∃ V S : Nat, (Mk.mk ls).getD s 0 = (V : Int) ∧ ls.getD s 0 = (S : Int) ∧ V ≤ 9830400 ∧ S ≤ 15 := by
  have hl : ls.length ≤ 300 := by
    unfold Cd.okB at h; simp only [Bool.and_eq_true, decide_eq_true_eq] at h; exact h.1
  have hv : Cd.valid ls = true := by
    unfold Cd.okB at h; simp only [Bool.and_eq_true, decide_eq_true_eq] at h; exact h.2.1
  have hm : s < (Mk.mk ls).length := by rw [Mk.mk_len]; exact hs
  have e1 : (Mk.mk ls).getD s 0 = (Mk.mk ls)[s] := by rw [List.getD_eq_getElem?_getD, List.getElem?_eq_getElem hm]; rfl
  have e2 : ls.getD s 0 = ls[s] := by rw [List.getD_eq_getElem?_getD, List.getElem?_eq_getElem hs]; rfl
  have h1 := Mk.mk_small ls hl _ (List.getElem_mem hm)
  have h2 : Cd.okLen ls[s] = true := by
    unfold Cd.valid at hv; exact List.all_eq_true.1 hv _ (List.getElem_mem hs)
  unfold Cd.okLen at h2
  simp only [Bool.and_eq_true, decide_eq_true_eq] at h2
  obtain ⟨V, hV⟩ := Int.eq_ofNat_of_zero_le h1.1
  obtain ⟨S, hS⟩ := Int.eq_ofNat_of_zero_le h2.1
  exact ⟨V, S, by rw [e1, hV], by rw [e2, hS], by omega, by omega⟩
theorem bit_of {ls : List Int} {s V S : Nat} (hV : (Mk.mk ls).getD s 0 = (V : Int)) (hS : ls.getD s 0 = (S : Int)) : bit ls s = (((turned V S : Nat) : Int), (S : Int)) := by
  unfold bit; rw [hV, hS, Int.toNat_natCast, Int.toNat_natCast]
end Cp
end Go.Proofs.YtcgmmpfckmhahaaGreat

/- Whether a number is within limits. -/
namespace Go.Proofs.YtcgmmpfckmhahaaGreat
open Go.RowKit

set_option maxHeartbeats 400000 in
theorem l1In_yes (n lo hi : Int) (w : World) (h1 : lo ≤ n) (h2 : n ≤ hi) :
    Calls Tryz.prog 6 #[.int .i64 n, .int .i64 lo, .int .i64 hi] w fun e w' => e = .returned (.bool true) ∧ w' = w := by
  have hd : decide (n ≤ hi) = true := by simp; omega
  go_enter Tryz.func6, Tryz.ntmps6
  go_wp2
  go_ret
  exact ⟨rfl, rfl⟩

set_option maxHeartbeats 400000 in
theorem l1In_no (n lo hi : Int) (w : World) (h : ¬ (lo ≤ n ∧ n ≤ hi)) :
    Calls Tryz.prog 6 #[.int .i64 n, .int .i64 lo, .int .i64 hi] w fun e w' => e = .returned (.bool false) ∧ w' = w := by
  by_cases h1 : lo ≤ n
  · have hd : decide (n ≤ hi) = false := by simp; omega
    clear h
    go_enter Tryz.func6, Tryz.ntmps6
    go_wp2
    go_ret
    exact ⟨rfl, rfl⟩
  · have hd : decide (lo ≤ n) = false := by simp; omega
    clear h
    go_enter Tryz.func6, Tryz.ntmps6
    go_wp2
    go_ret
    exact ⟨rfl, rfl⟩

end Go.Proofs.YtcgmmpfckmhahaaGreat

/- Two to the power of a number. -/
namespace Go.Proofs.YtcgmmpfckmhahaaGreat
open Go.RowKit

set_option maxHeartbeats 400000 in
theorem l1Pow_any (n : Nat) (w : World) (hn : n ≤ 60) :
    Calls Tryz.prog 31 #[.int .i64 n] w fun e w' => e = .returned (.int .i64 ((2 ^ n : Nat) : Int)) ∧ w' = w := by
  go_enter Tryz.func31, Tryz.ntmps31
  go_wp2_with fail
  go_loop [3, 4] (fun x i => ∃ k y : Nat, k ≤ n ∧ i = .int .i64 k ∧ y = 2 ^ k ∧ x = .int .i64 y) (fun _ i => n - (intOf i).toNat)
  case atStart => exact ⟨0, 1, Nat.zero_le _, rfl, rfl, rfl⟩
  case round =>
    obtain ⟨k, y, hk, rfl, hy, rfl⟩ := hrel
    have hp : 2 ^ k ≤ 2 ^ 60 := Nat.pow_le_pow_right (by omega) (by omega)
    have hyb : y ≤ 1152921504606846976 := by omega
    have HY : Hid (y = 2 ^ k) := hy
    clear hy hp
    by_cases hlt : k < n
    · go_wp2_with fail
      go_round
      case rel => exact ⟨k + 1, y * 2, by omega, by go_num, by rw [HY.out, Nat.pow_succ], by go_num⟩
      case measure => simp [intOf]; omega
    · have hk' : k = n := by omega
      subst hk'
      go_wp2_with fail
      go_ret
      exact ⟨ret_int (by rw [HY.out]; simp), rfl⟩

end Go.Proofs.YtcgmmpfckmhahaaGreat

/- Whether lengths are those of a code. -/
namespace Go.Proofs.YtcgmmpfckmhahaaGreat
open Go.RowKit

theorem ret_bool {a b : Bool} (h : a = b) : Ending.returned (.bool a) = .returned (.bool b) := by rw [h]

/-- what 'codeTaken' answers -/
def tkB (n : Nat) (zs : List Int) : Bool := decide (n ≤ 300) && Cd.valid zs
def tkN (n : Nat) (zs : List Int) : Int := if tkB n zs = true then (Cd.taken zs : Int) else 0
theorem tkN_no {n : Nat} {zs : List Int} (h : tkB n zs = false) : tkN n zs = 0 := by unfold tkN; rw [h]; rfl
theorem tkN_yes {n : Nat} {zs : List Int} (h : tkB n zs = true) : tkN n zs = (Cd.taken zs : Int) := by unfold tkN; rw [if_pos h]

theorem part_pos (Z : Nat) (h : 0 < Z) : Cd.part (Z : Int) = 2 ^ (15 - Z) := by
  unfold Cd.part; rw [if_pos (by omega), Int.toNat_natCast]
theorem shr_part (Z : Nat) (h : Z ≤ 15) : (32768 : Int) / 2 ^ Z = ((2 ^ (15 - Z) : Nat) : Int) := by
  have e : (32768 : Int) / 2 ^ Z = ((32768 / 2 ^ Z : Nat) : Int) := by simp
  rw [e, show (32768 : Nat) = 2 ^ 15 from rfl, Nat.pow_div h (by omega)]

set_option maxHeartbeats 1000000 in
theorem codeTaken_any (a : Option Addr) (cap n : Nat) (zs : List Int) (w : World) (h : Ints w a zs) (hn : zs.length = n) (hl : n ≤ 1048576) :
    Calls Tryz.prog 97 #[.slice a n cap] w fun e w' => e = .returned (.tuple #[.int .i64 (tkN n zs), .bool (tkB n zs)]) ∧ w' = w := by
  by_cases h3 : n ≤ 300
  · have HI : Hid (Ints w a zs) := h
    have HN : Hid (zs.length = n) := hn
    have hzg : n ≤ zs.length := by omega
    have hd : decide ((300 : Int) < (n : Int)) = false := by simp; omega
    clear h hn
    go_enter Tryz.func97, Tryz.ntmps97
    go_wp2_with fail
    go_loop [4, 12] (fun x i => ∃ k T : Nat, k ≤ n ∧ i = .int .i64 k ∧ T = Cd.taken (zs.take k) ∧ Cd.valid (zs.take k) = true ∧ T ≤ 32768 * k ∧ x = .int .i64 (T : Int)) (fun _ i => n - (intOf i).toNat)
    case atStart => exact ⟨0, 0, Nat.zero_le _, rfl, rfl, rfl, by omega, rfl⟩
    case round =>
      obtain ⟨k, T, hk, rfl, hT, hV, hT2, rfl⟩ := hrel
      by_cases hlt : k < n
      · have hkz : k < zs.length := by omega
        rcases HI.out with h | ⟨b, off, rfl, hb, hc⟩
        · rw [h] at hkz; simp at hkz
        · have hck := hc k hkz
          have hki : (k : Int) < (n : Int) := by omega
          have hbad := Cd.not_valid zs k hkz
          have hts := Cd.taken_snoc zs k hkz
          have hvs := Cd.valid_snoc zs k hkz
          rw [hV, Bool.true_and] at hvs
          rw [← hT] at hts
          clear hc hT hV
          generalize zs[k] = z at *
          by_cases hz : 0 ≤ z ∧ z ≤ 15
          · obtain ⟨Z, rfl⟩ := Int.eq_ofNat_of_zero_le hz.1
            have hok : Cd.okLen (Z : Int) = true := by simp [Cd.okLen]; omega
            have HV : Hid (Cd.valid (zs.take (k + 1)) = true) := by show _ = _; rw [hvs, hok]
            have hd1 : decide ((Z : Int) < 0) = false := by simp
            have hd2 : decide ((15 : Int) < (Z : Int)) = false := by simp; omega
            by_cases hz0 : 0 < Z
            · rw [part_pos Z hz0] at hts
              have hsh := shr_part Z (by omega)
              obtain ⟨q, hq⟩ : ∃ q, q = 2 ^ (15 - Z) := ⟨_, rfl⟩
              have hqb : q ≤ 32768 := by
                rw [hq]; exact Nat.le_trans (Nat.pow_le_pow_right (by omega) (show 15 - Z ≤ 15 by omega)) (by decide)
              rw [← hq] at hts hsh
              have HTS : Hid (T + q = Cd.taken (zs.take (k + 1))) := hts.symm
              have hz15 : Z ≤ 15 := by omega
              clear hbad hts hvs hq hok hz
              go_wp2_with fail
              go_round
              case rel => exact ⟨k + 1, T + q, by omega, by go_num, HTS.out, HV.out, by omega, by go_num⟩
              case measure => simp [intOf]; omega
            · have hZ : Z = 0 := by omega
              subst hZ
              have HTS : Hid (T = Cd.taken (zs.take (k + 1))) := by show _ = _; rw [hts]; rfl
              clear hbad hts hvs hok hz
              go_wp2_with fail
              go_round
              case rel => exact ⟨k + 1, T, by omega, by go_num, HTS.out, HV.out, by omega, rfl⟩
              case measure => simp [intOf]; omega
          · have HL : Hid (tkB n zs = false) := by
              show _ = _; unfold tkB; rw [hbad (by simp only [Cd.okLen, Bool.and_eq_false_iff, decide_eq_false_iff_not]; omega), Bool.and_false]
            clear hbad hts hvs
            by_cases hneg : z < 0
            · go_wp2_with fail
              go_ret2
              exact ⟨ret_pair (tkN_no HL.out).symm HL.out.symm, rfl⟩
            · have hd1 : decide (z < 0) = false := by simpa using hneg
              have hbig : 15 < z := by omega
              clear hz hneg
              go_wp2_with fail
              go_ret2
              exact ⟨ret_pair (tkN_no HL.out).symm HL.out.symm, rfl⟩
      · have hk' : zs.take k = zs := List.take_of_length_le (by have := HN.out; omega)
        rw [hk'] at hT hV
        have HL : Hid (tkB n zs = true) := by show _ = _; unfold tkB; rw [hV]; simp [h3]
        have HT : Hid (T = Cd.taken zs) := hT
        clear hk' hT hV
        go_wp2_with fail
        go_ret2
        exact ⟨ret_pair (by rw [tkN_yes HL.out, ← HT.out]) HL.out.symm, rfl⟩
  · have hd : (300 : Int) < (n : Int) := by omega
    have HL : Hid (tkB n zs = false) := by show _ = _; unfold tkB; simp [h3]
    clear h hn
    go_enter Tryz.func97, Tryz.ntmps97
    go_wp2_with fail
    go_ret2
    exact ⟨ret_pair (tkN_no HL.out).symm HL.out.symm, rfl⟩

set_option maxHeartbeats 400000 in
theorem impl_codeOk (a : Option Addr) (cap n : Nat) (zs : List Int) (w : World) (h : Ints w a zs) (hn : zs.length = n) (hl : n ≤ 1048576) :
    Calls Tryz.prog 86 #[.slice a n cap] w fun e w' => e = .returned (.bool (Cd.okB zs)) ∧ w' = w := by
  have hc := codeTaken_any a cap n zs w h hn hl
  have HC : Hid (Calls Tryz.prog 97 #[.slice a n cap] w fun e w' => e = .returned (.tuple #[.int .i64 (tkN n zs), .bool (tkB n zs)]) ∧ w' = w) := hc
  cases hy : tkB n zs
  · have HE : Hid (Cd.okB zs = false) := by
      show _ = _; unfold Cd.okB; rw [hn, ← Bool.and_assoc]
      have : (decide (n ≤ 300) && Cd.valid zs) = false := hy
      rw [this]; rfl
    rw [hy] at HC
    clear hc h hn hy
    generalize tkN n zs = T at *
    go_enter Tryz.func86, Tryz.ntmps86
    go_wp2_with fail
    refine HC.out.mono ?_
    rintro e w1 ⟨rfl, hw1⟩
    subst hw1
    go_wp2_with fail
    go_ret
    exact ⟨ret_bool HE.out.symm, rfl⟩
  · have HE : Hid (Cd.okB zs = decide ((Cd.taken zs : Int) ≤ 32768)) := by
      show _ = _; unfold Cd.okB; rw [hn, ← Bool.and_assoc]
      have : (decide (n ≤ 300) && Cd.valid zs) = true := hy
      rw [this, Bool.true_and]
      congr 1
      exact propext ⟨fun h => by omega, fun h => by omega⟩
    rw [tkN_yes hy, hy] at HC
    clear hc h hn hy
    generalize Cd.taken zs = T at *
    go_enter Tryz.func86, Tryz.ntmps86
    go_wp2_with fail
    refine HC.out.mono ?_
    rintro e w1 ⟨rfl, hw1⟩
    subst hw1
    go_wp2_with fail
    go_ret
    exact ⟨ret_bool HE.out.symm, rfl⟩
end Go.Proofs.YtcgmmpfckmhahaaGreat

/- The numbers of a code, as the specification and the program make them. -/
namespace Go.Proofs.YtcgmmpfckmhahaaGreat
open Go.RowKit

theorem make_arr (zs : List Int) (n : Nat) (hn : zs.length = n) (hl : n ≤ 2000000) (w : World) :
    (Instr.makeSlice 36 (.int .i64 (n : Int)) (.int .i64 (n : Int))).run Tryz.prog w = .ok (.slice (some ⟨w.heap.size, 0, none⟩) n n) (w.alloc (.cells (arr (Mk.outer zs 0).2) 3)) := by
  rw [make_ints zs n hn hl w, cp_arr]; rfl

set_option maxHeartbeats 1000000 in
theorem l3Make_any (a : Option Addr) (cap n : Nat) (zs : List Int) (w : World) (h : Ints w a zs) (hn : zs.length = n) (hl : n ≤ 300) :
    Calls Tryz.prog 32 #[.slice a n cap] w fun e w' => e = .returned (.slice (some ⟨w.heap.size, 0, none⟩) n n) ∧ w' = w.alloc (.cells (arr (Mk.mk zs)) 3) := by
  have hmk := fun w => make_arr zs n hn (by omega) w
  have HI : Hid (Ints w a zs) := h
  have HN : Hid (zs.length = n) := hn
  have HB : Hid (∀ m, m ≤ 15 → (Mk.outer zs m).1 ≤ 9830400) := Mk.outer_bound zs (by omega)
  have hzg : n ≤ zs.length := by omega
  clear h hn
  go_enter Tryz.func32, Tryz.ntmps32
  go_wp2_with fail
  go_loopw [4, 5] (fun x i wr => ∃ m y : Nat, m ≤ 15 ∧ i = .int .i64 ((m : Int) + 1) ∧ y = (Mk.outer zs m).1 ∧ x = .int .i64 (y : Int) ∧ wr = w.alloc (.cells (arr (Mk.outer zs m).2) 3)) (fun _ i _ => 16 - (intOf i).toNat)
  case atStart => exact ⟨0, 0, by omega, rfl, rfl, rfl, rfl⟩
  case round =>
    obtain ⟨m, y, hm, rfl, hy, rfl, rfl⟩ := hrel
    clear hmk
    by_cases hlt : m < 15
    · have hyb : y ≤ 9830400 := by rw [hy]; exact HB.out m hm
      have HO : Hid (Mk.outer zs (m + 1) = Mk.inner zs ((m + 1 : Nat) : Int) zs.length (2 * (Mk.outer zs m).1, (Mk.outer zs m).2)) := rfl
      rw [← hy] at HO
      have hol := Mk.outer_len zs m
      clear hy
      generalize (Mk.outer zs m).2 = l0 at *
      go_wp2_with fail
      go_loopw [4, 6] (fun x i wr => ∃ (k z : Nat) (l : List Int), k ≤ n ∧ i = .int .i64 k ∧ (z, l) = Mk.inner zs ((m + 1 : Nat) : Int) k (2 * y, l0) ∧ x = .int .i64 (z : Int) ∧ wr = w.alloc (.cells (arr l) 3)) (fun _ i _ => n - (intOf i).toNat)
      case atStart => exact ⟨0, 2 * y, l0, Nat.zero_le _, rfl, rfl, by go_num, rfl⟩
      case round =>
        obtain ⟨k, z, l, hk, rfl, hzl, rfl, rfl⟩ := hrel
        have hin := Mk.inner_le zs ((m + 1 : Nat) : Int) (2 * y, l0) k
        have hil := Mk.inner_len zs ((m + 1 : Nat) : Int) (2 * y, l0) k
        rw [← hzl] at hin hil
        simp only at hin hil
        by_cases hltk : k < n
        · have hkz : k < zs.length := by omega
          have hkl : k < l.length := by omega
          rcases HI.out with h | ⟨b, off, rfl, hbB, hc⟩
          · rw [h] at hkz; simp at hkz
          · have hck := (World.cell?_alloc_past (.cells (arr l) 3) b (off + k) hbB).trans (hc k hkz)
            have hki : (k : Int) < (n : Int) := by omega
            have hgd : zs.getD k 0 = zs[k] := by rw [List.getD_eq_getElem?_getD, List.getElem?_eq_getElem hkz]; rfl
            have hhit := Mk.inner_hit zs ((m + 1 : Nat) : Int) k (2 * y, l0)
            have hmiss := Mk.inner_miss zs ((m + 1 : Nat) : Int) k (2 * y, l0)
            rw [hgd, ← hzl] at hhit hmiss
            have hset := arr_set l k (z : Int)
            have hgl := arr_get l k hkl
            clear hc hgd hol hil
            generalize zs[k] = q at *
            by_cases e : q = ((m + 1 : Nat) : Int)
            · have HT : Hid (Mk.inner zs ((m + 1 : Nat) : Int) (k + 1) (2 * y, l0) = (z + 1, l.set k (z : Int))) := hhit e
              have eb : (q == (m : Int) + 1) = true := by rw [beq_iff_eq, e]; omega
              have HS : Hid ((arr l).setIfInBounds k (.int .i64 (z : Int)) = arr (l.set k (z : Int))) := hset
              clear hhit hmiss e hzl hset
              generalize l[k] = lk at *
              generalize arr l = A at *
              go_wp2_with fail
              go_roundw
              case rel => exact ⟨k + 1, z + 1, l.set k (z : Int), by omega, by go_num, HT.out.symm, by go_num, by rw [HS.out]⟩
              case measure => simp [intOf]; omega
            · have HT : Hid (Mk.inner zs ((m + 1 : Nat) : Int) (k + 1) (2 * y, l0) = (z, l)) := hmiss e
              have eb : (q == (m : Int) + 1) = false := by rw [beq_eq_false_iff_ne]; intro g; apply e; rw [g]; omega
              clear hhit hmiss e hzl hset
              go_wp2_with fail
              go_roundw
              case rel => exact ⟨k + 1, z, l, by omega, by go_num, HT.out.symm, rfl, rfl⟩
              case measure => simp [intOf]; omega
        · have hk' : k = zs.length := by have := HN.out; omega
          rw [hk'] at hzl
          have HZ : Hid ((z, l) = Mk.outer zs (m + 1)) := by show _ = _; rw [HO.out, ← hzl]
          clear hzl hk' hol hil
          go_wp2_with fail
          go_roundw
          case rel => exact ⟨m + 1, z, by omega, by go_num, by rw [← HZ.out], rfl, by rw [← HZ.out]⟩
          case measure => simp [intOf]; omega
    · have hm' : m = 15 := by omega
      subst hm'
      clear hy
      go_wp2_with fail
      go_ret
      exact ⟨rfl, rfl⟩
set_option maxHeartbeats 1000000 in
theorem implMake_yes (a : Option Addr) (cap n : Nat) (zs : List Int) (w : World) (h : Ints w a zs) (hn : zs.length = n) (hl : n ≤ 300) (hok : Cd.okB zs = true) :
    Calls Tryz.prog 68 #[.slice a n cap] w fun e w' => e = .returned (.slice (some ⟨w.heap.size, 0, none⟩) n n) ∧ w' = w.alloc (.cells (arr (Mk.mk zs)) 3) := by
  have hmk := fun w => make_arr zs n hn (by omega) w
  have HI : Hid (Ints w a zs) := h
  have HN : Hid (zs.length = n) := hn
  have HB : Hid (∀ m, m ≤ 15 → (Mk.outer zs m).1 ≤ 9830400) := Mk.outer_bound zs (by omega)
  have hzg : n ≤ zs.length := by omega
  have HC : Hid (Calls Tryz.prog 86 #[.slice a n cap] w fun e w' => e = .returned (.bool true) ∧ w' = w) := by
    have := impl_codeOk a cap n zs w h hn (by omega); rw [hok] at this; exact this
  clear h hn hok
  go_enter Tryz.func68, Tryz.ntmps68
  go_wp2_with fail
  refine HC.out.mono ?_
  rintro e w0 ⟨rfl, hw0⟩
  subst hw0
  clear HC
  go_wp2_with fail
  go_loopw [4, 5] (fun x i wr => ∃ m y : Nat, m ≤ 15 ∧ i = .int .i64 ((m : Int) + 1) ∧ y = (Mk.outer zs m).1 ∧ x = .int .i64 (y : Int) ∧ wr = w0.alloc (.cells (arr (Mk.outer zs m).2) 3)) (fun _ i _ => 16 - (intOf i).toNat)
  case atStart => exact ⟨0, 0, by omega, rfl, rfl, rfl, rfl⟩
  case round =>
    obtain ⟨m, y, hm, rfl, hy, rfl, rfl⟩ := hrel
    clear hmk
    by_cases hlt : m < 15
    · have hyb : y ≤ 9830400 := by rw [hy]; exact HB.out m hm
      have HO : Hid (Mk.outer zs (m + 1) = Mk.inner zs ((m + 1 : Nat) : Int) zs.length (2 * (Mk.outer zs m).1, (Mk.outer zs m).2)) := rfl
      rw [← hy] at HO
      have hol := Mk.outer_len zs m
      clear hy
      generalize (Mk.outer zs m).2 = l0 at *
      go_wp2_with fail
      go_loopw [4, 21] (fun x i wr => ∃ (k z : Nat) (l : List Int), k ≤ n ∧ i = .int .i64 k ∧ (z, l) = Mk.inner zs ((m + 1 : Nat) : Int) k (2 * y, l0) ∧ x = .int .i64 (z : Int) ∧ wr = w0.alloc (.cells (arr l) 3)) (fun _ i _ => n - (intOf i).toNat)
      case atStart => exact ⟨0, 2 * y, l0, Nat.zero_le _, rfl, rfl, by go_num, rfl⟩
      case round =>
        obtain ⟨k, z, l, hk, rfl, hzl, rfl, rfl⟩ := hrel
        have hin := Mk.inner_le zs ((m + 1 : Nat) : Int) (2 * y, l0) k
        have hil := Mk.inner_len zs ((m + 1 : Nat) : Int) (2 * y, l0) k
        rw [← hzl] at hin hil
        simp only at hin hil
        by_cases hltk : k < n
        · have hkz : k < zs.length := by omega
          have hkl : k < l.length := by omega
          rcases HI.out with h | ⟨b, off, rfl, hbB, hc⟩
          · rw [h] at hkz; simp at hkz
          · have hck := (World.cell?_alloc_past (.cells (arr l) 3) b (off + k) hbB).trans (hc k hkz)
            have hki : (k : Int) < (n : Int) := by omega
            have hgd : zs.getD k 0 = zs[k] := by rw [List.getD_eq_getElem?_getD, List.getElem?_eq_getElem hkz]; rfl
            have hhit := Mk.inner_hit zs ((m + 1 : Nat) : Int) k (2 * y, l0)
            have hmiss := Mk.inner_miss zs ((m + 1 : Nat) : Int) k (2 * y, l0)
            rw [hgd, ← hzl] at hhit hmiss
            have hset := arr_set l k (z : Int)
            have hgl := arr_get l k hkl
            clear hc hgd hol hil
            generalize zs[k] = q at *
            by_cases e : q = ((m + 1 : Nat) : Int)
            · have HT : Hid (Mk.inner zs ((m + 1 : Nat) : Int) (k + 1) (2 * y, l0) = (z + 1, l.set k (z : Int))) := hhit e
              have eb : (q == (m : Int) + 1) = true := by rw [beq_iff_eq, e]; omega
              have HS : Hid ((arr l).setIfInBounds k (.int .i64 (z : Int)) = arr (l.set k (z : Int))) := hset
              clear hhit hmiss e hzl hset
              generalize l[k] = lk at *
              generalize arr l = A at *
              go_wp2_with fail
              go_roundw
              case rel => exact ⟨k + 1, z + 1, l.set k (z : Int), by omega, by go_num, HT.out.symm, by go_num, by rw [HS.out]⟩
              case measure => simp [intOf]; omega
            · have HT : Hid (Mk.inner zs ((m + 1 : Nat) : Int) (k + 1) (2 * y, l0) = (z, l)) := hmiss e
              have eb : (q == (m : Int) + 1) = false := by rw [beq_eq_false_iff_ne]; intro g; apply e; rw [g]; omega
              clear hhit hmiss e hzl hset
              go_wp2_with fail
              go_roundw
              case rel => exact ⟨k + 1, z, l, by omega, by go_num, HT.out.symm, rfl, rfl⟩
              case measure => simp [intOf]; omega
        · have hk' : k = zs.length := by have := HN.out; omega
          rw [hk'] at hzl
          have HZ : Hid ((z, l) = Mk.outer zs (m + 1)) := by show _ = _; rw [HO.out, ← hzl]
          clear hzl hk' hol hil
          go_wp2_with fail
          go_roundw
          case rel => exact ⟨m + 1, z, by omega, by go_num, by rw [← HZ.out], rfl, by rw [← HZ.out]⟩
          case measure => simp [intOf]; omega
    · have hm' : m = 15 := by omega
      subst hm'
      clear hy
      go_wp2_with fail
      go_ret
      exact ⟨rfl, rfl⟩

/-- the numbers of a code; nothing, if it is none -/
def mkB (zs : List Int) : List Int := if Cd.okB zs = true then Mk.mk zs else []
theorem mkB_yes {zs : List Int} (h : Cd.okB zs = true) : mkB zs = Mk.mk zs := by unfold mkB; rw [if_pos h]
theorem mkB_no {zs : List Int} (h : Cd.okB zs = false) : mkB zs = [] := by unfold mkB; rw [h]; rfl

theorem okB_len' {zs : List Int} (h : Cd.okB zs = true) : zs.length ≤ 300 := by
  unfold Cd.okB at h
  simp only [Bool.and_eq_true, decide_eq_true_eq] at h
  exact h.1

set_option maxHeartbeats 400000 in
theorem impl_codeMake (a : Option Addr) (cap n : Nat) (zs : List Int) (w : World) (h : Ints w a zs) (hn : zs.length = n) (hl : n ≤ 1048576) :
    Calls Tryz.prog 68 #[.slice a n cap] w fun e w' => (∃ x c, e = .returned (.slice x (mkB zs).length c) ∧ Owns w' w.heap.size x (mkB zs)) ∧ Below w.heap.size w w' := by
  cases hy : Cd.okB zs
  · have HC : Hid (Calls Tryz.prog 86 #[.slice a n cap] w fun e w' => e = .returned (.bool false) ∧ w' = w) := by
      have := impl_codeOk a cap n zs w h hn hl; rw [hy] at this; exact this
    rw [mkB_no hy]
    clear h hn hy
    go_enter Tryz.func68, Tryz.ntmps68
    go_wp2_with fail
    refine HC.out.mono ?_
    rintro e w0 ⟨rfl, hw0⟩
    subst hw0
    go_wp2_with fail
    go_ret
    exact ⟨⟨none, 0, rfl, .inl rfl⟩, Below.refl _ _⟩
  · have h3 := okB_len' hy
    rw [mkB_yes hy]
    refine (implMake_yes a cap n zs w h hn (by omega) hy).mono ?_
    rintro e w' ⟨rfl, rfl⟩
    exact ⟨⟨_, n, by rw [Mk.mk_len, hn], owns_arr w _⟩, (Below.refl _ _).alloc (Nat.le_refl _) _⟩
end Go.Proofs.YtcgmmpfckmhahaaGreat

/- Bits behind bits: some more in a row of one's own; what a token is told by (mathematics). -/
namespace Go.Proofs.YtcgmmpfckmhahaaGreat
open Go.RowKit

theorem cellsOf_app : ∀ (l m : List (Int × Int)), cellsOf l ++ cellsOf m = cellsOf (l ++ m)
  | [], m => rfl
  | p :: l, m => by
    have := cellsOf_app l m
    simp only [cellsOf, List.cons_append] at this ⊢
    rw [← this]
theorem cellsOf_one : ∀ (l : List (Int × Int)), ∀ u ∈ cellsOf l, u.oneCell' = true
  | [], u, h => by simp [cellsOf] at h
  | p :: l, u, h => by
    simp only [cellsOf, List.mem_cons] at h
    rcases h with rfl | rfl | h
    · rfl
    · rfl
    · exact cellsOf_one l u h
/-- pairs that lie in a new block, behind a row of one's own -/
theorem wpList_appP {ops : Array Oper} {rest : List Oper} {o : Oper} {a : Act} {Q : Exit → Act → World → Prop} (w0 : World) (hgd : o.guard = none) (s x : Operand)
    (ho : o.op = .call { callee := .builtin .append, args := #[s, x], argTypes := #[30, 30] })
    (base : Nat) (v : Value) (n : Nat) (l ps : List (Int × Int)) (m : Nat) (hm : ps.length = m) (h0 : 0 < m) (cs : Array Value) (hcs : cs = (cellsOf ps).toArray) (hs : a.eval s = v) (hown : OwnP w0 base v n l) (hx : a.eval x = .slice (some ⟨w0.heap.size, 0, none⟩) m m) (hn : n + m ≤ 2000000) (hb : base ≤ w0.heap.size)
    (h : ∀ g cap w', OwnP w' base (.slice (some ⟨g, 0, none⟩) (n + m) cap) (n + m) (l ++ ps) → (w0.alloc (.cells cs 32)).grownBy w' v.ownBlock → Below base w0 w' → wpList Tryz.prog ops Q rest (a.put o.dst (.slice (some ⟨g, 0, none⟩) (n + m) cap)) w') :
    wpList Tryz.prog ops Q (o :: rest) a (w0.alloc (.cells cs 32)) := by
  obtain ⟨i0, hi0, hz0, hz1, hz2⟩ := info_parts info_bit
  subst hcs
  refine wpList_append_lies _ hgd s x _ ho base 32 i0 (.agg #[.int .i64 0, .int .i64 0]) 2 16 Tryz.underlying30 hi0 hz0 hz1 hz2 rfl (by decide) v n (cellsOf l) hs (World.ownsRow.alloc (show World.ownsRow _ _ _ _ _ _ _ from hown) _) ⟨w0.heap.size, 0, none⟩ m m (cellsOf ps) hx (by rw [cellsOf_len, hm]) (World.news_of_block (heap_alloc_new _ _)) (cellsOf_one ps) h0 (by unfold maxLen; omega) (by omega) (by rw [World.size_alloc]; omega) _ rfl ?_
  intro g cap w' hown' hg _ _
  rw [cellsOf_app] at hown'
  exact h g cap w' hown' hg (((Below.refl base w0).alloc hb _).grown hg (by rw [World.size_alloc]; omega) (fun k hk => (World.ownsRow.lt (show World.ownsRow _ _ _ _ _ _ _ from hown) k hk).1))
theorem step_appP {ops : Array Oper} {o : Oper} {a : Act} {K : Act → World → Prop} {Q : Exit → Act → World → Prop} {E : Prop} (w0 : World) (hgd : o.guard = none) (s x : Operand)
    (ho : o.op = .call { callee := .builtin .append, args := #[s, x], argTypes := #[30, 30] })
    (base : Nat) (v : Value) (n : Nat) (l ps : List (Int × Int)) (m : Nat) (hm : ps.length = m) (h0 : 0 < m) (cs : Array Value) (hcs : cs = (cellsOf ps).toArray) (hs : a.eval s = v) (hown : OwnP w0 base v n l) (hx : a.eval x = .slice (some ⟨w0.heap.size, 0, none⟩) m m) (hn : n + m ≤ 2000000) (hb : base ≤ w0.heap.size)
    (h : ∀ g cap w', OwnP w' base (.slice (some ⟨g, 0, none⟩) (n + m) cap) (n + m) (l ++ ps) → (w0.alloc (.cells cs 32)).grownBy w' v.ownBlock → Below base w0 w' → K (a.put o.dst (.slice (some ⟨g, 0, none⟩) (n + m) cap)) w') :
    if Region.wanted o (yielded ops a.tmps) = true then Oper.wp Tryz.prog o a (w0.alloc (.cells cs 32)) K Q else E := by
  obtain ⟨i0, hi0, hz0, hz1, hz2⟩ := info_parts info_bit
  subst hcs
  refine step_append_lies _ hgd s x _ ho base 32 i0 (.agg #[.int .i64 0, .int .i64 0]) 2 16 Tryz.underlying30 hi0 hz0 hz1 hz2 rfl (by decide) v n (cellsOf l) hs (World.ownsRow.alloc (show World.ownsRow _ _ _ _ _ _ _ from hown) _) ⟨w0.heap.size, 0, none⟩ m m (cellsOf ps) hx (by rw [cellsOf_len, hm]) (World.news_of_block (heap_alloc_new _ _)) (cellsOf_one ps) h0 (by unfold maxLen; omega) (by omega) (by rw [World.size_alloc]; omega) _ rfl ?_
  intro g cap w' hown' hg _ _
  rw [cellsOf_app] at hown'
  exact h g cap w' hown' hg (((Below.refl base w0).alloc hb _).grown hg (by rw [World.size_alloc]; omega) (fun k hk => (World.ownsRow.lt (show World.ownsRow _ _ _ _ _ _ _ from hown) k hk).1))

namespace Df
/-- a token that can be told -/
def TkOk (t : Tk) : Prop := (t.2.1 = 0 ∧ 0 ≤ t.1 ∧ t.1 ≤ 255) ∨ (3 ≤ t.2.1 ∧ t.2.1 ≤ 258 ∧ 1 ≤ t.2.2 ∧ t.2.2 ≤ 5000)
/-- the bits of a token, by two codes -/
def tok (ls ds : List Int) (t : Tk) : List (Int × Int) :=
  if t.2.1 = 0 then [Cp.bit ls t.1.toNat] else [Cp.bit ls (257 + szSym t.2.1.toNat), szBit t.2.1.toNat, Cp.bit ds (dsSym t.2.2.toNat), dsBit t.2.2.toNat]
def toks (ls ds : List Int) (l : List Tk) : List (Int × Int) := l.flatMap (tok ls ds)
theorem toks_snoc (ls ds : List Int) (l : List Tk) (t : Tk) : toks ls ds (l ++ [t]) = toks ls ds l ++ tok ls ds t := by simp [toks]
theorem tok_len (ls ds : List Int) (t : Tk) : (tok ls ds t).length ≤ 4 := by unfold tok; split <;> simp
theorem toks_len (ls ds : List Int) : ∀ l : List Tk, (toks ls ds l).length ≤ 4 * l.length
  | [] => by simp [toks]
  | t :: l => by
    have h1 := toks_len ls ds l
    have h2 := tok_len ls ds t
    have e : toks ls ds (t :: l) = tok ls ds t ++ toks ls ds l := by simp [toks]
    rw [e, List.length_append, List.length_cons]
    omega
def body (ls ds : List Int) (l : List Tk) : List (Int × Int) := toks ls ds l ++ [Cp.bit ls 256]
end Df
/-- the bits of a symbol, as the specification has them -/
theorem l3Sym_bit (a1 a2 : Option Addr) (n c1 c2 k : Nat) (ls : List Int) (w : World) (h1 : Ints w a1 (Mk.mk ls)) (h2 : Ints w a2 ls) (hn : ls.length = n) (hk : k < n) (hok : Cd.okB ls = true) :
    Calls Tryz.prog 33 #[.slice a1 n c1, .slice a2 n c2, .int .i64 (k : Int)] w fun e w' => e = .returned (.agg #[.int .i64 (Cp.bit ls k).1, .int .i64 (Cp.bit ls k).2]) ∧ Below w.heap.size w w' := by
  obtain ⟨V, S, hV, hS, hVb, hSb⟩ := Cp.parts hok k (by omega)
  have hml : (Mk.mk ls).length = n := by rw [Mk.mk_len, hn]
  rw [Cp.bit_of hV hS]
  refine l3Sym_any a1 a2 n c1 c2 k V S (Mk.mk ls) ls w h1 h2 hml hn hk ?_ ?_ (by omega) hSb
  · rw [← hV, List.getD_eq_getElem?_getD, List.getElem?_eq_getElem (by omega)]; rfl
  · rw [← hS, List.getD_eq_getElem?_getD, List.getElem?_eq_getElem (by omega)]; rfl
end Go.Proofs.YtcgmmpfckmhahaaGreat

/- How often each symbol comes (mathematics), and a row of numbers that fills a block. -/
namespace Go.Proofs.YtcgmmpfckmhahaaGreat
open Go.RowKit
namespace Df
def inc (l : List Int) (i : Nat) : List Int := l.set i (l.getD i 0 + 1)
theorem inc_len (l : List Int) (i : Nat) : (inc l i).length = l.length := by simp [inc]
theorem inc_set {l : List Int} {i j : Nat} (v : Int) (h : i ≠ j) : (inc l i).set j v = inc (l.set j v) i := by
  unfold inc
  rw [List.set_comm _ _ h]
  congr 1
  rw [List.getD_eq_getElem?_getD, List.getD_eq_getElem?_getD, List.getElem?_set_ne (Ne.symm h)]
/-- the symbol of a token -/
def sym (t : Tk) : Nat := if t.2.1 = 0 then t.1.toNat else 257 + szSym t.2.1.toNat
def incS (a : List Int) (t : Tk) : List Int := inc a (sym t)
def incD (a : List Int) (t : Tk) : List Int := if t.2.1 = 0 then a else inc a (dsSym t.2.2.toNat)
def cntS (l : List Tk) : List Int := l.foldl incS (List.replicate 286 0)
def cntD (l : List Tk) : List Int := l.foldl incD (List.replicate 30 0)
theorem cntS_snoc (l : List Tk) (t : Tk) : cntS (l ++ [t]) = inc (cntS l) (sym t) := by unfold cntS; rw [List.foldl_append]; rfl
theorem cntD_snoc (l : List Tk) (t : Tk) : cntD (l ++ [t]) = incD (cntD l) t := by unfold cntD; rw [List.foldl_append]; rfl
theorem fold_len {f : List Int → Tk → List Int} (h : ∀ a t, (f a t).length = a.length) : ∀ (l : List Tk) (a : List Int), (l.foldl f a).length = a.length
  | [], _ => rfl
  | t :: l, a => by rw [List.foldl_cons, fold_len h l, h]
theorem cntS_len (l : List Tk) : (cntS l).length = 286 := by
  unfold cntS
  rw [fold_len (f := incS) (fun a t => inc_len a _), List.length_replicate]
theorem incD_len (a : List Int) (t : Tk) : (incD a t).length = a.length := by unfold incD; split; rfl; exact inc_len _ _
theorem cntD_len (l : List Tk) : (cntD l).length = 30 := by
  unfold cntD
  rw [fold_len incD_len, List.length_replicate]
/-- how often each symbol comes: the end once -/
def oftS (l : List Tk) : List Int := (cntS l).set 256 1
theorem oftS_len (l : List Tk) : (oftS l).length = 286 := by unfold oftS; rw [List.length_set, cntS_len]
theorem sym_ok {t : Tk} (h : TkOk t) : sym t < 286 ∧ sym t ≠ 256 := by
  unfold sym
  rcases h with ⟨h1, h2, h3⟩ | ⟨h1, h2, _, _⟩
  · rw [if_pos h1]; omega
  · rw [if_neg (by omega)]
    have := szSym_lt t.2.1.toNat
    omega
theorem oftS_snoc (l : List Tk) {t : Tk} (h : TkOk t) : oftS (l ++ [t]) = inc (oftS l) (sym t) := by
  unfold oftS
  rw [cntS_snoc, inc_set _ (sym_ok h).2]
/-- none is less than nought, and none more than there are tokens, but one -/
def Cnt (m : Nat) (a : List Int) : Prop := ∀ i, 0 ≤ a.getD i 0 ∧ a.getD i 0 ≤ (m : Int)
theorem getD_set (l : List Int) (i j : Nat) (v : Int) : (l.set i v).getD j 0 = if i = j ∧ i < l.length then v else l.getD j 0 := by
  simp only [List.getD_eq_getElem?_getD, List.getElem?_set]
  by_cases h : i = j
  · subst h
    by_cases h2 : i < l.length
    · simp [h2]
    · simp [h2]
  · simp [h]
theorem Cnt.inc {m : Nat} {a : List Int} (h : Cnt m a) (i : Nat) : Cnt (m + 1) (Df.inc a i) := fun j => by
  unfold Df.inc
  rw [getD_set]
  have h1 := h i
  have h2 := h j
  split <;> omega
theorem Cnt.more {m n : Nat} {a : List Int} (h : Cnt m a) (hn : m ≤ n) : Cnt n a := fun j => by have := h j; omega
theorem cnt_zero (n : Nat) : Cnt 0 (List.replicate n 0) := fun j => by
  rw [List.getD_eq_getElem?_getD, List.getElem?_replicate]
  split <;> simp
theorem cntS_cnt (l : List Tk) : ∀ k, k ≤ l.length → Cnt k (cntS (l.take k))
  | 0, _ => by rw [List.take_zero]; exact cnt_zero 286
  | k + 1, h => by
    rw [List.take_succ_eq_append_getElem (by omega), cntS_snoc]
    exact (cntS_cnt l k (by omega)).inc _
theorem cntD_cnt (l : List Tk) : ∀ k, k ≤ l.length → Cnt k (cntD (l.take k))
  | 0, _ => by rw [List.take_zero]; exact cnt_zero 30
  | k + 1, h => by
    rw [List.take_succ_eq_append_getElem (by omega), cntD_snoc]
    unfold incD
    split
    · exact (cntD_cnt l k (by omega)).more (by omega)
    · exact (cntD_cnt l k (by omega)).inc _
theorem oftS_cnt (l : List Tk) (k : Nat) (h : k ≤ l.length) : Cnt (k + 1) (oftS (l.take k)) := fun j => by
  unfold oftS
  rw [getD_set]
  have := cntS_cnt l k h j
  split <;> omega
end Df
theorem make_rowN (n : Nat) (hn : n ≤ 1000000) (w : World) : (Instr.makeSlice 36 (.int .i64 (n : Int)) (.int .i64 (n : Int))).run Tryz.prog w = .ok (.slice (some ⟨w.heap.size, 0, none⟩) n n) (w.alloc (.cells ((List.replicate n (0 : Int)).map (Value.int .i64)).toArray 3)) := by
  have h := make_ints (List.replicate n 0) n (by simp) (by omega) w
  rw [cp_zeroD] at h
  exact h
theorem DRow.cellD {W : World} {b : Nat} {l : List Int} (h : DRow W b l) (i : Nat) (hi : i < l.length) : W.cell? ⟨b, i, none⟩ = some (.int .i64 (l.getD i 0)) := by
  rw [h.cell i hi, List.getD_eq_getElem?_getD, List.getElem?_eq_getElem hi]
  rfl
theorem DRow.other {W : World} {b c : Nat} {l : List Int} (h : DRow W b l) (hne : b ≠ c) (k : Nat) (v : Value) : DRow (W.setCell ⟨c, k, none⟩ v) b l := h.kept (Below.heap_setCell _ _ _ b hne)
theorem DRow.below {W W' : World} {b : Nat} {l : List Int} (h : DRow W b l) (hb : Below W.heap.size W W') : DRow W' b l := h.kept (hb.block b h.lt)
theorem DRow.ints {W : World} {b : Nat} {l : List Int} (h : DRow W b l) : Ints W (some ⟨b, 0, none⟩) l := .inr ⟨b, 0, rfl, h.lt, fun i hi => by rw [Nat.zero_add]; exact h.cell i hi⟩
end Go.Proofs.YtcgmmpfckmhahaaGreat

/- Putting the two least together, again and again: how deep it goes (mathematics). -/
namespace Go.Proofs.YtcgmmpfckmhahaaGreat
namespace Cf

/-- a node: how often it comes, how deep it is -/
abbrev Wt := Nat × Nat
def less (b : Option (Nat × Nat)) (w : Nat) : Bool :=
  match b with
  | none => true
  | some p => Nat.blt w p.2
/-- the first of the least, but one -/
def lst (but : Int) : List Wt → Nat → Option (Nat × Nat) → Option (Nat × Nat)
  | [], _, b => b
  | x :: xs, i, b => lst but xs (i + 1) (if (decide ((i : Int) ≠ but) && less b x.1) = true then some (i, x.1) else b)
/-- a list without two of its places -/
def wo {α : Type} (a b : Nat) : List α → Nat → List α
  | [], _ => []
  | x :: xs, i => if (Nat.beq i a || Nat.beq i b) = true then wo a b xs (i + 1) else x :: wo a b xs (i + 1)
theorem wo_cons {α : Type} (a b : Nat) (x : α) (xs : List α) (i : Nat) : wo a b (x :: xs) i = if (Nat.beq i a || Nat.beq i b) = true then wo a b xs (i + 1) else x :: wo a b xs (i + 1) := rfl
def hgt (ns : List Wt) (a : Nat) : Nat := (ns.getD a (0, 0)).2
/-- one round -/
def step (ns : List Wt) : List Wt :=
  match lst (-1) ns 0 none with
  | none => ns
  | some (a, wa) =>
    match lst (a : Int) ns 0 none with
    | none => ns
    | some (b, wb) => wo a b ns 0 ++ [(wa + wb, 1 + Nat.max (hgt ns a) (hgt ns b))]
def maxh : List Wt → Nat
  | [] => 0
  | x :: xs => Nat.max x.2 (maxh xs)
/-- all rounds -/
def top : Nat → List Wt → Nat
  | 0, ns => maxh ns
  | f + 1, ns => if Nat.ble ns.length 1 = true then maxh ns else top f (step ns)
def fin (ns : List Wt) : Nat := top ns.length ns

theorem lst_some (but : Int) (ns : List Wt) : ∀ (xs : List Wt) (i : Nat) (b : Option (Nat × Nat)), (∀ k x, xs[k]? = some x → ns[i + k]? = some x) → (∀ p, b = some p → (p.1 : Int) ≠ but ∧ ∃ x, ns[p.1]? = some x ∧ x.1 = p.2) → ∀ p, lst but xs i b = some p → (p.1 : Int) ≠ but ∧ ∃ x, ns[p.1]? = some x ∧ x.1 = p.2
  | [], _, b, _, hb, p, h => hb p h
  | x :: xs, i, b, hx, hb, p, h => by
    unfold lst at h
    refine lst_some but ns xs (i + 1) _ (fun k y hy => by rw [show i + 1 + k = i + (k + 1) by omega]; exact hx (k + 1) y (by simpa using hy)) (fun q hq => ?_) p h
    by_cases hc : (decide ((i : Int) ≠ but) && less b x.1) = true
    · rw [if_pos hc] at hq
      simp only [Bool.and_eq_true, decide_eq_true_eq] at hc
      cases hq
      exact ⟨hc.1, x, by have := hx 0 x rfl; rwa [Nat.add_zero] at this, rfl⟩
    · rw [if_neg hc] at hq; exact hb q hq
theorem lst_ne (but : Int) : ∀ (xs : List Wt) (i : Nat) (b : Option (Nat × Nat)), (b ≠ none ∨ ∃ k, k < xs.length ∧ ((i + k : Nat) : Int) ≠ but) → lst but xs i b ≠ none
  | [], i, b, h => by
    rcases h with h | ⟨k, hk, _⟩
    · exact h
    · simp at hk
  | x :: xs, i, b, h => by
    unfold lst
    refine lst_ne but xs (i + 1) _ ?_
    by_cases hb : b = none
    · subst hb
      by_cases hi : (i : Int) = but
      · right
        rcases h with h | ⟨k, hk, hk2⟩
        · exact absurd rfl h
        · have hk0 : k ≠ 0 := fun e => by subst e; exact hk2 (by rw [Nat.add_zero]; exact hi)
          exact ⟨k - 1, by simp at hk; omega, by rw [show i + 1 + (k - 1) = i + k by omega]; exact hk2⟩
      · left
        rw [if_pos (by simp [hi, less])]
        simp
    · left
      split
      · simp
      · exact hb
theorem lst_at {but : Int} {ns : List Wt} {p : Nat × Nat} (h : lst but ns 0 none = some p) : (p.1 : Int) ≠ but ∧ p.1 < ns.length ∧ ∃ x, ns[p.1]? = some x ∧ x.1 = p.2 := by
  obtain ⟨h1, x, h2, h3⟩ := lst_some but ns ns 0 none (fun k x hk => by rw [Nat.zero_add]; exact hk) (fun p hp => by cases hp) p h
  exact ⟨h1, (List.getElem?_eq_some_iff.1 h2).1, x, h2, h3⟩
/-- the two least, where there are two -/
theorem two {ns : List Wt} (h : 1 < ns.length) : ∃ a wa b wb, lst (-1) ns 0 none = some (a, wa) ∧ lst (a : Int) ns 0 none = some (b, wb) ∧ a ≠ b ∧ a < ns.length ∧ b < ns.length := by
  rcases h1 : lst (-1) ns 0 none with _ | ⟨a, wa⟩
  · exact absurd h1 (lst_ne (-1) ns 0 none (.inr ⟨0, by omega, by omega⟩))
  · rcases h2 : lst (a : Int) ns 0 none with _ | ⟨b, wb⟩
    · refine absurd h2 (lst_ne (a : Int) ns 0 none (.inr ?_))
      by_cases e : a = 0
      · exact ⟨1, h, by omega⟩
      · exact ⟨0, by omega, by omega⟩
    · obtain ⟨_, g2, _⟩ := lst_at h1
      obtain ⟨g3, g4, _⟩ := lst_at h2
      exact ⟨a, wa, b, wb, rfl, h2, fun e => g3 (by simp only at *; omega), g2, g4⟩
theorem step_two {ns : List Wt} {a wa b wb : Nat} (h1 : lst (-1) ns 0 none = some (a, wa)) (h2 : lst (a : Int) ns 0 none = some (b, wb)) : step ns = wo a b ns 0 ++ [(wa + wb, 1 + Nat.max (hgt ns a) (hgt ns b))] := by
  unfold step
  rw [h1]
  simp only
  rw [h2]
theorem wo_len {α : Type} {a b : Nat} (hab : a ≠ b) : ∀ (xs : List α) (i : Nat), (wo a b xs i).length + (if i ≤ a ∧ a < i + xs.length then 1 else 0) + (if i ≤ b ∧ b < i + xs.length then 1 else 0) = xs.length
  | [], i => by simp [wo]
  | x :: xs, i => by
    have ih := wo_len hab xs (i + 1)
    unfold wo
    simp only [List.length_cons]
    by_cases ha : i = a
    · rw [if_pos (by simp [ha])]
      rw [if_neg (show ¬ (i + 1 ≤ a ∧ a < i + 1 + xs.length) by omega)] at ih
      rw [if_pos (show i ≤ a ∧ a < i + (xs.length + 1) by omega)]
      by_cases hb : i + 1 ≤ b ∧ b < i + 1 + xs.length
      · rw [if_pos hb] at ih; rw [if_pos (by omega)]; omega
      · rw [if_neg hb] at ih; rw [if_neg (by omega)]; omega
    · by_cases hb : i = b
      · rw [if_pos (by simp [hb])]
        rw [if_neg (show ¬ (i + 1 ≤ b ∧ b < i + 1 + xs.length) by omega)] at ih
        rw [if_pos (show i ≤ b ∧ b < i + (xs.length + 1) by omega)]
        by_cases hb : i + 1 ≤ a ∧ a < i + 1 + xs.length
        · rw [if_pos hb] at ih; rw [if_pos (show i ≤ a ∧ a < i + (xs.length + 1) by omega)]; omega
        · rw [if_neg hb] at ih; rw [if_neg (show ¬ (i ≤ a ∧ a < i + (xs.length + 1)) by omega)]; omega
      · rw [if_neg (by simp [ha, hb])]
        simp only [List.length_cons]
        have e1 : (if i ≤ a ∧ a < i + (xs.length + 1) then 1 else 0) = if i + 1 ≤ a ∧ a < i + 1 + xs.length then 1 else 0 := by
          by_cases h : i + 1 ≤ a ∧ a < i + 1 + xs.length
          · rw [if_pos h, if_pos (by omega)]
          · rw [if_neg h, if_neg (by omega)]
        have e2 : (if i ≤ b ∧ b < i + (xs.length + 1) then 1 else 0) = if i + 1 ≤ b ∧ b < i + 1 + xs.length then 1 else 0 := by
          by_cases h : i + 1 ≤ b ∧ b < i + 1 + xs.length
          · rw [if_pos h, if_pos (by omega)]
          · rw [if_neg h, if_neg (by omega)]
        rw [e1, e2]; omega
theorem wo_mem {α : Type} {a b : Nat} : ∀ (xs : List α) (i : Nat) (x : α), x ∈ wo a b xs i → x ∈ xs
  | [], _, x, h => by simp [wo] at h
  | y :: xs, i, x, h => by
    unfold wo at h
    split at h
    · exact List.mem_cons_of_mem _ (wo_mem xs (i + 1) x h)
    · rcases List.mem_cons.1 h with rfl | h
      · simp
      · exact List.mem_cons_of_mem _ (wo_mem xs (i + 1) x h)
theorem wo_map {α β : Type} (f : α → β) {a b : Nat} : ∀ (xs : List α) (i : Nat), (wo a b xs i).map f = wo a b (xs.map f) i
  | [], _ => rfl
  | y :: xs, i => by
    rw [List.map_cons, wo_cons, wo_cons]
    by_cases h : (Nat.beq i a || Nat.beq i b) = true
    · rw [if_pos h, if_pos h]; exact wo_map f xs (i + 1)
    · rw [if_neg h, if_neg h, List.map_cons, wo_map f xs (i + 1)]
/-- a sum over a list, without two places -/
def sum {α : Type} (f : α → Nat) : List α → Nat
  | [] => 0
  | x :: xs => f x + sum f xs
theorem sum_append {α : Type} (f : α → Nat) : ∀ (l m : List α), sum f (l ++ m) = sum f l + sum f m
  | [], m => by simp [sum]
  | x :: l, m => by simp only [List.cons_append, sum, sum_append f l m]; omega
theorem wo_sum {α : Type} (f : α → Nat) {a b : Nat} (hab : a ≠ b) : ∀ (xs : List α) (i : Nat), sum f (wo a b xs i) + (if h : i ≤ a ∧ a - i < xs.length then f xs[a - i] else 0) + (if h : i ≤ b ∧ b - i < xs.length then f xs[b - i] else 0) = sum f xs
  | [], i => by simp [wo, sum]
  | x :: xs, i => by
    have ih := wo_sum f hab xs (i + 1)
    have ea : ∀ c, c ≠ i → (if h : i ≤ c ∧ c - i < (x :: xs).length then f (x :: xs)[c - i] else 0) = if h : i + 1 ≤ c ∧ c - (i + 1) < xs.length then f xs[c - (i + 1)] else 0 := fun c hc => by
      by_cases h : i + 1 ≤ c ∧ c - (i + 1) < xs.length
      · rw [dif_pos h, dif_pos (by simp only [List.length_cons]; omega)]
        congr 1
        have : c - i = (c - (i + 1)) + 1 := by omega
        simp only [this, List.getElem_cons_succ]
      · rw [dif_neg h, dif_neg (by simp only [List.length_cons]; omega)]
    have ei : ∀ c, c = i → (if h : i ≤ c ∧ c - i < (x :: xs).length then f (x :: xs)[c - i] else 0) = f x ∧ (if h : i + 1 ≤ c ∧ c - (i + 1) < xs.length then f xs[c - (i + 1)] else 0) = 0 := fun c hc => by
      subst hc
      refine ⟨?_, by rw [dif_neg (by omega)]⟩
      rw [dif_pos (by simp)]
      congr 1
      simp
    unfold wo
    simp only [sum]
    by_cases ha : i = a
    · obtain ⟨q1, q2⟩ := ei a ha.symm
      rw [if_pos (by simp [ha]), q1, ea b (fun e => hab (ha.symm.trans e.symm))]
      rw [q2] at ih
      omega
    · by_cases hb : i = b
      · obtain ⟨q1, q2⟩ := ei b hb.symm
        rw [if_pos (by simp [hb]), q1, ea a (fun e => ha e.symm)]
        rw [q2] at ih
        omega
      · rw [if_neg (by simp [ha, hb]), ea a (fun e => ha e.symm), ea b (fun e => hb e.symm)]
        simp only [sum]
        omega
theorem wo_sum0 {α : Type} (f : α → Nat) {a b : Nat} (hab : a ≠ b) (xs : List α) (ha : a < xs.length) (hb : b < xs.length) : sum f (wo a b xs 0) + f xs[a] + f xs[b] = sum f xs := by
  have := wo_sum f hab xs 0
  rw [dif_pos (by omega), dif_pos (by omega)] at this
  exact this
theorem wo_len0 {α : Type} {a b : Nat} (hab : a ≠ b) (xs : List α) (ha : a < xs.length) (hb : b < xs.length) : (wo a b xs 0).length + 2 = xs.length := by
  have := wo_len hab xs 0
  rw [if_pos (by omega), if_pos (by omega)] at this
  omega
theorem maxh_mem : ∀ (ns : List Wt) (x : Wt), x ∈ ns → x.2 ≤ maxh ns
  | y :: ns, x, h => by
    unfold maxh
    rcases List.mem_cons.1 h with rfl | h
    · exact Nat.le_max_left _ _
    · exact Nat.le_trans (maxh_mem ns x h) (Nat.le_max_right _ _)
theorem maxh_le {m : Nat} : ∀ (ns : List Wt), (∀ x ∈ ns, x.2 ≤ m) → maxh ns ≤ m
  | [], _ => Nat.zero_le _
  | y :: ns, h => Nat.max_le.2 ⟨h y (by simp), maxh_le ns (fun x hx => h x (by simp [hx]))⟩
theorem hgt_le (ns : List Wt) (a : Nat) : hgt ns a ≤ maxh ns := by
  unfold hgt
  rw [List.getD_eq_getElem?_getD]
  rcases h : ns[a]? with _ | x
  · exact Nat.zero_le _
  · exact maxh_mem ns x (List.mem_of_getElem? h)
theorem step_len {ns : List Wt} (h : 1 < ns.length) : (step ns).length + 1 = ns.length := by
  obtain ⟨a, wa, b, wb, h1, h2, h3, h4, h5⟩ := two h
  rw [step_two h1 h2, List.length_append, List.length_singleton]
  have := wo_len0 h3 ns h4 h5
  omega
theorem step_maxh {ns : List Wt} (h : 1 < ns.length) : maxh (step ns) ≤ maxh ns + 1 := by
  obtain ⟨a, wa, b, wb, h1, h2, h3, h4, h5⟩ := two h
  rw [step_two h1 h2]
  refine maxh_le _ (fun x hx => ?_)
  rcases List.mem_append.1 hx with hx | hx
  · have := maxh_mem ns x (wo_mem ns 0 x hx); omega
  · rw [List.mem_singleton] at hx
    subst hx
    have hm : Nat.max (hgt ns a) (hgt ns b) ≤ maxh ns := Nat.max_le.2 ⟨hgt_le ns a, hgt_le ns b⟩
    show 1 + Nat.max (hgt ns a) (hgt ns b) ≤ _
    omega
theorem fin_step {ns : List Wt} (h : 1 < ns.length) : fin ns = fin (step ns) := by
  have hl := step_len h
  unfold fin
  rw [← hl]
  conv => lhs; unfold top
  rw [if_neg]
  simp
  omega
theorem fin_one {ns : List Wt} (h : ns.length ≤ 1) : fin ns = maxh ns := by
  unfold fin
  rcases hl : ns.length with _ | k
  · rfl
  · unfold top
    rw [if_pos (by rw [hl]; simp; omega)]
theorem fin_le : ∀ (k : Nat) (ns : List Wt), ns.length ≤ k + 1 → fin ns ≤ maxh ns + k
  | 0, ns, h => by rw [fin_one h]; exact Nat.le_refl _
  | k + 1, ns, h => by
    by_cases h1 : 1 < ns.length
    · have := step_len h1
      have := step_maxh h1
      have := fin_le k (step ns) (by omega)
      rw [fin_step h1]; omega
    · rw [fin_one (by omega)]; omega
end Cf
end Go.Proofs.YtcgmmpfckmhahaaGreat

/- A heap: the least of its nodes stands first (mathematics). -/
namespace Go.Proofs.YtcgmmpfckmhahaaGreat
namespace Hp

abbrev Key := Nat × Nat
/-- comes less often, or as often and stands ahead -/
def klt (a b : Key) : Prop := a.1 < b.1 ∨ (a.1 = b.1 ∧ a.2 < b.2)
instance (a b : Key) : Decidable (klt a b) := by unfold klt; infer_instance
theorem klt_self (a : Key) : ¬ klt a a := by unfold klt; omega
theorem nlt_trans {a b c : Key} (h1 : ¬ klt b a) (h2 : ¬ klt c b) : ¬ klt c a := by unfold klt at *; omega
theorem klt_nlt {a b : Key} (h : klt a b) : ¬ klt b a := by unfold klt at *; omega
theorem klt_nlt_trans {a b c : Key} (h1 : klt a b) (h2 : ¬ klt c b) : ¬ klt c a := nlt_trans (klt_nlt h1) h2
/-- two change places -/
def sw (l : List Nat) (i j : Nat) : List Nat := (l.set i (l.getD j 0)).set j (l.getD i 0)
theorem sw_len (l : List Nat) (i j : Nat) : (sw l i j).length = l.length := by unfold sw; simp
theorem sw_get {l : List Nat} {i j : Nat} (hi : i < l.length) (hj : j < l.length) (x : Nat) : (sw l i j).getD x 0 = if x = j then l.getD i 0 else if x = i then l.getD j 0 else l.getD x 0 := by
  unfold sw
  simp only [List.getD_eq_getElem?_getD]
  by_cases h1 : x = j
  · subst h1
    rw [if_pos rfl, List.getElem?_set_self (by simp; exact hj)]
    rfl
  · rw [if_neg h1, List.getElem?_set_ne (by omega)]
    by_cases h2 : x = i
    · subst h2
      rw [if_pos rfl, List.getElem?_set_self hi]
      rfl
    · rw [if_neg h2, List.getElem?_set_ne (by omega)]
theorem sw_perm {l : List Nat} {i j : Nat} (hi : i < l.length) (hj : j < l.length) : (sw l i j).Perm l := by
  unfold sw
  rw [List.getD_eq_getElem?_getD, List.getD_eq_getElem?_getD, List.getElem?_eq_getElem hi, List.getElem?_eq_getElem hj]
  exact List.set_set_perm hi hj

/-- none of the first n comes ahead of the one above it -/
def Heap (K : Nat → Key) (l : List Nat) (n : Nat) : Prop := ∀ i, 0 < i → i < n → ¬ klt (K (l.getD i 0)) (K (l.getD ((i - 1) / 2) 0))
theorem heap_first {K : Nat → Key} {l : List Nat} {n : Nat} (h : Heap K l n) : ∀ i, i < n → ¬ klt (K (l.getD i 0)) (K (l.getD 0 0)) := by
  intro i
  induction i using Nat.strongRecOn with
  | ind i ih =>
    intro hi
    by_cases h0 : i = 0
    · subst h0; exact klt_self _
    · exact nlt_trans (ih ((i - 1) / 2) (by omega) (by omega)) (h i (by omega) hi)
/-- so but for one, which goes up -/
def Up (K : Nat → Key) (l : List Nat) (n j : Nat) : Prop :=
  (∀ i, 0 < i → i < n → i ≠ j → ¬ klt (K (l.getD i 0)) (K (l.getD ((i - 1) / 2) 0))) ∧ (∀ i, 0 < i → i < n → (i - 1) / 2 = j → 0 < j → ¬ klt (K (l.getD i 0)) (K (l.getD ((j - 1) / 2) 0)))
theorem up_done {K : Nat → Key} {l : List Nat} {n j : Nat} (h : Up K l n j) (hj : j = 0 ∨ ¬ klt (K (l.getD j 0)) (K (l.getD ((j - 1) / 2) 0))) : Heap K l n := by
  intro i h0 hi
  by_cases e : i = j
  · subst e
    rcases hj with hj | hj
    · omega
    · exact hj
  · exact h.1 i h0 hi e
theorem up_step {K : Nat → Key} {l : List Nat} {n j : Nat} (h : Up K l n j) (hn : n ≤ l.length) (hj : j < n) (h0 : 0 < j) (hlt : klt (K (l.getD j 0)) (K (l.getD ((j - 1) / 2) 0))) : Up K (sw l ((j - 1) / 2) j) n ((j - 1) / 2) := by
  have hp : (j - 1) / 2 < l.length := by omega
  have hjl : j < l.length := by omega
  have hpj : (j - 1) / 2 < j := by omega
  refine ⟨fun i hi0 hin hne => ?_, fun i hi0 hin hpar hp0 => ?_⟩
  · rw [sw_get hp hjl, sw_get hp hjl]
    by_cases e1 : i = j
    · subst e1
      rw [if_pos rfl, if_neg (by omega), if_pos rfl]
      exact klt_nlt hlt
    · rw [if_neg e1, if_neg hne]
      by_cases e2 : (i - 1) / 2 = j
      · rw [if_pos e2]
        exact h.2 i hi0 hin e2 h0
      · rw [if_neg e2]
        by_cases e3 : (i - 1) / 2 = (j - 1) / 2
        · rw [if_pos e3]
          have := h.1 i hi0 hin e1
          rw [e3] at this
          exact klt_nlt_trans hlt this
        · rw [if_neg e3]
          exact h.1 i hi0 hin e1
  · rw [sw_get hp hjl, sw_get hp hjl]
    have hq : ((j - 1) / 2 - 1) / 2 < (j - 1) / 2 := by omega
    rw [if_neg (show ((j - 1) / 2 - 1) / 2 ≠ j by omega), if_neg (show ((j - 1) / 2 - 1) / 2 ≠ (j - 1) / 2 by omega)]
    have hpp := h.1 ((j - 1) / 2) hp0 (by omega) (by omega)
    by_cases e1 : i = j
    · subst e1
      rw [if_pos rfl]
      exact hpp
    · rw [if_neg e1, if_neg (by omega)]
      have := h.1 i hi0 hin e1
      rw [hpar] at this
      exact nlt_trans hpp this
theorem up_start {K : Nat → Key} {l : List Nat} {n : Nat} (h : Heap K l n) : Up K l (n + 1) n :=
  ⟨fun i h0 hi hne => h i h0 (by omega), fun i h0 hi hp hj => by omega⟩
/-- so but for one, which goes down -/
def Down (K : Nat → Key) (l : List Nat) (n j : Nat) : Prop :=
  (∀ i, 0 < i → i < n → (i - 1) / 2 ≠ j → ¬ klt (K (l.getD i 0)) (K (l.getD ((i - 1) / 2) 0))) ∧ (∀ i, 0 < i → i < n → (i - 1) / 2 = j → 0 < j → ¬ klt (K (l.getD i 0)) (K (l.getD ((j - 1) / 2) 0)))
theorem down_done {K : Nat → Key} {l : List Nat} {n j : Nat} (h : Down K l n j) (hc : ∀ i, 0 < i → i < n → (i - 1) / 2 = j → ¬ klt (K (l.getD i 0)) (K (l.getD j 0))) : Heap K l n := by
  intro i h0 hi
  by_cases e : (i - 1) / 2 = j
  · rw [e]; exact hc i h0 hi e
  · exact h.1 i h0 hi e
theorem down_step {K : Nat → Key} {l : List Nat} {n j c : Nat} (h : Down K l n j) (hn : n ≤ l.length) (hc : c < n) (hcj : (c - 1) / 2 = j) (hc0 : 0 < c) (hlt : klt (K (l.getD c 0)) (K (l.getD j 0))) (hb : ∀ i, 0 < i → i < n → (i - 1) / 2 = j → ¬ klt (K (l.getD i 0)) (K (l.getD c 0))) : Down K (sw l j c) n c := by
  have hjl : j < l.length := by omega
  have hcl : c < l.length := by omega
  have hjc : j < c := by omega
  refine ⟨fun i hi0 hin hne => ?_, fun i hi0 hin hpar _ => ?_⟩
  · rw [sw_get hjl hcl, sw_get hjl hcl]
    rw [if_neg hne]
    by_cases e1 : i = c
    · subst e1
      rw [if_pos rfl, if_pos hcj]
      exact klt_nlt hlt
    · rw [if_neg e1]
      by_cases e2 : i = j
      · subst e2
        rw [if_pos rfl, if_neg (by omega)]
        exact h.2 c hc0 hc hcj hi0
      · rw [if_neg e2]
        by_cases e3 : (i - 1) / 2 = j
        · rw [if_pos e3]
          exact hb i hi0 hin e3
        · rw [if_neg e3]
          exact h.1 i hi0 hin e3
  · rw [sw_get hjl hcl, sw_get hjl hcl, if_neg (show i ≠ c by omega), if_neg (show i ≠ j by omega), hcj, if_neg (show j ≠ c by omega), if_pos rfl]
    have := h.1 i hi0 hin (by omega)
    rw [hpar] at this
    exact this
/-- the first and the last change places: the last but the last go on -/
theorem down_swap {K : Nat → Key} {l : List Nat} {n : Nat} (h : Heap K l (n + 1)) (hl : n + 1 ≤ l.length) : Down K (sw l 0 n) n 0 := by
  refine ⟨fun i h0 hi hne => ?_, fun i h0 hi hp hj => by omega⟩
  rw [sw_get (by omega) (by omega), sw_get (by omega) (by omega), if_neg (by omega), if_neg (by omega), if_neg (by omega), if_neg (by omega)]
  exact h i h0 (by omega)
end Hp
end Go.Proofs.YtcgmmpfckmhahaaGreat

/- The tree of a code (mathematics): the two least put together, again and again. -/
namespace Go.Proofs.YtcgmmpfckmhahaaGreat
namespace Ct
open Cf (lst wo)

inductive Tr where
  | leaf (s : Nat)
  | node (l r : Tr)
def syms : Tr → List Nat
  | .leaf s => [s]
  | .node l r => syms l ++ syms r
def hgt : Tr → Nat
  | .leaf _ => 0
  | .node l r => 1 + Nat.max (hgt l) (hgt r)
/-- how many nodes stand above a symbol -/
def dep : Tr → Nat → Nat
  | .leaf _, _ => 0
  | .node l r, s => (syms l ++ syms r).count s + dep l s + dep r s
abbrev Nt := Nat × Tr
def wt (p : Nt) : Cf.Wt := (p.1, hgt p.2)
/-- one step -/
def step (ts : List Nt) : List Nt :=
  match lst (-1) (ts.map wt) 0 none with
  | some (a, _) =>
    match lst (a : Int) (ts.map wt) 0 none with
    | some (b, _) => wo a b ts 0 ++ [((ts.getD a (0, .leaf 0)).1 + (ts.getD b (0, .leaf 0)).1, .node (ts.getD a (0, .leaf 0)).2 (ts.getD b (0, .leaf 0)).2)]
    | none => ts
  | none => ts
theorem step_two {ts : List Nt} {a wa b wb : Nat} (h1 : lst (-1) (ts.map wt) 0 none = some (a, wa)) (h2 : lst (a : Int) (ts.map wt) 0 none = some (b, wb)) : step ts = wo a b ts 0 ++ [((ts.getD a (0, .leaf 0)).1 + (ts.getD b (0, .leaf 0)).1, .node (ts.getD a (0, .leaf 0)).2 (ts.getD b (0, .leaf 0)).2)] := by
  unfold step
  rw [h1]
  simp only
  rw [h2]
/-- the least one, but one: it is no more than any other, and less than any ahead -/
theorem lst_least (but : Int) (ns : List Cf.Wt) : ∀ (xs : List Cf.Wt) (i : Nat) (b : Option (Nat × Nat)), (∀ k x, xs[k]? = some x → ns[i + k]? = some x) → (∀ k, k < xs.length → ns[i + k]? = xs[k]?) →
    (∀ p, b = some p → p.1 < i ∧ ∀ k x, k < i → (k : Int) ≠ but → ns[k]? = some x → p.2 ≤ x.1 ∧ (k < p.1 → p.2 < x.1)) → (b = none → ∀ k, k < i → (k : Int) = but) →
    ∀ p, lst but xs i b = some p → ∀ k x, k < i + xs.length → (k : Int) ≠ but → ns[k]? = some x → p.2 ≤ x.1 ∧ (k < p.1 → p.2 < x.1)
  | [], i, b, _, _, hb, _, p, h, k, x, hk, hne, hx => (hb p h).2 k x (by simpa using hk) hne hx
  | y :: xs, i, b, h1, h1', hb, hn, p, h, k, x, hk, hne, hx => by
    have hy : ns[i]? = some y := by simpa using h1 0 y rfl
    refine lst_least but ns xs (i + 1) _ (fun k x hx => by have := h1 (k + 1) x hx; rwa [show i + (k + 1) = i + 1 + k by omega] at this) (fun k hk => by have := h1' (k + 1) (by simp; omega); rw [show i + (k + 1) = i + 1 + k by omega] at this; simpa using this) ?_ ?_ p h k x (by simp at hk; omega) hne hx
    · intro q hq
      split at hq
      · rename_i ht
        cases hq
        refine ⟨by show i < i + 1; omega, fun k x hk hne hx => ?_⟩
        show y.1 ≤ x.1 ∧ (k < i → y.1 < x.1)
        by_cases e : k = i
        · subst e
          rw [hy] at hx; cases hx
          exact ⟨Nat.le_refl _, fun h => by omega⟩
        · cases b with
          | none => exact absurd (hn rfl k (by omega)) hne
          | some q =>
            have h5 := (hb q rfl).2 k x (by omega) hne hx
            simp [Cf.less] at ht
            have := ht.2
            exact ⟨by omega, fun _ => by omega⟩
      · rename_i ht
        have h5 := hb q hq
        refine ⟨by omega, fun k x hk hne hx => ?_⟩
        by_cases e : k = i
        · subst e
          rw [hy] at hx; cases hx
          rw [hq] at ht
          simp [Cf.less] at ht
          have := ht hne
          exact ⟨by omega, fun h => by have := h5.1; omega⟩
        · exact h5.2 k x (by omega) hne hx
    · intro hq k hk
      split at hq
      · cases hq
      · rename_i ht
        by_cases e : k = i
        · subst e
          rw [hq] at ht
          simpa [Cf.less] using ht
        · exact hn hq k (by omega)
theorem lst_min {but : Int} {ns : List Cf.Wt} {p : Nat × Nat} (h : lst but ns 0 none = some p) {k : Nat} {x : Cf.Wt} (hne : (k : Int) ≠ but) (hx : ns[k]? = some x) : p.2 ≤ x.1 ∧ (k < p.1 → p.2 < x.1) := by
  have hk : k < ns.length := (List.getElem?_eq_some_iff.1 hx).1
  exact lst_least but ns ns 0 none (fun k x h => by rw [Nat.zero_add]; exact h) (fun k _ => by rw [Nat.zero_add]) (fun p h => by cases h) (fun _ k hk => by omega) p h k x (by omega) hne hx
theorem wo_sub {α : Type} (a b : Nat) : ∀ (xs : List α) (i : Nat), (wo a b xs i).Sublist xs
  | [], _ => List.Sublist.refl _
  | x :: xs, i => by
    rw [Cf.wo_cons]
    split
    · exact (wo_sub a b xs (i + 1)).cons x
    · exact (wo_sub a b xs (i + 1)).cons_cons x
theorem count_sum (x : Nat) : ∀ l : List Nat, l.count x = Cf.sum (fun y => if y = x then 1 else 0) l
  | [] => rfl
  | y :: l => by
    rw [List.count_cons, count_sum x l]
    show _ = (if y = x then 1 else 0) + Cf.sum _ l
    by_cases e : y = x
    · subst e; simp; omega
    · simp [e]
theorem wo_perm {a b : Nat} {ks : List Nat} (hab : a ≠ b) (ha : a < ks.length) (hb : b < ks.length) : ks.Perm (ks[a] :: ks[b] :: wo a b ks 0) := by
  rw [List.perm_iff_count]
  intro x
  have h := Cf.wo_sum0 (fun y => if y = x then 1 else 0) hab ks ha hb
  rw [List.count_cons, List.count_cons, count_sum, count_sum, ← h]
  simp only [beq_iff_eq]
  exact Nat.add_right_comm _ _ _
/-- what the program takes out first, and then -/
theorem pop_is {K : Nat → Hp.Key} {ks : List Nat} {ns : List Cf.Wt} {but : Int} {a wa m : Nat} (hw : ∀ i, i < ks.length → ∃ x, ns[i]? = some x ∧ x.1 = (K (ks.getD i 0)).1) (hinc : ks.Pairwise (fun x y => (K x).2 < (K y).2)) (h1 : lst but ns 0 none = some (a, wa)) (hns : ns.length = ks.length)
    (hm : ∃ j, j < ks.length ∧ (j : Int) ≠ but ∧ m = ks.getD j 0) (hmin : ∀ j, j < ks.length → (j : Int) ≠ but → ¬ Hp.klt (K (ks.getD j 0)) (K m)) : m = ks.getD a 0 := by
  obtain ⟨j, hj, hjb, rfl⟩ := hm
  obtain ⟨hab, ha, xa, hxa, hwa⟩ := Cf.lst_at h1
  dsimp only at hab ha hxa hwa
  rw [hns] at ha
  by_cases e : j = a
  · rw [e]
  · exfalso
    have hpl : ∀ {i j}, i < j → j < ks.length → (K (ks.getD i 0)).2 < (K (ks.getD j 0)).2 := fun {i j} hij hj => by
      have := List.pairwise_iff_getElem.1 hinc i j (by omega) hj hij
      rw [List.getD_eq_getElem?_getD, List.getD_eq_getElem?_getD, List.getElem?_eq_getElem (by omega), List.getElem?_eq_getElem hj]
      exact this
    have hy := hmin a ha hab
    obtain ⟨x, hx, hxj⟩ := hw j hj
    obtain ⟨x', hx', hxa'⟩ := hw a ha
    rw [hxa] at hx'; cases hx'
    have h5 := lst_min h1 hjb hx
    dsimp only at h5
    refine hy ?_
    unfold Hp.klt
    rcases Nat.lt_or_ge j a with hlt | hge
    · have := h5.2 hlt; omega
    · have := hpl (i := a) (j := j) (by omega) hj; omega
end Ct
end Go.Proofs.YtcgmmpfckmhahaaGreat

/- A heap of nodes in memory: its methods. -/
namespace Go.Proofs.YtcgmmpfckmhahaaGreat
open Go.RowKit

theorem hp_info (name : String) (f : FuncId) (b : Bool) (hm : (Tryz.prog.info? 134).map (fun i => (i.methods.find? (·.name == name)).map (fun m => (m.path.toList, m.func))) = some (some ([], some (f, b)))) : ∃ i m, Tryz.prog.info? 134 = some i ∧ i.methods.find? (·.name == name) = some m ∧ m.path = #[] ∧ m.func = some (f, b) := by
  cases h : Tryz.prog.info? 134 with
  | none => rw [h] at hm; cases hm
  | some i =>
    rw [h] at hm
    cases hf : i.methods.find? (·.name == name) with
    | none => rw [Option.map_some, hf] at hm; cases hm
    | some m =>
      rw [Option.map_some, hf] at hm
      simp at hm
      exact ⟨i, m, rfl, hf, hm.1, hm.2⟩
theorem wrap_chk (xt : TypeId) (a : Addr) (name : String) (w : World) : (Builtin.ssaWrapNilChk_ #[xt] xt #[.pointer (some a), strVal "", strVal name]).run Tryz.prog w = .ok (.pointer (some a)) w := rfl
theorem method_val (name : String) (f : FuncId) (hm : (Tryz.prog.info? 134).map (fun i => (i.methods.find? (·.name == name)).map (fun m => (m.path.toList, m.func))) = some (some ([], some (f, false)))) (F : Nat) (hF : 0 < F) (Hb : Nat) (a : Option Addr) (n c : Nat) (w : World) (h : w.cell? ⟨Hb, 0, none⟩ = some (.slice a n c)) :
    (method F 134 (.pointer (some ⟨Hb, 0, none⟩)) name).run Tryz.prog w = .ok (f, .slice a n c) w := by
  obtain ⟨k, rfl⟩ : ∃ k, F = k + 1 := ⟨F - 1, by omega⟩
  obtain ⟨i, m, hi, hfind, hp, hf⟩ := hp_info name f false hm
  unfold method
  simp [typeInfo, hi, hfind, hp, hf, follow, receiverAt, run_underlying Tryz.underlying134, Place.get, Result.andThen, wrap_chk, asAddr, go_sem, h]
theorem m_len (Hb : Nat) (a : Option Addr) (n c : Nat) (w : World) (h : w.cell? ⟨Hb, 0, none⟩ = some (.slice a n c)) : (method 263 134 (.pointer (some ⟨Hb, 0, none⟩)) "Len").run Tryz.prog w = .ok (99, .slice a n c) w := method_val "Len" _ (by kernel_rfl) _ (by decide) Hb a n c w h
theorem m_less (Hb : Nat) (a : Option Addr) (n c : Nat) (w : World) (h : w.cell? ⟨Hb, 0, none⟩ = some (.slice a n c)) : (method 263 134 (.pointer (some ⟨Hb, 0, none⟩)) "Less").run Tryz.prog w = .ok (122, .slice a n c) w := method_val "Less" _ (by kernel_rfl) _ (by decide) Hb a n c w h
theorem m_swap (Hb : Nat) (a : Option Addr) (n c : Nat) (w : World) (h : w.cell? ⟨Hb, 0, none⟩ = some (.slice a n c)) : (method 263 134 (.pointer (some ⟨Hb, 0, none⟩)) "Swap").run Tryz.prog w = .ok (125, .slice a n c) w := method_val "Swap" _ (by kernel_rfl) _ (by decide) Hb a n c w h
theorem m_push (a : Addr) (w : World) : (method 263 134 (.pointer (some a)) "Push").run Tryz.prog w = .ok (124, .pointer (some a)) w := by kernel_rfl
theorem m_pop (a : Addr) (w : World) : (method 263 134 (.pointer (some a)) "Pop").run Tryz.prog w = .ok (123, .pointer (some a)) w := by kernel_rfl

def ptN (k : Nat) : Value := .pointer (some ⟨k, 0, none⟩)
/-- the nodes: how often each comes, and where it stands -/
def KeysAt (W : World) (K : Nat → Hp.Key) (l : List Nat) : Prop := ∀ k ∈ l, ∃ s x y : Value, W.heap[k]? = some (.cells #[s, x, y, .int .i64 ((K k).1 : Int), .int .i64 ((K k).2 : Int)] 126 (0, 0))
/-- a row of nodes of one's own -/
def RowN (W : World) (g n : Nat) (l : List Nat) : Prop := ∃ cs : Array Value, W.heap[g]? = some (.cells cs 122 (0, 0)) ∧ l.length = n ∧ ∀ i, i < n → cs[i]? = some (ptN (l.getD i 0))

set_option maxHeartbeats 400000 in
theorem hpLen (a : Option Addr) (n c : Nat) (w : World) : Calls Tryz.prog 99 #[.slice a n c] w fun e w' => e = .returned (.int .i64 (n : Int)) ∧ w' = w := by
  go_enter Tryz.func99, Tryz.ntmps99
  go_wp2_with fail
  go_ret
  exact ⟨rfl, rfl⟩
theorem RowN.cell {W : World} {g n : Nat} {l : List Nat} (h : RowN W g n l) {i : Nat} (hi : i < n) : W.cell? ⟨g, i, none⟩ = some (ptN (l.getD i 0)) ∧ W.frozen? ⟨g, i, none⟩ = false := by
  obtain ⟨cs, h1, h2, h3⟩ := h
  simp [World.cell?, World.frozen?, h1, h3 i hi]
theorem getD_mem {l : List Nat} {i : Nat} (h : i < l.length) : l.getD i 0 ∈ l := by
  rw [List.getD_eq_getElem?_getD, List.getElem?_eq_getElem h]; exact List.getElem_mem h
set_option maxHeartbeats 2000000 in
set_option maxRecDepth 20000 in
theorem hpLess (g n c : Nat) (l : List Nat) (K : Nat → Hp.Key) (i j : Nat) (w : World) (hi : i < n) (hj : j < n) (hR : RowN w g n l) (hK : KeysAt w K l) (hKb : ∀ k ∈ l, (K k).1 ≤ 100000000 ∧ (K k).2 ≤ 100000000) :
    Calls Tryz.prog 122 #[.slice (some ⟨g, 0, none⟩) n c, .int .i64 (i : Int), .int .i64 (j : Int)] w fun e w' => e = .returned (.bool (decide (Hp.klt (K (l.getD i 0)) (K (l.getD j 0))))) ∧ ∃ q, w' = w.drewN q := by
  have hl : l.length = n := by obtain ⟨cs, h1, h2, h3⟩ := hR; exact h2
  have ci := (hR.cell hi).1
  have cj := (hR.cell hj).1
  have mi := getD_mem (l := l) (i := i) (by omega)
  have mj := getD_mem (l := l) (i := j) (by omega)
  obtain ⟨s1, x1, y1, hk1⟩ := hK _ mi
  obtain ⟨s2, x2, y2, hk2⟩ := hK _ mj
  have hb1 := hKb _ mi
  have hb2 := hKb _ mj
  unfold ptN at ci cj
  generalize l.getD i 0 = a at *
  generalize l.getD j 0 = b at *
  have o1 : w.cell? ⟨a, 3, none⟩ = some (.int .i64 ((K a).1 : Int)) := by simp [World.cell?, hk1]
  have o2 : w.cell? ⟨b, 3, none⟩ = some (.int .i64 ((K b).1 : Int)) := by simp [World.cell?, hk2]
  have p1 : w.cell? ⟨a, 4, none⟩ = some (.int .i64 ((K a).2 : Int)) := by simp [World.cell?, hk1]
  have p2 : w.cell? ⟨b, 4, none⟩ = some (.int .i64 ((K b).2 : Int)) := by simp [World.cell?, hk2]
  have hkl : Hp.klt (K a) (K b) ↔ (K a).1 < (K b).1 ∨ ((K a).1 = (K b).1 ∧ (K a).2 < (K b).2) := Iff.rfl
  obtain ⟨D, hD⟩ : ∃ D, D = decide (Hp.klt (K a) (K b)) := ⟨_, rfl⟩
  rw [← hD]
  generalize K a = ka at *
  generalize K b = kb at *
  obtain ⟨u1, v1⟩ := ka
  obtain ⟨u2, v2⟩ := kb
  dsimp only at *
  have hii : (i : Int) < (n : Int) := by omega
  have hji : (j : Int) < (n : Int) := by omega
  clear hR hK hKb hk1 hk2 mi mj hl
  by_cases hne : u1 = u2
  · have d1 : (((u1 : Nat) : Int) != ((u2 : Nat) : Int)) = false := by rw [hne]; simp
    have HD : Hid (decide (v1 < v2) = D) := by
      show _ = _
      rw [hD]
      exact decide_eq_decide.2 (by rw [hkl]; omega)
    clear hD hkl hne
    go_enter Tryz.func122, Tryz.ntmps122
    go_wp2_with fail
    go_quiet (fail)
    go_wp2_with fail
    go_quiet (fail)
    go_wp2_with fail
    go_ret
    exact ⟨by show Ending.returned (Value.bool (decide (v1 < v2))) = _; rw [HD.out], _, by rw [World.drewN_drewN]⟩
  · have d1 : (((u1 : Nat) : Int) != ((u2 : Nat) : Int)) = true := by rw [bne_iff_ne]; omega
    have HD : Hid (decide (u1 < u2) = D) := by
      show _ = _
      rw [hD]
      exact decide_eq_decide.2 (by rw [hkl]; omega)
    clear hD hkl hne
    go_enter Tryz.func122, Tryz.ntmps122
    go_wp2_with fail
    go_quiet (fail)
    go_wp2_with fail
    go_quiet (fail)
    go_wp2_with fail
    go_ret
    exact ⟨by show Ending.returned (Value.bool (decide (u1 < u2))) = _; rw [HD.out], _, by rw [World.drewN_drewN]⟩

def SwapEnd (g : Nat) (l : List Nat) (i j : Nat) (w : World) (e : Ending) (w' : World) : Prop := (∃ v, e = .returned v) ∧ ∃ q, w' = ((w.setCell ⟨g, i, none⟩ (ptN (l.getD j 0))).setCell ⟨g, j, none⟩ (ptN (l.getD i 0))).drewN q
set_option maxHeartbeats 4000000 in
set_option maxRecDepth 20000 in
theorem hpSwap (g n c : Nat) (l : List Nat) (i j : Nat) (w : World) (hi : i < n) (hj : j < n) (hR : RowN w g n l) :
    Calls Tryz.prog 125 #[.slice (some ⟨g, 0, none⟩) n c, .int .i64 (i : Int), .int .i64 (j : Int)] w (SwapEnd g l i j w) := by
  obtain ⟨ci, fi⟩ := hR.cell hi
  obtain ⟨cj, fj⟩ := hR.cell hj
  have hii : (i : Int) < (n : Int) := by omega
  have hji : (j : Int) < (n : Int) := by omega
  unfold ptN at ci cj
  have HF : Hid (∀ (e : Ending) (W' : World), (∃ v, e = .returned v) → (∃ q, W' = (((w.setCell ⟨g, i, none⟩ (ptN (l.getD j 0))).setCell ⟨g, j, none⟩ (ptN (l.getD i 0))).drewN q)) → SwapEnd g l i j w e W') := fun e W' hv hq => ⟨hv, hq⟩
  obtain ⟨x2, c2⟩ : ∃ x2, (w.setCell ⟨g, i, none⟩ (ptN (l.getD j 0))).cell? ⟨g, j, none⟩ = some x2 := by
    by_cases e : i = j
    · subst e
      exact ⟨_, World.cell?_setCell_same _ _ _ ci⟩
    · exact ⟨_, (World.cell?_setCell_other _ _ _ _ (fun q => e (congrArg Addr.off q))).trans cj⟩
  unfold ptN at HF c2
  generalize l.getD i 0 = a at *
  generalize l.getD j 0 = b at *
  clear hR
  go_enter Tryz.func125, Tryz.ntmps125
  go_wp2_with fail
  go_region
  all_goals (
    go_wp2_with fail
    go_end0
    exact HF.out _ _ ⟨_, rfl⟩ ⟨1, rfl⟩)
end Go.Proofs.YtcgmmpfckmhahaaGreat

/- What holds between the rounds of the tree (mathematics). -/
namespace Go.Proofs.YtcgmmpfckmhahaaGreat
namespace Cf

abbrev Nd := Wt × List Nat
theorem wo_keep {α : Type} {a b : Nat} : ∀ (xs : List α) (i k : Nat) (x : α), xs[k]? = some x → i + k ≠ a → i + k ≠ b → x ∈ wo a b xs i
  | [], _, _, _, h, _, _ => by simp at h
  | y :: xs, i, 0, x, h, ha, hb => by
    have e : y = x := by simpa using h
    subst e
    rw [wo_cons, if_neg (by simp; omega)]
    simp
  | y :: xs, i, k + 1, x, h, ha, hb => by
    have ih := wo_keep (a := a) (b := b) xs (i + 1) k x (by simpa using h) (by omega) (by omega)
    rw [wo_cons]
    split
    · exact ih
    · exact List.mem_cons_of_mem _ ih
theorem sum_ge {α : Type} (f : α → Nat) {i j : Nat} (hij : i ≠ j) (xs : List α) (hi : i < xs.length) (hj : j < xs.length) : f xs[i] + f xs[j] ≤ sum f xs := by
  have := wo_sum0 f hij xs hi hj
  omega
theorem sum_one {α : Type} (f : α → Nat) : ∀ (xs : List α) (x : α), x ∈ xs → f x ≤ sum f xs
  | y :: xs, x, h => by
    unfold sum
    rcases List.mem_cons.1 h with rfl | h
    · omega
    · have := sum_one f xs x h; omega
structure Inv (n : Nat) (ps : List Nd) (f : Nat → Nat) : Prop where
  dup : ∀ s, sum (fun p : Nd => p.2.count s) ps ≤ 1
  rng : ∀ p ∈ ps, ∀ s ∈ p.2, s < n
  hgt : ∀ s, s < n → f s = 0 ∨ (∃ p ∈ ps, s ∈ p.2 ∧ f s ≤ p.1.2) ∨ (ps.length = 1 ∧ f s ≤ 1)
  wgt : sum (fun p : Nd => p.1.1) ps ≤ 3000000
  len : ps.length ≤ 300
  tot : sum (fun p : Nd => p.2.length) ps ≤ 300
  fin_bound : ∀ p ∈ ps, p.1.2 ≤ 400 - ps.length

/-- the nodes behind one round -/
def next (ps : List Nd) (a b : Nat) (x y : Nd) : List Nd := wo a b ps 0 ++ [((x.1.1 + y.1.1, 1 + Nat.max x.1.2 y.1.2), x.2 ++ y.2)]
theorem next_ns {ps : List Nd} {a b wa wb : Nat} {x y : Nd} (h1 : lst (-1) (ps.map (fun p => p.1)) 0 none = some (a, wa)) (h2 : lst (a : Int) (ps.map (fun p => p.1)) 0 none = some (b, wb)) (hx : ps[a]? = some x) (hy : ps[b]? = some y) : (next ps a b x y).map (fun p => p.1) = step (ps.map (fun p => p.1)) := by
  have hgx : ∀ (i : Nat) (z : Nd), ps[i]? = some z → Cf.hgt (ps.map (fun p => p.1)) i = z.1.2 := fun i z hz => by
    unfold Cf.hgt
    rw [List.getD_eq_getElem?_getD, List.getElem?_map, hz]; rfl
  obtain ⟨_, _, x', e1, e2⟩ := lst_at h1
  obtain ⟨_, _, y', e3, e4⟩ := lst_at h2
  simp only at e1 e2 e3 e4
  rw [List.getElem?_map, hx] at e1
  rw [List.getElem?_map, hy] at e3
  have e1' : x.1 = x' := by simpa using e1
  have e3' : y.1 = y' := by simpa using e3
  rw [step_two h1 h2]
  unfold next
  rw [List.map_append, wo_map, hgx a x hx, hgx b y hy, ← e2, ← e4, ← e1', ← e3']
  rfl
theorem Inv.next {n : Nat} {ps : List Nd} {f : Nat → Nat} (h : Inv n ps f) {a b : Nat} {x y : Nd} (hx : ps[a]? = some x) (hy : ps[b]? = some y) (hab : a ≠ b) : Inv n (Cf.next ps a b x y) (fun s => f s + (x.2 ++ y.2).count s) := by
  obtain ⟨ha, rfl⟩ := List.getElem?_eq_some_iff.1 hx
  obtain ⟨hb, rfl⟩ := List.getElem?_eq_some_iff.1 hy
  have hlen := wo_len0 hab ps ha hb
  refine ⟨fun s => ?_, fun p hp s hs => ?_, fun s hs => ?_, ?_, ?_, ?_, fun p hp => ?_⟩
  · unfold Cf.next
    rw [sum_append]
    have := wo_sum0 (fun p : Nd => p.2.count s) hab ps ha hb
    have h2 := h.dup s
    simp only [sum, List.count_append]
    omega
  · unfold Cf.next at hp
    rcases List.mem_append.1 hp with hp | hp
    · exact h.rng p (wo_mem ps 0 p hp) s hs
    · rw [List.mem_singleton] at hp
      subst hp
      rcases List.mem_append.1 hs with hs | hs
      · exact h.rng _ (List.getElem_mem ha) s hs
      · exact h.rng _ (List.getElem_mem hb) s hs
  · have hd := h.dup s
    have hge := sum_ge (fun p : Nd => p.2.count s) hab ps ha hb
    simp only [List.count_append]
    by_cases hin : s ∈ ps[a].2 ∨ s ∈ ps[b].2
    · right; left
      refine ⟨_, List.mem_append.2 (.inr (List.mem_singleton.2 rfl)), List.mem_append.2 hin, ?_⟩
      have hf : f s ≤ Nat.max ps[a].1.2 ps[b].1.2 := by
        rcases h.hgt s hs with h0 | ⟨p, hp, hsp, hle⟩ | ⟨h1, _⟩
        · omega
        · obtain ⟨i, hi, rfl⟩ := List.getElem_of_mem hp
          by_cases ea : i = a
          · subst ea; exact Nat.le_trans hle (Nat.le_max_left _ _)
          · by_cases eb : i = b
            · subst eb; exact Nat.le_trans hle (Nat.le_max_right _ _)
            · exfalso
              have c1 : 0 < ps[i].2.count s := List.count_pos_iff.2 hsp
              rcases hin with hin | hin
              · have := sum_ge (fun p : Nd => p.2.count s) ea ps hi ha
                have c2 : 0 < ps[a].2.count s := List.count_pos_iff.2 hin
                omega
              · have := sum_ge (fun p : Nd => p.2.count s) eb ps hi hb
                have c2 : 0 < ps[b].2.count s := List.count_pos_iff.2 hin
                omega
        · omega
      show f s + (ps[a].2.count s + ps[b].2.count s) ≤ 1 + Nat.max ps[a].1.2 ps[b].1.2
      omega
    · have c1 : ps[a].2.count s = 0 := List.count_eq_zero.2 (fun e => hin (.inl e))
      have c2 : ps[b].2.count s = 0 := List.count_eq_zero.2 (fun e => hin (.inr e))
      rw [c1, c2, Nat.add_zero]
      rcases h.hgt s hs with h0 | ⟨p, hp, hsp, hle⟩ | ⟨h1, _⟩
      · exact .inl h0
      · right; left
        obtain ⟨i, hi, rfl⟩ := List.getElem_of_mem hp
        refine ⟨ps[i], List.mem_append.2 (.inl (wo_keep ps 0 i _ (List.getElem?_eq_getElem hi) (fun e => ?_) (fun e => ?_))), hsp, hle⟩
        · rw [Nat.zero_add] at e; subst e; exact hin (.inl hsp)
        · rw [Nat.zero_add] at e; subst e; exact hin (.inr hsp)
      · omega
  · unfold Cf.next
    rw [sum_append]
    have := wo_sum0 (fun p : Nd => p.1.1) hab ps ha hb
    have h2 := h.wgt
    simp only [sum]
    omega
  · unfold Cf.next
    rw [List.length_append, List.length_singleton]
    have := h.len
    omega
  · unfold Cf.next
    rw [sum_append]
    have := wo_sum0 (fun p : Nd => p.2.length) hab ps ha hb
    have h2 := h.tot
    simp only [sum, List.length_append]
    omega
  · have hl := h.len
    unfold Cf.next at hp ⊢
    rw [List.length_append, List.length_singleton]
    rcases List.mem_append.1 hp with hp | hp
    · have := h.fin_bound p (wo_mem ps 0 p hp)
      omega
    · rw [List.mem_singleton] at hp
      subst hp
      have h1 := h.fin_bound _ (List.getElem_mem ha)
      have h2 := h.fin_bound _ (List.getElem_mem hb)
      have h3 : Nat.max ps[a].1.2 ps[b].1.2 ≤ 400 - ps.length := Nat.max_le.2 ⟨h1, h2⟩
      show 1 + Nat.max ps[a].1.2 ps[b].1.2 ≤ _
      omega
/-- at the end -/
theorem Inv.end {n : Nat} {ps : List Nd} {f : Nat → Nat} (h : Inv n ps f) (hl : ps.length ≤ 1) : ∀ s, s < n → f s ≤ Nat.max 1 (fin (ps.map (fun p => p.1))) := by
  intro s hs
  rw [fin_one (by rw [List.length_map]; exact hl)]
  rcases h.hgt s hs with h0 | ⟨p, hp, _, hle⟩ | ⟨_, h1⟩
  · rw [h0]; exact Nat.zero_le _
  · exact Nat.le_trans (Nat.le_trans hle (maxh_mem _ _ (List.mem_map.2 ⟨p, hp, rfl⟩))) (Nat.le_max_right _ _)
  · exact Nat.le_trans h1 (Nat.le_max_left _ _)
/-- at the beginning: the first k -/
def init (zs : List Int) : Nat → List Nd
  | 0 => []
  | k + 1 => if 0 < zs.getD k 0 then init zs k ++ [(((zs.getD k 0).toNat, 0), [k])] else init zs k
theorem init_len (zs : List Int) : ∀ k, (init zs k).length ≤ k
  | 0 => Nat.le_refl _
  | k + 1 => by
    have := init_len zs k
    unfold init
    split
    · rw [List.length_append, List.length_singleton]; omega
    · omega
theorem init_mem (zs : List Int) : ∀ k p, p ∈ init zs k → p.1.2 = 0 ∧ ∃ s, s < k ∧ p.2 = [s] ∧ p.1.1 = (zs.getD s 0).toNat
  | 0, p, h => by simp [init] at h
  | k + 1, p, h => by
    unfold init at h
    split at h
    · rcases List.mem_append.1 h with h | h
      · obtain ⟨h1, s, h2, h3, h4⟩ := init_mem zs k p h
        exact ⟨h1, s, by omega, h3, h4⟩
      · rw [List.mem_singleton] at h
        subst h
        exact ⟨rfl, k, by omega, rfl, rfl⟩
    · obtain ⟨h1, s, h2, h3, h4⟩ := init_mem zs k p h
      exact ⟨h1, s, by omega, h3, h4⟩
theorem init_dup (zs : List Int) (s : Nat) : ∀ k, sum (fun p : Nd => p.2.count s) (init zs k) ≤ 1 ∧ (k ≤ s → sum (fun p : Nd => p.2.count s) (init zs k) = 0)
  | 0 => ⟨by simp [init, sum], fun _ => rfl⟩
  | k + 1 => by
    obtain ⟨h1, h2⟩ := init_dup zs s k
    unfold init
    split
    · rw [sum_append]
      simp only [sum]
      by_cases e : k = s
      · subst e
        rw [h2 (Nat.le_refl _)]
        refine ⟨by simp, fun h => by omega⟩
      · have : List.count s [k] = 0 := by rw [List.count_eq_zero]; simp; omega
        rw [this]
        exact ⟨by omega, fun h => by rw [h2 (by omega)]⟩
    · exact ⟨h1, fun h => h2 (by omega)⟩
theorem init_wgt {zs : List Int} (hz : ∀ i, i < zs.length → 0 ≤ zs.getD i 0 ∧ zs.getD i 0 ≤ 9000) : ∀ k, k ≤ zs.length → sum (fun p : Nd => p.1.1) (init zs k) ≤ 9000 * k
  | 0, _ => by simp [init, sum]
  | k + 1, h => by
    have ih := init_wgt hz k (by omega)
    have := hz k (by omega)
    unfold init
    split
    · rw [sum_append]
      simp only [sum]
      omega
    · omega
theorem init_tot (zs : List Int) : ∀ k, sum (fun p : Nd => p.2.length) (init zs k) ≤ k
  | 0 => by simp [init, sum]
  | k + 1 => by
    have ih := init_tot zs k
    unfold init
    split
    · rw [sum_append]
      simp only [sum, List.length_singleton]
      omega
    · omega
theorem init_inv {zs : List Int} (hz : ∀ i, i < zs.length → 0 ≤ zs.getD i 0 ∧ zs.getD i 0 ≤ 9000) (hl : zs.length ≤ 300) : Inv zs.length (init zs zs.length) (fun _ => 0) := by
  refine ⟨fun s => (init_dup zs s _).1, fun p hp s hs => ?_, fun s _ => .inl rfl, ?_, ?_, Nat.le_trans (init_tot zs _) hl, fun p hp => by rw [(init_mem zs _ p hp).1]; exact Nat.zero_le _⟩
  · obtain ⟨_, t, h2, h3, _⟩ := init_mem zs _ p hp
    rw [h3, List.mem_singleton] at hs
    omega
  · have := init_wgt hz zs.length (Nat.le_refl _)
    omega
  · have := init_len zs zs.length
    omega
/-- how deep it goes -/
def deep (zs : List Int) : Nat := Nat.max 1 (fin ((init zs zs.length).map (fun p => p.1)))
end Cf
end Go.Proofs.YtcgmmpfckmhahaaGreat

/- The reader of a code, by which inputs are drawn: it stands anywhere, it picks a number below a bound, and nothing but its own place turns. -/
namespace Go.Proofs.YtcgmmpfckmhahaaGreat
open Go.RowKit

/-- the bytes of a code, below block B -/
def Row8 (w : World) (B : Nat) (a : Option Addr) (len : Nat) : Prop :=
  len = 0 ∨ ∃ b off, a = some ⟨b, off, none⟩ ∧ b < B ∧ ∀ i, i < len → ∃ c : Nat, c < 256 ∧ w.cell? ⟨b, off + i, none⟩ = some (.int .u8 (c : Int))

/-- a reader in block B, at place p -/
def RdAt (w : World) (B p : Nat) : Prop :=
  ∃ a len cap, w.cell? ⟨B, 0, none⟩ = some (.slice a len cap) ∧ w.cell? ⟨B, 1, none⟩ = some (.int .i64 (p : Int)) ∧ w.frozen? ⟨B, 1, none⟩ = false ∧ len ≤ 2000 ∧ Row8 w B a len

theorem RdAt.step {w : World} {B p : Nat} (h : RdAt w B p) (n : Nat) : RdAt ((w.setCell ⟨B, 1, none⟩ (.int .i64 ((p + 1 : Nat) : Int))).drewN n) B (p + 1) := by
  obtain ⟨a, len, cap, h0, h1, hf, hl, hr⟩ := h
  refine ⟨a, len, cap, ?_, ?_, ?_, hl, ?_⟩
  · rw [World.cell?_drewN, World.cell?_setCell_other _ _ _ _ (by simp)]; exact h0
  · rw [World.cell?_drewN]; exact World.cell?_setCell_same _ _ _ h1
  · rw [World.frozen?_drewN, World.frozen?_setCell]; exact hf
  · rcases hr with h | ⟨b, off, rfl, hb, hc⟩
    · exact .inl h
    · refine .inr ⟨b, off, rfl, hb, fun i hi => ?_⟩
      obtain ⟨c, hc1, hc2⟩ := hc i hi
      refine ⟨c, hc1, ?_⟩
      rw [World.cell?_drewN, World.cell?_setCell_other _ _ _ _ (fun e => absurd (congrArg Addr.block e) (by show ¬ B = b; omega))]; exact hc2

end Go.Proofs.YtcgmmpfckmhahaaGreat

/- A text out of bytes that lie in memory. -/
namespace Go.Proofs.YtcgmmpfckmhahaaGreat
open Go.RowKit

theorem push_all (ns : List Nat) : ∀ a : Array UInt8, (ns.map (fun n : Nat => (n : Int))).foldl (fun (r : ByteArray) (n : Int) => r.push (UInt8.ofNat n.toNat)) ⟨a⟩ = ⟨a ++ (ns.map UInt8.ofNat).toArray⟩ := by
  induction ns with
  | nil => intro a; simp
  | cons n ns ih =>
    intro a
    simp only [List.map_cons, List.foldl_cons]
    have e : (ByteArray.mk a).push (UInt8.ofNat (n : Int).toNat) = ⟨a.push (UInt8.ofNat n)⟩ := by rw [Int.toNat_natCast]; rfl
    rw [e, ih]
    simp

/-- the text of the bytes ns, which lie at a place -/
theorem run_text (w : World) (a : Addr) (cap : Nat) (ns : List Nat) (h : ∀ j v, (ns.map (fun n : Nat => Value.int .u8 (n : Int)))[j]? = some v → w.cell? (a.add j) = some v) :
    Sem.run Tryz.prog (convert 27 9 (.slice (some a) ns.length cap)) w = .ok (.string ⟨(ns.map UInt8.ofNat).toArray⟩) w := by
  rw [run_convert_bytes_string w 27 9 5 _ _ _ Tryz.underlying27 Tryz.underlying5 Tryz.underlying9]
  have hl := run_loadCells_list (P := Tryz.prog) w a (ns.map (fun n : Nat => Value.int .u8 (n : Int))) h
  rw [List.length_map] at hl
  rw [run_bytesToString w a ns.length cap (ns.map (fun n : Nat => (n : Int))) (by rw [hl]; congr 2; simp)]
  congr 2
  have h2 := push_all ns #[]
  rw [Array.empty_append] at h2
  exact h2

/-- the text of one byte, just laid -/
theorem run_text1 (w : World) (c : Nat) (b : Nat) (hb : b = w.heap.size) :
    Sem.run Tryz.prog (convert 27 9 (.slice (some ⟨b, 0, none⟩) 1 1)) (w.alloc (.cells #[.int .u8 (c : Int)] 5)) = .ok (.string ⟨#[UInt8.ofNat c]⟩) (w.alloc (.cells #[.int .u8 (c : Int)] 5)) := by
  subst hb
  refine run_text _ ⟨w.heap.size, 0, none⟩ 1 [c] ?_
  intro j v hj
  match j, hj with
  | 0, hj => simp at hj; subst hj; simp [Addr.add]

end Go.Proofs.YtcgmmpfckmhahaaGreat

/- Nothing but one block turns. -/
namespace Go.Proofs.YtcgmmpfckmhahaaGreat
open Go.RowKit

/-- nothing that was there has turned but block B -/
structure Only (B : Nat) (w w' : World) : Prop where
  below : Below B w w'
  rest : ∀ k, k < w.heap.size → k ≠ B → w'.heap[k]? = w.heap[k]?

theorem Only.refl (B : Nat) (w : World) : Only B w w := ⟨Below.refl _ _, fun _ _ _ => rfl⟩
theorem Only.trans {B : Nat} {a b c : World} (h : Only B a b) (g : Only B b c) : Only B a c :=
  ⟨h.below.trans g.below, fun k hk hB => (g.rest k (Nat.lt_of_lt_of_le hk h.below.size) hB).trans (h.rest k hk hB)⟩
theorem Only.alloc {B : Nat} {a b : World} (h : Only B a b) (hB : B < b.heap.size) (o : Obj) : Only B a (b.alloc o) :=
  ⟨h.below.alloc (Nat.le_of_lt hB) o, fun k hk hkB => (Below.heap_alloc b o k (Nat.lt_of_lt_of_le hk h.below.size)).trans (h.rest k hk hkB)⟩
theorem Only.cell {B : Nat} {w w' : World} (h : Only B w w') : ∀ k o, k < w.heap.size → k ≠ B → w'.cell? ⟨k, o, none⟩ = w.cell? ⟨k, o, none⟩ :=
  fun k o hk hB => World.cell?_of_block (w := w) (a := ⟨k, o, none⟩) (h.rest k hk hB)
theorem Only.set {B : Nat} {w w' : World} (h : Only B w w') {g : Nat} (hg : w.heap.size ≤ g) (hB : B < w.heap.size) (i : Nat) (v : Value) : Only B w (w'.setCell ⟨g, i, none⟩ v) :=
  ⟨h.below.setCell (p := ⟨g, i, none⟩) (show B ≤ g by omega) _, fun k hk hkB => (Below.heap_setCell w' ⟨g, i, none⟩ v k (by show k ≠ g; omega)).trans (h.rest k hk hkB)⟩
theorem Only.own (w : World) (B i : Nat) (v : Value) : Only B w (w.setCell ⟨B, i, none⟩ v) :=
  ⟨(Below.refl B w).setCell (p := ⟨B, i, none⟩) (Nat.le_refl _) _, fun k _ hk => Below.heap_setCell w ⟨B, i, none⟩ v k hk⟩
theorem Only.of_below {B : Nat} {w w' : World} (h : Below w.heap.size w w') (hB : B < w.heap.size) : Only B w w' := ⟨h.mono (Nat.le_of_lt hB), fun k hk _ => h.block k hk⟩
theorem Only.drewN {B : Nat} {w w' : World} (h : Only B w w') (n : Nat) : Only B w (w'.drewN n) := ⟨⟨h.below.os, h.below.tape, h.below.output, h.below.size, h.below.block⟩, h.rest⟩
end Go.Proofs.YtcgmmpfckmhahaaGreat

/- The drawn text: whatever the code, some text of a bounded size; nothing but the reader turns. -/
namespace Go.Proofs.YtcgmmpfckmhahaaGreat
open Go.RowKit

theorem RdAt.lt {w : World} {B p : Nat} (h : RdAt w B p) : B < w.heap.size := by
  obtain ⟨a, len, cap, h0, _⟩ := h
  exact World.block_lt_of_cell? _ _ h0

theorem RdAt.kept {w w' : World} {B p : Nat} (h : RdAt w B p) (hb : Below (B + 1) w w') : RdAt w' B p := by
  obtain ⟨a, len, cap, h0, h1, hf, hl, hr⟩ := h
  refine ⟨a, len, cap, (hb.cell (p := ⟨B, 0, none⟩) (by show B < B + 1; omega)).trans h0, (hb.cell (p := ⟨B, 1, none⟩) (by show B < B + 1; omega)).trans h1, (hb.frozen (p := ⟨B, 1, none⟩) (by show B < B + 1; omega)).trans hf, hl, ?_⟩
  rcases hr with h | ⟨b, off, rfl, hbB, hc⟩
  · exact .inl h
  · refine .inr ⟨b, off, rfl, hbB, fun i hi => ?_⟩
    obtain ⟨c, hc1, hc2⟩ := hc i hi
    exact ⟨c, hc1, (hb.cell (p := ⟨b, off + i, none⟩) (by show b < B + 1; omega)).trans hc2⟩

theorem RdAt.alloc {w : World} {B p : Nat} (h : RdAt w B p) (o : Obj) : RdAt (w.alloc o) B p :=
  h.kept ((Below.refl _ _).alloc h.lt o)

theorem RdAt.drew {w : World} {B p : Nat} (h : RdAt w B p) : RdAt w.drew B p := h.kept (Below.refl _ _).drew

end Go.Proofs.YtcgmmpfckmhahaaGreat

/- A reader over a code that came in, and drawn texts. -/
namespace Go.Proofs.YtcgmmpfckmhahaaGreat
open Go.RowKit

/-- what the walks are told of a code that came in -/
def Code8 (w : World) (a : Option Addr) (len cap : Nat) : Prop := len ≤ cap ∧ cap ≤ maxLen ∧ Row8 w w.heap.size a len

theorem Code8.kept {w w' : World} {a : Option Addr} {len cap : Nat} (h : Code8 w a len cap) (hb : Below w.heap.size w w') : Code8 w' a len cap := by
  obtain ⟨h1, h2, hr⟩ := h
  refine ⟨h1, h2, ?_⟩
  rcases hr with h | ⟨b, off, rfl, hbB, hc⟩
  · exact .inl h
  · refine .inr ⟨b, off, rfl, Nat.lt_of_lt_of_le hbB hb.size, fun i hi => ?_⟩
    obtain ⟨c, hc1, hc2⟩ := hc i hi
    exact ⟨c, hc1, (hb.cell (p := ⟨b, off + i, none⟩) hbB).trans hc2⟩

theorem Row8.less {w : World} {B : Nat} {a : Option Addr} {len k : Nat} (h : Row8 w B a len) (hk : k ≤ len) : Row8 w B a k := by
  rcases h with h | ⟨b, off, rfl, hb, hc⟩
  · exact .inl (by omega)
  · exact .inr ⟨b, off, rfl, hb, fun i hi => hc i (by omega)⟩

end Go.Proofs.YtcgmmpfckmhahaaGreat

/- The draw of the laws on rows. -/
namespace Go.Proofs.YtcgmmpfckmhahaaGreat
open Go.RowKit

theorem Only.grown {B : Nat} {w a b : World} (h : Only B w a) (hB : B < w.heap.size) (g : Below w.heap.size a b) : Only B w b :=
  ⟨h.below.trans (g.mono (Nat.le_of_lt hB)), fun k hk hkB => (g.block k hk).trans (h.rest k hk hkB)⟩

theorem OwnI.same {w w' : World} {B n : Nat} {v : Value} {l : List Int} (h : OwnI w B v n l) (hk : ∀ k, k < w.heap.size → B ≤ k → w'.heap[k]? = w.heap[k]?) : OwnI w' B v n l := by
  refine ⟨h.1, ?_⟩
  rcases h.2 with h2 | ⟨g, cap, cur, hv, hg, hh, r⟩
  · exact .inl h2
  · have hlt : g < w.heap.size := by
      rcases Nat.lt_or_ge g w.heap.size with hlt | hge
      · exact hlt
      · rw [Array.getElem?_eq_none hge] at hh; cases hh
    exact .inr ⟨g, cap, cur, hv, hg, by rw [hk g hlt hg]; exact hh, r⟩
theorem OwnI.only {w w' : World} {B C n : Nat} {v : Value} {l : List Int} (h : OwnI w B v n l) (ho : Only C w w') (hC : C < B) : OwnI w' B v n l := h.same (fun k hk hB => ho.rest k hk (by omega))
theorem OwnI.lower {w : World} {B C n : Nat} {v : Value} {l : List Int} (h : OwnI w B v n l) (hC : C ≤ B) : OwnI w C v n l := by
  refine ⟨h.1, ?_⟩
  rcases h.2 with h2 | ⟨g, cap, cur, hv, hg, r⟩
  · exact .inl h2
  · exact .inr ⟨g, cap, cur, hv, by omega, r⟩

end Go.Proofs.YtcgmmpfckmhahaaGreat

/- Nodes of a tree in memory, as the specification has them. -/
namespace Go.Proofs.YtcgmmpfckmhahaaGreat
open Go.RowKit

theorem info_node : (Tryz.prog.info? 117).map (fun i => (i.zero, i.size, i.bytes)) = some (some (.agg #[.int .i64 0, .slice none 0 0]), 2, 32) := by kernel_rfl

/-- symbols: where they lie, how many there is room for, which they are -/
abbrev Sy := Option Addr × Nat × List Nat
def syV (s : Sy) : Value := .slice s.1 s.2.2.length s.2.1
/-- nodes as they lie in memory -/
def ndCells : List Nat → List Sy → List Value
  | w :: ws, s :: ss => .int .i64 (w : Int) :: syV s :: ndCells ws ss
  | _, _ => []
theorem ndCells_snoc : ∀ (ws : List Nat) (ss : List Sy) (w : Nat) (s : Sy), ws.length = ss.length → ndCells ws ss ++ [.int .i64 (w : Int), syV s] = ndCells (ws ++ [w]) (ss ++ [s])
  | [], [], w, s, _ => rfl
  | [], _ :: _, _, _, h => by simp at h
  | _ :: _, [], _, _, h => by simp at h
  | x :: ws, y :: ss, w, s, h => by simp only [ndCells, List.cons_append, ndCells_snoc ws ss w s (by simpa using h)]
theorem ndCells_get : ∀ (ws : List Nat) (ss : List Sy) (h : ws.length = ss.length) (i : Nat) (hi : i < ws.length), (ndCells ws ss)[i * 2]? = some (.int .i64 (ws[i] : Int)) ∧ (ndCells ws ss)[i * 2 + 1]? = some (syV (ss[i]'(by omega)))
  | w :: ws, s :: ss, h, 0, hi => by simp [ndCells]
  | w :: ws, s :: ss, h, i + 1, hi => by
    have := ndCells_get ws ss (by simpa using h) i (by simpa using hi)
    rw [show (i + 1) * 2 = i * 2 + 1 + 1 by omega, show i * 2 + 1 + 1 + 1 = i * 2 + 1 + 1 + 1 from rfl]
    simp only [ndCells, List.getElem?_cons_succ, List.getElem_cons_succ]
    exact this

/-- symbols in a row behind the block Q -/
def SymRow (Q : Nat) (W : World) (s : Sy) : Prop := s.2.2.length ≤ s.2.1 ∧ (s.2.2 = [] ∨ ∃ b cs fr, s.1 = some ⟨b, 0, none⟩ ∧ Q < b ∧ W.heap[b]? = some (.cells cs 3 fr) ∧ ∀ i (h : i < s.2.2.length), cs[i]? = some (.int .i64 (s.2.2[i] : Int)))
/-- rows of ints behind Q stay -/
def IntK (Q : Nat) (W W' : World) : Prop := W.heap.size ≤ W'.heap.size ∧ ∀ b cs fr, Q < b → W.heap[b]? = some (.cells cs 3 fr) → W'.heap[b]? = some (.cells cs 3 fr)
theorem IntK.refl (Q : Nat) (W : World) : IntK Q W W := ⟨Nat.le_refl _, fun _ _ _ _ h => h⟩
theorem IntK.trans {Q : Nat} {A B C : World} (h : IntK Q A B) (k : IntK Q B C) : IntK Q A C := ⟨Nat.le_trans h.1 k.1, fun b cs fr hb hc => k.2 b cs fr hb (h.2 b cs fr hb hc)⟩
theorem IntK.alloc {Q : Nat} {A B : World} (h : IntK Q A B) (o : Obj) : IntK Q A (B.alloc o) := h.trans ⟨by simp, fun b _ _ _ hc => (Below.heap_alloc B o b (Array.getElem?_eq_some_iff.1 hc).1).trans hc⟩
theorem IntK.drew {Q : Nat} {A B : World} (h : IntK Q A B) : IntK Q A B.drew := h
theorem IntK.drewN {Q : Nat} {A B : World} (h : IntK Q A B) (m : Nat) : IntK Q A (B.drewN m) := h
theorem IntK.out {Q : Nat} {A B : World} (h : IntK Q A B) (i : Nat) (v : Value) : IntK Q A (B.setCell ⟨Q, i, none⟩ v) := h.trans ⟨by simp, fun b _ _ hb hc => by rw [Below.heap_setCell B ⟨Q, i, none⟩ v b (by show b ≠ Q; omega)]; exact hc⟩
/-- the row of another type grows -/
theorem IntK.grown {Q : Nat} {A B C : World} {v : Value} {lo n size : Nat} {e : TypeId} {xs : List Value} (h : IntK Q A B) (hr : B.ownsRow lo e size v n xs) (he : e ≠ 3) (hg : B.grownBy C v.ownBlock) : IntK Q A C :=
  h.trans ⟨hg.size, fun b _ _ _ hc => (hg.block b (Array.getElem?_eq_some_iff.1 hc).1 (fun eb => by
    rcases hr.2 with ⟨rfl, _⟩ | ⟨g, cap, cur, rfl, _, hgg, _⟩
    · cases eb
    · simp [Value.ownBlock] at eb
      subst eb
      rw [hgg] at hc
      cases hc
      exact he rfl)).trans hc⟩
theorem IntK.below {Q : Nat} {A B C : World} (h : IntK Q A B) (hb : Below B.heap.size B C) : IntK Q A C := h.trans ⟨hb.size, fun b _ _ _ hc => (hb.block b (Array.getElem?_eq_some_iff.1 hc).1).trans hc⟩
theorem SymRow.kept {Q : Nat} {W W' : World} {s : Sy} (h : SymRow Q W s) (k : IntK Q W W') : SymRow Q W' s := by
  refine ⟨h.1, ?_⟩
  rcases h.2 with e | ⟨b, cs, fr, h1, h2, h3, h4⟩
  · exact .inl e
  · exact .inr ⟨b, cs, fr, h1, h2, k.2 b cs fr h2 h3, h4⟩
theorem SymRow.ints {Q : Nat} {W : World} {s : Sy} (h : SymRow Q W s) : Ints W s.1 (s.2.2.map (fun x : Nat => (x : Int))) := by
  rcases h.2 with e | ⟨b, cs, fr, h1, h2, h3, h4⟩
  · left; rw [e]; rfl
  · refine .inr ⟨b, 0, h1, (Array.getElem?_eq_some_iff.1 h3).1, fun i hi => ?_⟩
    rw [List.length_map] at hi
    rw [Nat.zero_add, List.getElem_map]
    simp [World.cell?, h3, h4 i hi]
theorem SymRow.low {Q : Nat} {W W' : World} {s : Sy} (h : SymRow Q W s) (hk : ∀ k, k < W.heap.size → Q < k → W'.heap[k]? = W.heap[k]?) : SymRow Q W' s := by
  refine ⟨h.1, ?_⟩
  rcases h.2 with e | ⟨b, cs, fr, h1, h2, h3, h4⟩
  · exact .inl e
  · exact .inr ⟨b, cs, fr, h1, h2, (hk b (Array.getElem?_eq_some_iff.1 h3).1 h2).trans h3, h4⟩
/-- symbols that lie in a row of the call's own -/
theorem symRow_own {Q lo n c : Nat} {W : World} {a : Option Addr} {l : List Nat} (h : OwnI W lo (.slice a n c) n (l.map (fun x : Nat => (x : Int)))) (hQ : Q < lo) : SymRow Q W (a, c, l) := by
  have hl := h.len
  rw [List.length_map] at hl
  rcases h.2 with ⟨e, h0⟩ | ⟨g, cap, cur, e, h1, h2, h3, _, _, h6⟩
  · cases e
    have : l = [] := List.eq_nil_of_length_eq_zero (by omega)
    subst this
    exact ⟨Nat.le_refl _, .inl rfl⟩
  · cases e
    refine ⟨by show l.length ≤ c; omega, .inr ⟨g, cur, (0, 0), rfl, by omega, h2, fun i hi => ?_⟩⟩
    have hi' : i < l.length := hi
    have : (cur.toList.take (n * 1))[i]? = some (.int .i64 ((l[i] : Nat) : Int)) := by
      rw [h6, intsV_get _ i (by rw [List.length_map]; exact hi'), List.getElem_map]
    rw [List.getElem?_take_of_lt (by omega)] at this
    simpa using this

/-- a list of nodes of the call's own -/
def Nodes (Q lo : Nat) (W : World) (v : Value) (ws : List Nat) (ss : List Sy) : Prop :=
  Q < lo ∧ ws.length = ss.length ∧ W.ownsRow lo 117 2 v ws.length (ndCells ws ss) ∧ ∀ s ∈ ss, SymRow Q W s
theorem Nodes.at {Q lo : Nat} {W : World} {a : Option Addr} {n c : Nat} {ws : List Nat} {ss : List Sy} (h : Nodes Q lo W (.slice a n c) ws ss) {i : Nat} (hi : i < ws.length) :
    ∃ g, a = some ⟨g, 0, none⟩ ∧ W.cell? ⟨g, i * 2, none⟩ = some (.int .i64 (ws[i] : Int)) ∧ W.cell? ⟨g, i * 2 + 1, none⟩ = some (syV (ss[i]'(by rw [← h.2.1]; exact hi))) ∧ SymRow Q W (ss[i]'(by rw [← h.2.1]; exact hi)) := by
  obtain ⟨_, h1, h2, h3⟩ := h
  rcases h2.2 with ⟨e, h0⟩ | ⟨g, cap, cur, e, _, hg, _⟩
  · omega
  · cases e
    obtain ⟨c1, c2⟩ := ndCells_get ws ss h1 i hi
    refine ⟨g, rfl, ?_, ?_, h3 _ (List.getElem_mem _)⟩
    · have := World.ownsRow.cells h2 (g := g) rfl (i * 2) _ c1
      rw [show (⟨g, 0, none⟩ : Addr).add (i * 2) = ⟨g, i * 2, none⟩ by simp [Addr.add]; try omega] at this
      exact this
    · have := World.ownsRow.cells h2 (g := g) rfl (i * 2 + 1) _ c2
      rw [show (⟨g, 0, none⟩ : Addr).add (i * 2 + 1) = ⟨g, i * 2 + 1, none⟩ by simp [Addr.add]; try omega] at this
      exact this
theorem Nodes.same {Q lo : Nat} {W W' : World} {v : Value} {ws : List Nat} {ss : List Sy} (h : Nodes Q lo W v ws ss) (hk : ∀ k, k < W.heap.size → Q < k → W'.heap[k]? = W.heap[k]?) : Nodes Q lo W' v ws ss := by
  refine ⟨h.1, h.2.1, ⟨h.2.2.1.1, ?_⟩, fun s hs => ?_⟩
  · rcases h.2.2.1.2 with h2 | ⟨g, cap, cur, hv, hg, hh, r⟩
    · exact .inl h2
    · exact .inr ⟨g, cap, cur, hv, hg, (hk g (Array.getElem?_eq_some_iff.1 hh).1 (by have := h.1; omega)).trans hh, r⟩
  · exact (h.2.2.2 s hs).low hk
theorem Nodes.lower {Q lo lo' : Nat} {W : World} {v : Value} {ws : List Nat} {ss : List Sy} (h : Nodes Q lo W v ws ss) (hl : lo' ≤ lo) (hQ : Q < lo') : Nodes Q lo' W v ws ss := by
  refine ⟨hQ, h.2.1, ⟨h.2.2.1.1, ?_⟩, h.2.2.2⟩
  rcases h.2.2.1.2 with h2 | ⟨g, cap, cur, hv, hg, r⟩
  · exact .inl h2
  · exact .inr ⟨g, cap, cur, hv, by omega, r⟩
theorem nodes_none (Q : Nat) (W : World) (hQ : Q < W.heap.size) : Nodes Q W.heap.size (W.alloc (.cells #[] 117)) (.slice (some ⟨W.heap.size, 0, none⟩) 0 0) [] [] :=
  ⟨hQ, rfl, ⟨rfl, .inr ⟨W.heap.size, 0, #[], rfl, Nat.le_refl _, heap_alloc_new W _, Nat.le_refl _, Nat.zero_le _, rfl, rfl⟩⟩, fun _ h => by simp at h⟩

/-- a node is put behind others -/
theorem wpList_appN {ops : Array Oper} {rest : List Oper} {o : Oper} {ac : Act} {K : Exit → Act → World → Prop} (w0 : World) (hgd : o.guard = none) (x y : Operand)
    (ho : o.op = .call { callee := .builtin .append, args := #[x, y], argTypes := #[115, 115] })
    (Q lo : Nat) (v : Value) (ws : List Nat) (ss : List Sy) (wt n : Nat) (s : Sy) (hs : ac.eval x = v) (hown : Nodes Q lo w0 v ws ss) (hwn : ws.length = n) (hsy : SymRow Q w0 s) (H : Nat) (hH : w0.heap.size = H) (hx : ac.eval y = .slice (some ⟨H, 0, none⟩) 1 1) (hn : n ≤ 2000000) (hb : lo ≤ w0.heap.size)
    (h : ∀ g cap w', Nodes Q lo w' (.slice (some ⟨g, 0, none⟩) (n + 1) cap) (ws ++ [wt]) (ss ++ [s]) → IntK Q w0 w' → Below lo w0 w' → wpList Tryz.prog ops K rest (ac.put o.dst (.slice (some ⟨g, 0, none⟩) (n + 1) cap)) w') :
    wpList Tryz.prog ops K (o :: rest) ac (w0.alloc (.cells #[.int .i64 (wt : Int), syV s] 117)) := by
  subst hwn
  subst hH
  obtain ⟨i0, hi0, hz0, hz1, hz2⟩ := info_parts info_node
  have hA : (w0.alloc (.cells #[.int .i64 (wt : Int), syV s] 117)).ownsRow lo 117 2 v ws.length (ndCells ws ss) := World.ownsRow.alloc hown.2.2.1 _
  refine wpList_append_lies _ hgd x y _ ho lo 117 i0 (.agg #[.int .i64 0, .slice none 0 0]) 2 32 Tryz.underlying115 hi0 hz0 hz1 hz2 rfl (by decide) v ws.length (ndCells ws ss) hs hA ⟨w0.heap.size, 0, none⟩ 1 1 [.int .i64 (wt : Int), syV s] hx rfl (World.news_of_block (heap_alloc_new _ _)) (fun u hu => by simp at hu; rcases hu with rfl | rfl <;> rfl) (by decide) (by unfold maxLen; omega) (by omega) (Nat.le_trans hb (by simp)) _ rfl ?_
  intro g cap w' hown' hg hat hlt
  have hk : IntK Q w0 w' := ((IntK.refl Q w0).alloc _).grown hA (by decide) hg
  refine h g cap w' ⟨hown.1, by simp [hown.2.1], ?_, fun t ht => ?_⟩ hk ?_
  · rw [List.length_append, List.length_singleton, ← ndCells_snoc _ _ _ _ hown.2.1]; exact hown'
  · rcases List.mem_append.1 ht with ht | ht
    · exact (hown.2.2.2 t ht).kept hk
    · rw [List.mem_singleton] at ht; subst ht; exact hsy.kept hk
  · exact ((Below.refl _ _).alloc hb _).trans ((Below.refl _ _).grown hg (Nat.le_trans hb (by simp)) (fun j hj => (World.ownsRow.lt hown.2.2.1 j hj).1))
end Go.Proofs.YtcgmmpfckmhahaaGreat

/- The exact law of CodeCost, walked. -/
namespace Go.Proofs.YtcgmmpfckmhahaaGreat
open Go.RowKit

/-- whether a number of how often a symbol comes is within its bounds -/
def oneB (z : Int) : Bool := decide (0 ≤ z) && decide (z ≤ 9000)
def oftenB (os : List Int) : Bool := os.all oneB
theorem oftenB_get {os : List Int} (h : oftenB os = true) (k : Nat) (hk : k < os.length) : 0 ≤ os[k] ∧ os[k] ≤ 9000 := by
  have := List.all_eq_true.1 h os[k] (List.getElem_mem hk)
  simp only [oneB, Bool.and_eq_true, decide_eq_true_eq] at this
  exact this
theorem oftenB_no {os : List Int} (k : Nat) (hk : k < os.length) (h : ¬ (0 ≤ os[k] ∧ os[k] ≤ 9000)) : oftenB os = false := by
  cases e : oftenB os
  · rfl
  · exact absurd (oftenB_get e k hk) h
theorem oftenB_all {os : List Int} (h : ∀ k (hk : k < os.length), 0 ≤ os[k] ∧ os[k] ≤ 9000) : oftenB os = true := by
  unfold oftenB
  rw [List.all_eq_true]
  intro x hx
  obtain ⟨k, hk, rfl⟩ := List.getElem_of_mem hx
  have := h k hk
  simp only [oneB, Bool.and_eq_true, decide_eq_true_eq]; exact this

set_option maxHeartbeats 1000000 in
theorem oftenOk_any (a : Option Addr) (cap n : Nat) (os : List Int) (w : World) (h : Ints w a os) (hn : os.length = n) (hl : n ≤ 1048576) :
    Calls Tryz.prog 91 #[.slice a n cap] w fun e w' => e = .returned (.bool (oftenB os)) ∧ w' = w := by
  have HI : Hid (Ints w a os) := h
  have HO : Hid (os.length = n) := hn
  have hog : n ≤ os.length := by omega
  clear h hn
  go_enter Tryz.func91, Tryz.ntmps91
  go_wp2_with fail
  go_loop [7] (fun i => ∃ k : Nat, k ≤ n ∧ i = .int .i64 k ∧ (∀ j (hj : j < os.length), j < k → 0 ≤ os[j] ∧ os[j] ≤ 9000)) (fun i => n - (intOf i).toNat)
  case atStart => exact ⟨0, Nat.zero_le _, rfl, fun j _ h => by omega⟩
  case round =>
    obtain ⟨k, hk, rfl, hall⟩ := hrel
    by_cases hlt : k < n
    · have hko : k < os.length := by omega
      rcases HI.out with h | ⟨b1, off1, rfl, hb1, hc1⟩
      · rw [h] at hko; simp at hko
      · have e1 := hc1 k hko
        have hki : (k : Int) < (n : Int) := by omega
        have hno := oftenB_no k hko
        have hall' : Hid ((0 ≤ os[k] ∧ os[k] ≤ 9000) → ∀ j (hj : j < os.length), j < k + 1 → 0 ≤ os[j] ∧ os[j] ≤ 9000) := by
          intro hz j hj hjk
          by_cases e : j = k
          · subst e; exact hz
          · exact hall j hj (by omega)
        clear hc1 hall
        generalize os[k] = o at *
        by_cases hz : 0 ≤ o ∧ o ≤ 9000
        · have HAA : Hid (∀ j (hj : j < os.length), j < k + 1 → 0 ≤ os[j] ∧ os[j] ≤ 9000) := hall'.out hz
          have hd1 : decide (o < 0) = false := by simp; omega
          have hd2 : decide (9000 < o) = false := by simp; omega
          clear hno hall'
          go_wp2_with fail
          go_round
          case rel => exact ⟨k + 1, by omega, by go_num, HAA.out⟩
          case measure => simp [intOf]; omega
        · have HE : Hid (oftenB os = false) := hno hz
          clear hno hall'
          by_cases hneg : o < 0
          · clear hz
            go_wp2_with fail
            go_ret
            exact ⟨ret_bool HE.out.symm, rfl⟩
          · have hd1 : decide (o < 0) = false := by simpa using hneg
            have hbig : 9000 < o := by omega
            clear hz hneg
            go_wp2_with fail
            go_ret
            exact ⟨ret_bool HE.out.symm, rfl⟩
    · have ho : oftenB os = true := oftenB_all (fun j hj => hall j hj (by have := HO.out; omega))
      have HE : Hid (oftenB os = true) := ho
      clear ho hall
      go_wp2_with fail
      go_ret
      exact ⟨ret_bool HE.out.symm, rfl⟩

end Go.Proofs.YtcgmmpfckmhahaaGreat

/- The exact law of CodeFull, walked. -/
namespace Go.Proofs.YtcgmmpfckmhahaaGreat
open Go.RowKit

/-- whether a code leaves nothing over -/
def fullB (zs : List Int) : Bool := Cd.okB zs && decide (Cd.left zs = 0)

theorem left_of_ok {zs : List Int} (h : Cd.okB zs = true) : Cd.left zs = 32768 - (Cd.taken zs : Int) := by
  unfold Cd.okB at h
  simp only [Bool.and_eq_true, decide_eq_true_eq] at h
  unfold Cd.left; rw [if_pos h.2]

end Go.Proofs.YtcgmmpfckmhahaaGreat

/- Plain mathematics of bits that are packed into bytes: each stands where it was put. -/
namespace Go.Proofs.YtcgmmpfckmhahaaGreat
namespace Bp

/-- a byte of a text, with one bit more -/
theorem byte_bit : ∀ x, x < 256 → ∀ p, p < 8 → x / 2 ^ p % 2 = 0 → x ||| 2 ^ p = x + 2 ^ p ∧ x + 2 ^ p < 256 ∧ ∀ q, q < 8 → (x + 2 ^ p) / 2 ^ q % 2 = if q = p then 1 else x / 2 ^ q % 2 := by
  decide +kernel

theorem byte_step (x p b : Nat) (hx : x < 256) (hp : p < 8) (hb : b < 2) (h0 : x / 2 ^ p % 2 = 0) :
    x ||| b * 2 ^ p = x + b * 2 ^ p ∧ x + b * 2 ^ p < 256 ∧ ∀ q, q < 8 → (x + b * 2 ^ p) / 2 ^ q % 2 = if q = p then b else x / 2 ^ q % 2 := by
  rcases (by omega : b = 0 ∨ b = 1) with rfl | rfl
  · rw [Nat.zero_mul, Nat.add_zero, Nat.or_zero]
    refine ⟨rfl, hx, fun q hq => ?_⟩
    split
    · next e => rw [e]; exact h0
    · rfl
  · rw [Nat.one_mul]; exact byte_bit x hx p hp h0

/-- the bytes, with room for the next bit -/
def room (n : Nat) (out : List Nat) : List Nat := if n % 8 = 0 then out ++ [0] else out

/-- the bytes of the first n bits -/
def pack (hi : Bool) (f : Nat → Nat) : Nat → List Nat
  | 0 => []
  | n + 1 => (room n (pack hi f n)).set (n / 8) ((room n (pack hi f n)).getD (n / 8) 0 + f n * 2 ^ Bg.spot hi n)

theorem pack_len (hi : Bool) (f : Nat → Nat) : ∀ n, (pack hi f n).length = (n + 7) / 8 := by
  intro n
  induction n with
  | zero => rfl
  | succ n ih =>
    simp only [pack, List.length_set, room]
    split
    · rw [List.length_append, ih]; simp; omega
    · rw [ih]; omega

theorem room_len (hi : Bool) (f : Nat → Nat) (n : Nat) : (room n (pack hi f n)).length = n / 8 + 1 := by
  unfold room
  split
  · rw [List.length_append, pack_len]; simp; omega
  · rw [pack_len]; omega

theorem spot_inj (hi : Bool) (i n : Nat) (h : i / 8 = n / 8) (g : Bg.spot hi i = Bg.spot hi n) : i = n := by
  unfold Bg.spot at g
  split at g <;> omega

structure Inv (hi : Bool) (f : Nat → Nat) (n : Nat) (o : List Nat) : Prop where
  byte : ∀ j, o.getD j 0 < 256
  bit : ∀ i, i / 8 < o.length → o.getD (i / 8) 0 / 2 ^ Bg.spot hi i % 2 = if i < n then f i else 0

theorem getD_snoc (o : List Nat) (j : Nat) : (o ++ [0]).getD j 0 = o.getD j 0 := by
  rw [List.getD_eq_getElem?_getD, List.getD_eq_getElem?_getD]
  by_cases h : j < o.length
  · rw [List.getElem?_append_left h]
  · rw [List.getElem?_append_right (by omega), List.getElem?_eq_none (l := o) (by omega)]
    rcases (by omega : j - o.length = 0 ∨ 0 < j - o.length) with e | e
    · rw [e]; rfl
    · rw [List.getElem?_eq_none (by simp; omega)]

theorem inv_room (hi : Bool) (f : Nat → Nat) (n : Nat) (o : List Nat) (hl : o.length = (n + 7) / 8) (h : Inv hi f n o) : Inv hi f n (room n o) := by
  unfold room
  split
  · next e =>
    refine ⟨fun j => by rw [getD_snoc]; exact h.byte j, fun i hi' => ?_⟩
    rw [getD_snoc]
    by_cases g : i / 8 < o.length
    · exact h.bit i g
    · rw [List.getD_eq_getElem?_getD, List.getElem?_eq_none (by omega)]
      rw [List.length_append] at hi'
      simp at hi'
      rw [if_neg (by omega)]
      simp
  · exact h

theorem getD_set (o : List Nat) (j k x : Nat) (hj : j < o.length) : (o.set j x).getD k 0 = if j = k then x else o.getD k 0 := by
  rw [List.getD_eq_getElem?_getD, List.getElem?_set]
  split
  · first | rfl | (rw [if_pos (by omega)]; rfl)
  · rw [List.getD_eq_getElem?_getD]

theorem inv (hi : Bool) (f : Nat → Nat) (hf : ∀ i, f i < 2) : ∀ n, Inv hi f n (pack hi f n) := by
  intro n
  induction n with
  | zero => exact ⟨fun j => by simp [pack], fun i h => by simp [pack] at h⟩
  | succ n ih =>
    have hr := inv_room hi f n _ (pack_len hi f n) ih
    have hl := room_len hi f n
    simp only [pack]
    generalize room n (pack hi f n) = o at *
    have h0 := hr.bit n (by omega)
    rw [if_neg (by omega)] at h0
    have hs := Bg.spot_le hi n
    obtain ⟨_, s2, s3⟩ := byte_step (o.getD (n / 8) 0) (Bg.spot hi n) (f n) (hr.byte _) (by omega) (hf n) h0
    refine ⟨fun j => ?_, fun i hi' => ?_⟩
    · rw [getD_set _ _ _ _ (by omega)]
      split
      · exact s2
      · exact hr.byte j
    · rw [List.length_set] at hi'
      rw [getD_set _ _ _ _ (by omega)]
      have hq := Bg.spot_le hi i
      split
      · next e =>
        rw [s3 _ (by omega)]
        by_cases g : i = n
        · subst g; rw [if_pos rfl, if_pos (by omega)]
        · rw [if_neg (fun k => g (spot_inj hi i n e.symm k)), e, hr.bit i hi']
          by_cases l : i < n
          · rw [if_pos l, if_pos (by omega)]
          · rw [if_neg l, if_neg (by omega)]
      · next e =>
        rw [hr.bit i hi']
        by_cases l : i < n
        · rw [if_pos l, if_pos (by omega)]
        · have : ¬ i = n := fun k => e (by rw [k])
          rw [if_neg l, if_neg (by omega)]

/-- what a step finds: the byte with room, its bit not set -/
theorem step_facts (hi : Bool) (f : Nat → Nat) (hf : ∀ i, f i < 2) (n : Nat) :
    let x := (room n (pack hi f n)).getD (n / 8) 0
    x < 256 ∧ x + f n * 2 ^ Bg.spot hi n < 256 ∧ x ||| f n * 2 ^ Bg.spot hi n = x + f n * 2 ^ Bg.spot hi n := by
  have hr := inv_room hi f n _ (pack_len hi f n) (inv hi f hf n)
  have hl := room_len hi f n
  have h0 := hr.bit n (by omega)
  rw [if_neg (by omega)] at h0
  have hs := Bg.spot_le hi n
  obtain ⟨s1, s2, _⟩ := byte_step _ (Bg.spot hi n) (f n) (hr.byte (n / 8)) (by omega) (hf n) h0
  exact ⟨hr.byte _, s2, s1⟩

/-- the k-th bit of a number of s bits -/
def bitIn (hi : Bool) (v s k : Nat) : Nat := v / 2 ^ (if hi then s - 1 - k else k) % 2
theorem bitIn_lt (hi : Bool) (v s k : Nat) : bitIn hi v s k < 2 := Nat.mod_lt _ (by omega)

/-- a bit's number and size, ok -/
def Ok (p : Int × Int) : Prop := 0 ≤ p.2 ∧ p.2 ≤ 24 ∧ 0 ≤ p.1 ∧ p.1.toNat < 2 ^ p.2.toNat
def okB (p : Int × Int) : Bool := decide (0 ≤ p.2 ∧ p.2 ≤ 24 ∧ 0 ≤ p.1 ∧ p.1.toNat < 2 ^ p.2.toNat)
theorem okB_true {p : Int × Int} (h : Ok p) : okB p = true := by unfold okB; unfold Ok at h; exact decide_eq_true h
theorem okB_false {p : Int × Int} (h : ¬ Ok p) : okB p = false := by unfold okB; unfold Ok at h; exact decide_eq_false h
theorem okB_ok {p : Int × Int} (h : okB p = true) : Ok p := by unfold okB at h; unfold Ok; exact of_decide_eq_true h

/-- all bits, one behind the other -/
def bitsOf (hi : Bool) (l : List (Int × Int)) : List Nat := l.flatMap fun p => (List.range p.2.toNat).map fun k => bitIn hi p.1.toNat p.2.toNat k
def fOf (hi : Bool) (l : List (Int × Int)) (i : Nat) : Nat := (bitsOf hi l).getD i 0
/-- how many bits the first i have -/
def tot (l : List (Int × Int)) (i : Nat) : Nat := ((l.take i).map fun p => p.2.toNat).sum

theorem bitsOf_lt (hi : Bool) (l : List (Int × Int)) : ∀ x ∈ bitsOf hi l, x < 2 := by
  intro x hx
  unfold bitsOf at hx
  rw [List.mem_flatMap] at hx
  obtain ⟨p, _, hp⟩ := hx
  rw [List.mem_map] at hp
  obtain ⟨k, _, rfl⟩ := hp
  exact bitIn_lt _ _ _ _

theorem fOf_lt (hi : Bool) (l : List (Int × Int)) (i : Nat) : fOf hi l i < 2 := by
  unfold fOf
  rw [List.getD_eq_getElem?_getD]
  by_cases h : i < (bitsOf hi l).length
  · rw [List.getElem?_eq_getElem h]; exact bitsOf_lt hi l _ (List.getElem_mem h)
  · rw [List.getElem?_eq_none (by omega)]; simp

theorem tot_succ (l : List (Int × Int)) (i : Nat) (h : i < l.length) : tot l (i + 1) = tot l i + (l[i]).2.toNat := by
  unfold tot
  rw [List.take_succ_eq_append_getElem h, List.map_append, List.sum_append]
  simp

theorem fOf_at (hi : Bool) : ∀ (l : List (Int × Int)) (i k : Nat) (h : i < l.length), k < (l[i]).2.toNat → fOf hi l (tot l i + k) = bitIn hi (l[i]).1.toNat (l[i]).2.toNat k := by
  intro l
  induction l with
  | nil => intro i k h; simp at h
  | cons p l ih =>
    intro i k h hk
    have hb : bitsOf hi (p :: l) = ((List.range p.2.toNat).map fun k => bitIn hi p.1.toNat p.2.toNat k) ++ bitsOf hi l := by simp [bitsOf]
    cases i with
    | zero =>
      simp only [List.getElem_cons_zero] at hk ⊢
      unfold fOf
      rw [hb, List.getD_eq_getElem?_getD]
      have : tot (p :: l) 0 + k = k := by simp [tot]
      rw [this, List.getElem?_append_left (by simpa using hk)]
      simp [hk]
    | succ i =>
      simp only [List.getElem_cons_succ] at hk ⊢
      rw [← ih i k (by simpa using h) hk]
      unfold fOf
      rw [hb, List.getD_eq_getElem?_getD, List.getD_eq_getElem?_getD]
      have e : tot (p :: l) (i + 1) = p.2.toNat + tot l i := by simp [tot]
      rw [List.getElem?_append_right (by simp [e]; omega)]
      congr 2
      simp [e]
      omega

/-- all are ok, and not too many -/
def Fits (l : List (Int × Int)) (i : Nat) : Prop := ∀ j (h : j < l.length), j < i → Ok l[j] ∧ tot l (j + 1) ≤ 72000

theorem fits_zero (l : List (Int × Int)) : Fits l 0 := fun _ _ h => by omega
theorem fits_succ {l : List (Int × Int)} {i : Nat} (hl : i < l.length) (h : Fits l i) (ho : Ok l[i]) (ht : tot l (i + 1) ≤ 72000) : Fits l (i + 1) := by
  intro j hj hji
  by_cases e : j < i
  · exact h j hj e
  · have : j = i := by omega
    subst this; exact ⟨ho, ht⟩
theorem fits_not {l : List (Int × Int)} {i n : Nat} (hn : i < n) (hl : i < l.length) (h : ¬ (Ok l[i] ∧ tot l (i + 1) ≤ 72000)) : ¬ Fits l n := fun g => h (g i hl hn)
/-- the text that bits make -/
def text (hi : Bool) (l : List (Int × Int)) : List Nat := pack hi (fOf hi l) (tot l l.length)
end Bp
end Go.Proofs.YtcgmmpfckmhahaaGreat

/- What BitsPut answers, in plain mathematics. -/
namespace Go.Proofs.YtcgmmpfckmhahaaGreat

/-- what BitsPut answers -/
def Bp.answer (hi : Bool) (l : List (Int × Int)) : List Nat := if (∀ j (h : j < l.length), Bp.okB l[j] = true ∧ Bp.tot l (j + 1) ≤ 72000) then Bp.text hi l else []

theorem Bp.answer_yes {hi : Bool} {l : List (Int × Int)} (h : Bp.Fits l l.length) : Bp.answer hi l = Bp.text hi l := by
  unfold Bp.answer
  rw [if_pos (fun j hj => ⟨Bp.okB_true (h j hj hj).1, (h j hj hj).2⟩)]
theorem Bp.answer_no {hi : Bool} {l : List (Int × Int)} (h : ¬ Bp.Fits l l.length) : Bp.answer hi l = [] := by
  unfold Bp.answer
  rw [if_neg (fun g => h (fun j hj _ => ⟨Bp.okB_ok (g j hj).1, (g j hj).2⟩))]

end Go.Proofs.YtcgmmpfckmhahaaGreat

/- Plain mathematics of writing a number in bytes. -/
namespace Go.Proofs.YtcgmmpfckmhahaaGreat
namespace Pt

/-- the bytes of a number, the lowest first -/
def low : Nat → Nat → List UInt8
  | _, 0 => []
  | n, k + 1 => UInt8.ofNat (n % 256) :: low (n / 256) k

theorem low_len : ∀ (k n : Nat), (low n k).length = k := by
  intro k
  induction k with
  | zero => intro n; rfl
  | succ k ih => intro n; simp [low, ih]

/-- the i-th byte is what a shift tells -/
theorem low_get : ∀ (k n i : Nat), i < k → (low n k)[i]? = some (UInt8.ofNat (n / 256 ^ i % 256)) := by
  intro k
  induction k with
  | zero => intro n i h; omega
  | succ k ih =>
    intro n i h
    cases i with
    | zero => simp [low]
    | succ i =>
      simp only [low, List.getElem?_cons_succ]
      rw [ih (n / 256) i (by omega), Nat.div_div_eq_div_mul]
      congr 3
      rw [Nat.pow_succ, Nat.mul_comm]

/-- one byte more, behind -/
theorem low_snoc : ∀ (k n : Nat), low n (k + 1) = low n k ++ [UInt8.ofNat (n / 256 ^ k % 256)] := by
  intro k
  induction k with
  | zero => intro n; simp [low]
  | succ k ih =>
    intro n
    show UInt8.ofNat (n % 256) :: low (n / 256) (k + 1) = _
    rw [ih (n / 256), Nat.div_div_eq_div_mul]
    simp only [low, List.cons_append]
    rw [Nat.pow_succ, Nat.mul_comm 256]

theorem range_low (N S : Nat) : ((List.range S).map fun j => N / 256 ^ j % 256).map UInt8.ofNat = low N S := by
  apply List.ext_getElem?
  intro i
  by_cases h : i < S
  · rw [low_get S N i h]; simp [h]
  · rw [List.getElem?_eq_none (by simp; omega), List.getElem?_eq_none (by rw [low_len]; omega)]

theorem range_high (N S : Nat) : ((List.range S).map fun j => N / 256 ^ (S - 1 - j) % 256).map UInt8.ofNat = (low N S).reverse := by
  apply List.ext_getElem?
  intro i
  by_cases h : i < S
  · rw [List.getElem?_reverse (by rw [low_len]; exact h), low_len, low_get S N (S - 1 - i) (by omega)]; simp [h]
  · rw [List.getElem?_eq_none (by simp; omega), List.getElem?_eq_none (by simp [low_len]; omega)]

/-- what 'NumPut' writes -/
def num (n size : Nat) (hi : Bool) : List UInt8 := if hi then (low n size).reverse else low n size

theorem num_len (n size : Nat) (hi : Bool) : (num n size hi).length = size := by
  unfold num; split <;> simp [low_len]

end Pt
end Go.Proofs.YtcgmmpfckmhahaaGreat

/- Lengths as symbols, as the specification has them; how many numbers of a list are needed. -/
namespace Go.Proofs.YtcgmmpfckmhahaaGreat
open Go.RowKit

set_option maxHeartbeats 400000 in
theorem l5Least_any (a b : Nat) (w : World) :
    Calls Tryz.prog 67 #[.int .i64 (a : Int), .int .i64 (b : Int)] w fun e w' => e = .returned (.int .i64 ((min a b : Nat) : Int)) ∧ w' = w := by
  by_cases h : a < b
  · have hi : (a : Int) < (b : Int) := by omega
    have HE : Hid (min a b = a) := by show _ = _; omega
    go_enter Tryz.func67, Tryz.ntmps67
    go_wp2_with fail
    go_ret
    exact ⟨by rw [HE.out]; rfl, rfl⟩
  · have hi : ¬ (a : Int) < (b : Int) := by omega
    have HE : Hid (min a b = b) := by show _ = _; omega
    go_enter Tryz.func67, Tryz.ntmps67
    go_wp2_with fail
    go_ret
    exact ⟨by rw [HE.out]; rfl, rfl⟩

set_option maxHeartbeats 2000000 in
set_option maxRecDepth 20000 in
theorem l5Alike_any (a : Option Addr) (L cap p : Nat) (l : List Int) (w : World) (h : Ints w a l) (hL : l.length = L) (hLb : L ≤ 1000) (hp : p < L) :
    Calls Tryz.prog 66 #[.slice a L cap, .int .i64 (p : Int)] w fun e w' => e = .returned (.int .i64 ((Df.alike l p : Nat) : Int)) ∧ ∃ q, w' = w.drewN q := by
  obtain ⟨b, off, rfl, hb, hcp⟩ := h.at (show p < l.length by omega)
  have HC : Hid (∀ i (hi : i < l.length), w.cell? ⟨b, off + i, none⟩ = some (.int .i64 l[i])) := by
    rcases h with e | ⟨b', off', e', _, h3⟩
    · rw [e] at hL; simp at hL; omega
    · cases e'; exact h3
  have HL : Hid (l.length = L) := hL
  have hpi : (p : Int) < (L : Int) := by omega
  have hv : l[p] = l.getD p 0 := by rw [List.getD_eq_getElem?_getD, List.getElem?_eq_getElem (by omega)]; rfl
  rw [hv] at hcp
  obtain ⟨v, hve⟩ : ∃ v, v = l.getD p 0 := ⟨_, rfl⟩
  rw [← hve] at hcp
  have HV : Hid (v = l.getD p 0) := hve
  clear h hL hv hve
  go_enter Tryz.func66, Tryz.ntmps66
  go_wp2_with fail
  go_loopw [5] (fun i wr => ∃ n q : Nat, 1 ≤ n ∧ p + n ≤ L ∧ i = .int .i64 (n : Int) ∧ Hid (Df.alike l p = n + ((l.drop (p + n)).takeWhile (fun z => z == l.getD p 0)).length) ∧ Hid (wr = w.drewN q)) (fun i _ => L - (intOf i).toNat)
  case atStart => exact ⟨1, 0, by omega, by omega, rfl, rfl, rfl⟩
  case round =>
    obtain ⟨n, q, hn1, hpn, rfl, HM, HW⟩ := hrel
    obtain ⟨P, hP⟩ : ∃ P, P = p + n := ⟨_, rfl⟩
    have eP : (p : Int) + (n : Int) = (P : Int) := by omega
    have fP := wrap_i64_nat P (by omega)
    have cp : wr.cell? ⟨b, off + p, none⟩ = some (.int .i64 v) := by rw [HW.out]; exact hcp
    by_cases h2 : P < L
    · have d2 : decide ((P : Int) < (L : Int)) = true := decide_eq_true (by omega)
      have hPi : (P : Int) < (L : Int) := by omega
      have hPl : P < l.length := by rw [HL.out]; exact h2
      have cP : wr.cell? ⟨b, off + P, none⟩ = some (.int .i64 l[P]) := by rw [HW.out]; exact HC.out P hPl
      have hPn : p + (n + 1) ≤ L := by omega
      by_cases h3 : l[P] = v
      · have HM2 : Hid (Df.alike l p = (n + 1) + ((l.drop (p + (n + 1))).takeWhile (fun z => z == l.getD p 0)).length) := by
          show _ = _
          subst hP
          rw [HM.out, Df.alike_step hPl (by rw [h3, HV.out])]
          omega
        rw [h3] at cP
        have d3 : (v == v) = true := beq_self_eq_true v
        clear h3 hP HM
        go_wp2_with fail
        go_quiet (fail)
        go_wp2_with fail
        go_roundw
        case rel => exact ⟨n + 1, q + nq, by omega, by omega, by go_num, HM2, by show _ = _; rw [HW.out, World.drewN_drewN]⟩
        case measure => simp [intOf]; omega
      · have HM2 : Hid (Df.alike l p = n) := by
          show _ = _
          subst hP
          rw [HM.out, Df.alike_stop (fun _ => by rw [← HV.out]; exact h3)]
          rfl
        obtain ⟨u, hu⟩ : ∃ u, u = l[P] := ⟨_, rfl⟩
        rw [← hu] at cP h3
        have d3 : (u == v) = false := beq_eq_false_iff_ne.2 h3
        clear h3 hP HM hu
        go_wp2_with fail
        go_quiet (fail)
        go_wp2_with fail
        go_ret
        exact ⟨by rw [HM2.out]; rfl, q + nq, by rw [HW.out, World.drewN_drewN]⟩
    · have d2 : decide ((P : Int) < (L : Int)) = false := decide_eq_false (by omega)
      have HM2 : Hid (Df.alike l p = n) := by
        show _ = _
        subst hP
        rw [HM.out, Df.alike_stop (fun h => by rw [HL.out] at h; omega)]
        rfl
      clear hP HM
      go_wp2_with fail
      go_quiet (fail)
      go_wp2_with fail
      go_ret
      exact ⟨by rw [HM2.out]; rfl, q + nq, by rw [HW.out, World.drewN_drewN]⟩

set_option maxHeartbeats 2000000 in
set_option maxRecDepth 20000 in
theorem l5Used_any (b off L cap least : Nat) (l : List Int) (w : World) (h : ∀ i (hi : i < l.length), w.cell? ⟨b, off + i, none⟩ = some (.int .i64 l[i])) (hL : l.length = L) (hLb : L ≤ 1000) (hle : least ≤ 1000) (hl0 : 1 ≤ least) :
    Calls Tryz.prog 39 #[.slice (some ⟨b, off, none⟩) L cap, .int .i64 (least : Int)] w fun e w' => e = .returned (.int .i64 ((Df.used l least : Nat) : Int)) ∧ ∃ q, w' = w.drewN q := by
  have HC : Hid (∀ i (hi : i < l.length), w.cell? ⟨b, off + i, none⟩ = some (.int .i64 l[i])) := h
  have HL : Hid (l.length = L) := hL
  clear h hL
  go_enter Tryz.func39, Tryz.ntmps39
  go_wp2_with fail
  go_loopw [5] (fun i wr => ∃ n q : Nat, n ≤ L ∧ i = .int .i64 (n : Int) ∧ Hid (Df.used l least = Df.usedF l least n) ∧ Hid (wr = w.drewN q)) (fun i _ => (intOf i).toNat)
  case atStart => exact ⟨L, 0, Nat.le_refl _, rfl, by show _ = _; unfold Df.used; rw [HL.out], rfl⟩
  case round =>
    obtain ⟨n, q, hn, rfl, HM, HW⟩ := hrel
    by_cases h2 : least < n
    · obtain ⟨n', rfl⟩ : ∃ n', n = n' + 1 := ⟨n - 1, by omega⟩
      obtain ⟨n1, hn1⟩ : ∃ n1, n1 = n' + 1 := ⟨_, rfl⟩
      rw [← hn1] at h2 hn HM
      have d2 : decide ((n1 : Int) > (least : Int)) = true := decide_eq_true (by omega)
      have h2i : (least : Int) < (n1 : Int) := by omega
      have em : (n1 : Int) - 1 = (n' : Int) := by omega
      have em2 : ((n' + 1 : Nat) : Int) = (n1 : Int) := by omega
      rw [em2]
      have hnl : n' < l.length := by rw [HL.out]; omega
      have hni : (n' : Int) < (L : Int) := by omega
      have cP : wr.cell? ⟨b, off + n', none⟩ = some (.int .i64 l[n']) := by rw [HW.out]; exact HC.out n' hnl
      have hg : l.getD n' 0 = l[n'] := by rw [List.getD_eq_getElem?_getD, List.getElem?_eq_getElem hnl]; rfl
      by_cases h3 : l[n'] = 0
      · have HM2 : Hid (Df.used l least = Df.usedF l least n') := by
          show _ = _
          rw [HM.out, hn1]
          show (if least < n' + 1 ∧ l.getD n' 0 = 0 then _ else _) = _
          rw [if_pos ⟨by omega, by rw [hg]; exact h3⟩]
        rw [h3] at cP
        clear h3 HM hg hn1
        go_wp2_with fail
        first | (go_quiet (fail); go_wp2_with fail) | skip
        go_roundw
        case rel => exact ⟨n', _, by omega, by go_num, HM2, by show _ = _; rw [HW.out]⟩
        case measure => simp [intOf]; omega
      · have HM2 : Hid (Df.used l least = n1) := by
          show _ = _
          rw [HM.out, hn1]
          show (if least < n' + 1 ∧ l.getD n' 0 = 0 then _ else _) = _
          rw [if_neg (fun h => h3 (by rw [← hg]; exact h.2))]
        obtain ⟨u, hu⟩ : ∃ u, u = l[n'] := ⟨_, rfl⟩
        rw [← hu] at cP h3
        have d3 : (u == 0) = false := beq_eq_false_iff_ne.2 h3
        clear HM hg hn1 hu
        go_wp2_with fail
        go_ret
        exact ⟨by rw [HM2.out]; rfl, q, by rw [HW.out]⟩
    · have d2 : decide ((n : Int) > (least : Int)) = false := decide_eq_false (by omega)
      have h2i : ¬ (least : Int) < (n : Int) := by omega
      have HM2 : Hid (Df.used l least = n) := by
        show _ = _
        rw [HM.out]
        cases n with
        | zero => rfl
        | succ n' =>
          show (if least < n' + 1 ∧ l.getD n' 0 = 0 then _ else _) = _
          rw [if_neg (fun h => h2 h.1)]
      clear HM
      go_wp2_with fail
      go_ret
      exact ⟨by rw [HM2.out]; rfl, q, by rw [HW.out]⟩
end Go.Proofs.YtcgmmpfckmhahaaGreat

/- slices.Backward of numbers. -/
namespace Go.Proofs.YtcgmmpfckmhahaaGreat
open Go.RowKit Go.Shelf

attribute [local go_sem] Oper.semAt_some

/-- what lies below n₀ is as it was, but for some blocks -/
def BsY (P : Nat → Prop) (n₀ : Nat) (W W' : World) : Prop := W.heap.size ≤ W'.heap.size ∧ ∀ k, k < n₀ → ¬ P k → W'.heap[k]? = W.heap[k]?
theorem BsY.trans {P : Nat → Prop} {n₀ : Nat} {A B C : World} (h : BsY P n₀ A B) (k : BsY P n₀ B C) : BsY P n₀ A C := ⟨Nat.le_trans h.1 k.1, fun i hi ho => (k.2 i hi ho).trans (h.2 i hi ho)⟩
theorem BsY.of {P : Nat → Prop} {n₀ : Nat} {A B : World} (h : Below n₀ A B) : BsY P n₀ A B := ⟨h.size, fun i hi _ => h.block i hi⟩
theorem BsY.book {P : Nat → Prop} {n₀ : Nat} {w : World} (hn : n₀ ≤ w.heap.size) (W : World) (l : Nat) (x x' : Obj) (hl : w.heap.size ≤ l) (h : W.heap[l]? = some x) (h1 : x.isCells = false) (h2 : x.isWalk = false) : BsY P n₀ W (W.putObj l x') := .of (belowK_b hn W l x x' hl h h1 h2)

/-- the numbers from the last one on -/
def bkTo (ps : List Nat) : Nat → List (Nat × Nat)
  | 0 => []
  | k + 1 => (k, ps.getD k 0) :: bkTo ps k
theorem bkTo_snd : ∀ (ps : List Nat) (k : Nat), k ≤ ps.length → (bkTo ps k).map Prod.snd = (ps.take k).reverse
  | ps, 0, _ => by simp [bkTo]
  | ps, k + 1, h => by
    rw [bkTo, List.map_cons, bkTo_snd ps k (by omega), List.take_succ_eq_append_getElem (by omega), List.reverse_append, List.getD_eq_getElem?_getD, List.getElem?_eq_getElem (by omega)]
    rfl
theorem bkTo_len (ps : List Nat) : ∀ k, (bkTo ps k).length = k
  | 0 => rfl
  | k + 1 => by rw [bkTo, List.length_cons, bkTo_len ps k]

/-- what the iterator reads -/
structure HeldY (W : World) (a : Option Addr) (Bs g cap N : Nat) (ps : List Nat) : Prop where
  box : W.cell? ⟨Bs, 0, none⟩ = some (.slice a N cap)
  lies : ∀ i, i < N → W.cell? ⟨g, i, none⟩ = some (.int .i64 (ps.getD i 0 : Int))
theorem HeldY.kept {W W' : World} {a : Option Addr} {Bs g cap N n₀ : Nat} {ps : List Nat} {P : Nat → Prop} (h : HeldY W a Bs g cap N ps) (hb : BsY P n₀ W W') (h1 : Bs < n₀) (h2 : N = 0 ∨ g < n₀) (o1 : ¬ P Bs) (o2 : N = 0 ∨ ¬ P g) : HeldY W' a Bs g cap N ps :=
  ⟨(World.cell?_of_block (w := W) (a := ⟨Bs, 0, none⟩) (hb.2 _ h1 o1)).trans h.box,
   fun i hi => (World.cell?_of_block (w := W) (a := ⟨g, i, none⟩) (hb.2 _ (show g < n₀ by omega) (by rcases o2 with o2 | o2; (exfalso; omega); exact o2))).trans (h.lies i hi)⟩

set_option maxRecDepth 100000 in
set_option maxHeartbeats 4000000 in
theorem backward1_in (n : Nat) (hn : 1 ≤ n) (a : Option Addr) (l Bs g cap N n₀ : Nat) (P : Nat → Prop) (ps : List Nat) (A : Nat) (hps : ∀ i, i < N → ps.getD i 0 < A) (h1 : Bs < n₀) (h2 : N = 0 ∨ g < n₀) (o1 : ¬ P Bs) (o2 : N = 0 ∨ ¬ P g)
    (hNb : N ≤ 100000) (ha : N = 0 ∨ a = some ⟨g, 0, none⟩) (J Jx : List (Nat × Nat) → World → Prop)
    (W : World)
    (hY : ∀ pre x W, x.2 < A → J pre W → pre.length < N → YieldAt Fence.wide (n - 1) Tryz.prog l #[.int .i64 (x.1 : Int), .int .i64 (x.2 : Int)] W fun e W' =>
      (e = .returned (.bool true) ∧ J (pre ++ [x]) W' ∧ BsY P n₀ W W') ∨ (e = .returned (.bool false) ∧ Jx (pre ++ [x]) W'))
    (hH : HeldY W a Bs g cap N ps) (h0 : J [] W) :
    CallsIn Fence.wide n Tryz.prog 90 #[.func (.yield l) #[] #[], .pointer (some ⟨Bs, 0, none⟩)] W fun e W' => (∃ v, e = .returned v) ∧
      ((∃ ys, ys = bkTo ps N ∧ J ys W') ∨ (∃ pre, pre <+: bkTo ps N ∧ Jx pre W')) := by
  have hro : Fence.wide.round = none := rfl
  have HY : Hid (∀ (pre : List (Nat × Nat)) (x : Nat × Nat) (W : World), x.2 < A → J pre W → pre.length < N → YieldAt Fence.wide (n - 1) Tryz.prog l #[.int .i64 (x.1 : Int), .int .i64 (x.2 : Int)] W fun e W' =>
      (e = .returned (.bool true) ∧ J (pre ++ [x]) W' ∧ BsY P n₀ W W') ∨ (e = .returned (.bool false) ∧ Jx (pre ++ [x]) W')) := hY
  have HPS : Hid (∀ i, i < N → ps.getD i 0 < A) := hps
  clear hY hps
  refine callsIn_of_wp Tryz.func90 rfl trivial ?_ hro
  simp only [Tryz.ntmps90, List.size_toArray, List.length_cons, List.length_nil, Nat.reduceAdd, Nat.reduceSub, Array.replicate_succ, Array.replicate_zero, List.push_toArray, List.append_toArray, List.nil_append, List.cons_append]
  have hbx := hH.box
  gi_wp2
  gi_loopw [3] (fun i wr => ∃ (k : Nat) (pre : List (Nat × Nat)), k ≤ N ∧ i = .int .i64 ((k : Int) - 1) ∧ Hid (bkTo ps N = pre ++ bkTo ps k) ∧ J pre wr ∧ HeldY wr a Bs g cap N ps)
    (fun i _ => (intOf i + 1).toNat)
  case atStart => exact ⟨N, [], Nat.le_refl _, by go_num, rfl, h0, hH⟩
  case round =>
    obtain ⟨k, pre, hk, rfl, HX, hJk, hHk⟩ := hrel
    obtain ⟨c1, hL⟩ := id hHk
    by_cases hlt : 0 < k
    · obtain ⟨j, rfl⟩ : ∃ j, k = j + 1 := ⟨k - 1, by omega⟩
      have ej : ((j + 1 : Nat) : Int) - 1 = (j : Int) := by omega
      rw [ej]
      obtain rfl : a = some ⟨g, 0, none⟩ := by
        rcases ha with h | h
        · omega
        · exact h
      have hjN : j < N := by omega
      have hjNi : (j : Int) < (N : Int) := by omega
      have cj := hL j hjN
      have hpj := HPS.out j hjN
      have hlen : pre.length < N := by
        have e := congrArg List.length HX.out
        rw [List.length_append, bkTo_len, bkTo_len] at e
        omega
      have HX2 : Hid (bkTo ps N = (pre ++ [(j, ps.getD j 0)]) ++ bkTo ps j) := by
        show _ = _
        rw [HX.out, bkTo]; simp
      generalize ps.getD j 0 = p at *
      clear HX hL HPS
      obtain ⟨fn, tmps, assign, body, hy, hR⟩ := HY.out pre (j, p) _ hpj hJk hlen
      dsimp only at hy
      gi_wp2
      refine hR.mono ?_
      rintro e W3 (⟨rfl, hJ3, hk3⟩ | ⟨rfl, hJx3⟩)
      · have hH3 := hHk.kept hk3 h1 h2 o1 o2
        gi_wp2
        go_roundw
        case rel => exact ⟨j, _, by omega, by go_num, HX2, hJ3, hH3⟩
        case measure => simp [intOf]
      · gi_wp2
        refine bodyPost_ret (results_none rfl _ _ _) rfl ?_
        exact ⟨⟨_, rfl⟩, .inr ⟨_, ⟨_, HX2.out.symm⟩, hJx3⟩⟩
    · obtain rfl : k = 0 := by omega
      gi_wp2
      go_end0
      exact ⟨⟨_, rfl⟩, .inl ⟨_, by rw [HX.out]; simp [bkTo], hJk⟩⟩

abbrev BkS (A : Nat) := {x : Nat × Nat // x.2 < A}
theorem backward_stops (n : Nat) (hn : 1 ≤ n) (a : Option Addr) (Bs g cap N n₀ : Nat) (P : Nat → Prop) (ps : List Nat) (A : Nat) (w : World) (hps : ∀ i, i < N → ps.getD i 0 < A) (h1 : Bs < n₀) (h2 : N = 0 ∨ g < n₀) (o1 : ¬ P Bs) (o2 : N = 0 ∨ ¬ P g) (hn₀ : n₀ ≤ w.heap.size)
    (hNb : N ≤ 100000) (ha : N = 0 ∨ a = some ⟨g, 0, none⟩) (hH : HeldY w a Bs g cap N ps) :
    SeqStopsK Fence.wide n Tryz.prog 90 #[.pointer (some ⟨Bs, 0, none⟩)] (fun x : BkS A => #[Value.int .i64 (x.1.1 : Int), Value.int .i64 (x.1.2 : Int)]) (BsY P n₀)
      (fun ys => ys.map Subtype.val = bkTo ps N) (fun pre => pre.map Subtype.val <+: bkTo ps N) N w := by
  intro l J Jx W hW hJ _ hY h0
  refine (backward1_in n hn a l Bs g cap N n₀ P ps A hps h1 h2 o1 o2 hNb ha
    (fun pre W => ∃ p : List (BkS A), p.map Subtype.val = pre ∧ J p W) (fun pre W => ∃ p : List (BkS A), p.map Subtype.val = pre ∧ Jx p W) W ?_ ?_ ⟨[], rfl, h0⟩).mono ?_
  · rintro pre x W1 hx ⟨p, rfl, hj⟩ hlen
    obtain ⟨fn, tmps, assign, body, hy, hR⟩ := hY p ⟨x, hx⟩ W1 hj (by simpa using hlen)
    refine ⟨fn, tmps, assign, body, hy, hR.mono ?_⟩
    rintro e W' (⟨rfl, h2, h3⟩ | ⟨rfl, h2⟩)
    · exact .inl ⟨rfl, ⟨p ++ [⟨x, hx⟩], by simp, h2⟩, h3⟩
    · exact .inr ⟨rfl, ⟨p ++ [⟨x, hx⟩], by simp, h2⟩⟩
  · exact hH.kept (BsY.of (P := P) (hW.mono hn₀)) h1 h2 o1 o2
  · rintro e W' ⟨hv, h⟩
    refine ⟨hv, ?_⟩
    rcases h with ⟨ys, hy, p, hp, hj⟩ | ⟨pre, hpre, p, hp, hj⟩
    · exact .inl ⟨p, hp.trans hy, hj⟩
    · exact .inr ⟨p, by show p.map Subtype.val <+: _; rw [hp]; exact hpre, hj⟩
end Go.Proofs.YtcgmmpfckmhahaaGreat

/- A map of slices: the entry that is looked up and then stored into. -/
namespace Go.Proofs.YtcgmmpfckmhahaaGreat
open Go.ChangeMaps Go.MapKept Go.ChangeShapes Go.RowKit
open Go.WideElems (Fit rd rg pl rd_val rd_key rg_of elemAt entry_then_store)
open Go.Maps (Keyed fit_rising)
open Go.WideShapes (atKey_sorted)
open Go.WideMaps (KeyLaw)

section
variable {H : Type} {P : Program} {k : TypeId} {w w' : World} {base : Nat} {e : TypeId} {q : IntKind} {b n : Nat} {D : DataW H}

theorem ownsInts_same {v : Value} {zs : List Int} (h : w.ownsInts base e q v zs) (hk : ∀ (j : Nat) (cs : Array Value) (fr : Nat × Nat), w.heap[j]? = some (Obj.cells cs e fr) → w'.heap[j]? = some (Obj.cells cs e fr)) : w'.ownsInts base e q v zs := by
  refine ⟨⟨h.1.1, ?_⟩, h.2⟩
  rcases h.1.2 with h2 | ⟨g, cap, cur, hv, hg, hh, r⟩
  · exact .inl h2
  · exact .inr ⟨g, cap, cur, hv, hg, hk g _ _ hh, r⟩
/-- where the map's block and all rows of that type are as they were -/
theorem ownsGroups_same (h : w.ownsGroups P k base e q b n D) (hb' : w'.heap[b]? = w.heap[b]?) (hk : ∀ (j : Nat) (cs : Array Value) (fr : Nat × Nat), w.heap[j]? = some (Obj.cells cs e fr) → w'.heap[j]? = some (Obj.cells cs e fr)) : w'.ownsGroups P k base e q b n D := by
  obtain ⟨es, clock, hb, F, hs, rfl, hbb, hlen, hap⟩ := h
  have hst : ∀ x ∈ es.toList, ∀ z, rowElem (H := H) w base e q x.val = some z → rowElem w' base e q x.val = some z := fun x hx z hz => by
    obtain ⟨zs, ho, rfl⟩ := rowElem_inv hz
    exact rowElem_mk (ownsInts_same ho hk)
  obtain ⟨F1, hmap, _⟩ := F.stay hst
  refine ⟨es, clock, hb'.trans hb, F1, hs, by rw [hmap], hbb, fun x hx zs ho => ?_, hap⟩
  obtain ⟨y, hy⟩ := F.reads x hx
  obtain ⟨z, hz, _⟩ := rd_val hy
  obtain ⟨zs0, ho0, _⟩ := rowElem_inv hz
  rw [ho.unique (ownsInts_same ho0 hk)]
  exact hlen x hx zs0 ho0

set_option maxHeartbeats 1000000 in
/-- the entry at a key, and the way back -/
theorem groups_entry {t E : TypeId} {key : Value} {kl : Lit} (h : w.ownsGroups P k base e q b n D) (KL : KeyLaw P k) (ht : P.underlying t = some (.map k E)) (hz : ∀ u : World, (zeroValue E).run P u = .ok (.slice none 0 0) u) (hn : n < maxLen) (hkey : keyOf P k key = some kl) :
    ∃ v0 st zs wA, (Instr.mapEntry t (.map (some b)) key).run P w = .ok (.tuple #[v0, goInt (st : Nat)]) wA ∧ D.atKey kl .nil = rowDatum q v0 zs ∧ wA.ownsInts base e q v0 zs ∧ zs.length ≤ n ∧ w.grownBy wA (some b) ∧ v0.ownBlock ≠ some b ∧ (∃ (es1 : Array MapEntry) (clock1 : Nat), wA.heap[b]? = some (.map es1 clock1)) ∧
      ∀ (wB : World) (v' : Value) (zs' : List Int), wA.grownBy wB v0.ownBlock → wB.ownsInts base e q v' zs' → zs'.length ≤ n + 1 → (v'.ownBlock = v0.ownBlock ∨ ∃ g, v'.ownBlock = some g ∧ w.heap.size ≤ g) →
        ∃ wC, (Instr.entryStore t (.map (some b)) (goInt st) v').run P wB = .ok () wC ∧ wC.ownsGroups P k base e q b (n + 1) (D.put kl (rowDatum q v' zs')) ∧ wB.grownBy wC (some b) := by
  have K : Keyed P k := Keyed.of_law KL
  obtain ⟨es, clock, hb, F, hs, rfl, hbb, hlen, hap⟩ := h
  have hblt : b < w.heap.size := (Array.getElem?_eq_some_iff.1 hb).1
  have owned : ∀ x ∈ es.toList, ∃ zs, w.ownsInts base e q x.val zs := fun x hx => by
    obtain ⟨y, hy⟩ := F.reads x hx
    obtain ⟨z, hz, _⟩ := rd_val hy
    obtain ⟨zs, ho, _⟩ := rowElem_inv hz
    exact ⟨zs, ho⟩
  obtain ⟨v0, st, es1, clock1, hrun, hcase, hstore⟩ := entry_then_store KL ht hz hb F hkey
  have hA : w.grownBy (setBlock w b (.map es1 clock1)) (some b) := ⟨rfl, rfl, rfl, by simp [setBlock], fun i _ hi => heap_setBlock_other hb _ (fun e1 => hi (by rw [e1]))⟩
  have hb1 : (setBlock w b (.map es1 clock1)).heap[b]? = some (.map es1 clock1) := heap_setBlock_same hb _
  have hlook := Maps.fit_look false K ht (hz w) hb F hkey
  -- what the entry holds
  have hv : ∃ zs, DataW.atKey (.map ((es.toList.map (rg P k (rowElem (H := H) w base e q))).foldr DataW.insert [])) kl .nil = rowDatum q v0 zs ∧ w.ownsInts base e q v0 zs ∧ zs.length ≤ n ∧ (∀ x ∈ es.toList, x.key ≠ key → x.val.ownBlock = none ∨ x.val.ownBlock ≠ v0.ownBlock) ∧ v0.ownBlock ≠ some b := by
    rcases hcase with ⟨e1, he1, hk1, rfl⟩ | ⟨hno, rfl⟩
    · obtain ⟨y0, hy0⟩ := F.reads e1 he1
      obtain ⟨zv, hzv, hd⟩ := rd_val hy0
      have m0 := rd_key hy0
      rw [hk1, hkey] at m0
      have hat := (atKey_sorted (es.toList.map (rg P k (rowElem (H := H) w base e q))) (fit_rising K F) kl (K.key hkey)).2 (rg P k (rowElem (H := H) w base e q) e1) (List.mem_map.2 ⟨e1, he1, rfl⟩) (by rw [rg_of hy0]; exact (Option.some.inj m0).symm)
      obtain ⟨zs, ho, rfl⟩ := rowElem_inv hzv
      refine ⟨zs, by rw [hat, rg_of hy0, hd], ho, hlen e1 he1 zs ho, fun x hx hne => hap x hx e1 he1 (by rw [hk1]; exact hne), fun e2 => ?_⟩
      have := (ho.1.lt b e2).1
      omega
    · rcases hlook with ⟨_, _, hat⟩ | ⟨e0, y, hm0, h3, _⟩
      · refine ⟨[], hat _, World.ownsInts_nil _ _ _ _, Nat.zero_le _, fun x _ _ => ?_, by simp [Value.ownBlock]⟩
        cases x.val.ownBlock <;> simp [Value.ownBlock]
      · exact absurd h3 (hno e0 hm0)
  obtain ⟨zs, hat, ho, hzl, hvap, hvb⟩ := hv
  refine ⟨v0, st, zs, _, hrun, hat, ho.kept hA (Or.inr hvb), hzl, hA, hvb, ⟨es1, clock1, hb1⟩, ?_⟩
  intro wB v' zs' hg hown' hl' hloc
  have hbB : wB.heap[b]? = some (.map es1 clock1) := (hg.block b (by have := hA.size; omega) (fun e1 => hvb e1.symm)).trans hb1
  have hgw : ∀ i, i < w.heap.size → some i ≠ some b → some i ≠ v0.ownBlock → wB.heap[i]? = w.heap[i]? := fun i hi h1 h2 => (hg.block i (by have := hA.size; omega) h2).trans (hA.block i hi h1)
  obtain ⟨es', clock', hst', hup⟩ := hstore wB v' hbB
  have hs1 : ∀ x ∈ es.toList, x.key ≠ key → ∀ z, rowElem (H := H) w base e q x.val = some z → rowElem wB base e q x.val = some z := by
    intro x hx hne z hz
    obtain ⟨zs, ho, rfl⟩ := rowElem_inv hz
    have hxb : x.val.ownBlock ≠ some b := fun e1 => by have := (ho.1.lt b e1).1; omega
    exact rowElem_mk ((ho.kept hA (Or.inr hxb)).kept hg (hvap x hx hne))
  obtain ⟨es2, clock2, hrun2, F', hput, _, _, hwho⟩ := Maps.fit_store (R' := rowElem wB base e q) K ht hb F (Nat.lt_of_le_of_lt hs hn) hs1 hkey (rowElem_mk hown')
  have heq : es2 = es' ∧ clock2 = clock' := by
    rw [hup] at hrun2
    have e1 : setBlock w b (.map es' clock') = setBlock w b (.map es2 clock2) := by simpa using hrun2
    have e2 := heap_setBlock_same hb (.map es' clock')
    rw [e1, heap_setBlock_same hb] at e2
    simpa using e2
  obtain ⟨rfl, rfl⟩ := heq
  have hg2 : wB.grownBy (setBlock wB b (.map es2 clock2)) (some b) := ⟨rfl, rfl, rfl, by simp [setBlock], fun i _ hi => heap_setBlock_other hbB _ (fun e1 => hi (by rw [e1]))⟩
  have own_ne : ∀ {u : Value} {ys : List Int}, wB.ownsInts base e q u ys → u.ownBlock = none ∨ u.ownBlock ≠ some b := fun {u ys} ho => by
    cases hu : u.ownBlock with
    | none => exact Or.inl rfl
    | some g =>
      refine Or.inr (fun e1 => ?_)
      have := (ho.1.lt g hu).1
      cases e1
      omega
  have hs2 : ∀ x ∈ es2.toList, ∀ z, rowElem (H := H) wB base e q x.val = some z → rowElem (setBlock wB b (.map es2 clock2)) base e q x.val = some z := by
    intro x _ z hz
    obtain ⟨ys, ho, rfl⟩ := rowElem_inv hz
    exact rowElem_mk (ho.kept hg2 (own_ne ho))
  obtain ⟨F2, hmap2, _⟩ := F'.stay hs2
  have old_new : ∀ x ∈ es.toList, x.key ≠ key → x.val.ownBlock = none ∨ x.val.ownBlock ≠ v'.ownBlock := by
    intro x hx hne
    rcases hloc with h1 | ⟨g, h1, h2⟩
    · rw [h1]
      exact hvap x hx hne
    · cases hx' : x.val.ownBlock with
      | none => exact Or.inl rfl
      | some gx =>
        obtain ⟨ys, ho⟩ := owned x hx
        have := (ho.1.lt gx hx').2
        refine Or.inr (fun e1 => ?_)
        rw [h1] at e1
        cases e1
        omega
  have kept : ∀ x ∈ es.toList, x.key ≠ key → ∀ ys, w.ownsInts base e q x.val ys → wB.ownsInts base e q x.val ys := fun x hx hne ys ho => by
    have hxb : x.val.ownBlock ≠ some b := fun e1 => by have := (ho.1.lt b e1).1; omega
    exact (ho.kept hA (Or.inr hxb)).kept hg (hvap x hx hne)
  refine ⟨_, hst', ⟨es2, clock2, heap_setBlock_same hbB _, F2, ?_, ?_, hbb, ?_, ?_⟩, hg2⟩
  · have e1 : es2.size = ((es2.toList.map (rg P k (rowElem (H := H) wB base e q))).foldr DataW.insert []).length := by rw [length_sorted]; simp
    rw [e1, hput]
    unfold putKey
    rw [length_insert]
    have e2 := List.length_filter_le (notKey kl) ((es.toList.map (rg P k (rowElem (H := H) w base e q))).foldr DataW.insert [])
    rw [length_sorted] at e2
    simp at e2
    omega
  · rw [hmap2, DataW.put_eq, hput]
  · intro x hx ys ho
    have back : wB.ownsInts base e q x.val ys := by
      obtain ⟨y, hy⟩ := F'.reads x hx
      obtain ⟨z, hz, _⟩ := rd_val hy
      obtain ⟨ys', ho', _⟩ := rowElem_inv hz
      rw [ho.unique (ho'.kept hg2 (own_ne ho'))]
      exact ho'
    rcases hwho x hx with ⟨hx0, hne⟩ | ⟨_, hval⟩
    · obtain ⟨ys0, ho0⟩ := owned x hx0
      have := hlen x hx0 ys0 ho0
      rw [back.unique (kept x hx0 hne ys0 ho0)]
      omega
    · rw [hval] at back
      rw [back.unique hown']
      exact hl'
  · intro x hx y hy hne
    rcases hwho x hx with ⟨hx0, hxk⟩ | ⟨hxk, hxv⟩ <;> rcases hwho y hy with ⟨hy0, hyk⟩ | ⟨hyk, hyv⟩
    · exact hap x hx0 y hy0 hne
    · rw [hyv]
      exact old_new x hx0 hxk
    · rw [hxv]
      cases hv' : v'.ownBlock with
      | none => exact Or.inl rfl
      | some g =>
        refine Or.inr (fun e1 => ?_)
        rcases old_new y hy0 hyk with h | h
        · rw [h] at e1
          cases e1
        · exact h (by rw [hv', e1])
    · exact absurd (hxk.trans hyk.symm) hne
end
end Go.Proofs.YtcgmmpfckmhahaaGreat

/- The three bytes at a place. -/
namespace Go.Proofs.YtcgmmpfckmhahaaGreat
open Go.RowKit Go.Lib

def tri (x y z : Nat) : Value := .agg #[.int .u8 (x : Int), .int .u8 (y : Int), .int .u8 (z : Int)]
theorem first3 (s : ByteArray) (A : Nat) (h : A + 3 ≤ s.size) : ((s.extract A s.size).data.toList.map fun x => Value.int .u8 (x.toNat : Int)).take 3 = [.int .u8 (Ty.b s A : Int), .int .u8 (Ty.b s (A + 1) : Int), .int .u8 (Ty.b s (A + 2) : Int)] := by
  rw [Ty.b_at (by omega), Ty.b_at (by omega), Ty.b_at (by omega)]
  apply List.ext_getElem
  · simp; omega
  · intro i h1 h2
    have hi : i = 0 ∨ i = 1 ∨ i = 2 := by simp at h2; omega
    rcases hi with rfl | rfl | rfl <;> simp [ByteArray.getElem_eq_getElem_data]
theorem run_copy3 (w : World) (ty : TypeId) (b : Nat) (t : ByteArray) (x y z : Value) (h3 : 3 ≤ t.size) (ht : (t.data.toList.map fun x => Value.int .u8 (x.toNat : Int)).take 3 = [x, y, z])
    (hc : ∀ j, j < 3 → (w.cell? ⟨b, 0 + j, none⟩).isSome = true) (hf : ∀ j, j < 3 → w.frozen? ⟨b, 0 + j, none⟩ = false) :
    (Builtin.copy_ #[27, 9] ty #[.slice (some ⟨b, 0, none⟩) 3 3, .string t]).run Tryz.prog w = .ok (goInt 3) (((w.setCell ⟨b, 0, none⟩ x).setCell ⟨b, 1, none⟩ y).setCell ⟨b, 2, none⟩ z) := by
  have hmin : Nat.min t.size 3 = 3 := Nat.min_eq_right h3
  have hall : ∀ v ∈ [x, y, z], v.oneCell' = true := by
    intro v hv
    rw [← ht] at hv
    obtain ⟨u, _, rfl⟩ := List.mem_map.1 (List.mem_of_mem_take hv)
    rfl
  have hst := run_storeCells_cells (P := Tryz.prog) b 0 [x, y, z] 0 w (by simpa using hc) (by simpa using hf) hall
  simp [Builtin.copy_, run_underlying Tryz.underlying27, Builtin.lenOf, Builtin.firstCells, hmin]
  rw [ht, hst]
  rfl
theorem step_copy3 {ops : Array Oper} {o : Oper} {a : Act} {w : World} {K : Act → World → Prop} {Q : Exit → Act → World → Prop} {E : Prop}
    (hg : o.guard = none) (d x : Operand) (hop : o.op = Op.call { callee := Callee.builtin Builtin.copy, args := #[d, x], argTypes := #[27, 9] })
    (b : Nat) (hd : a.eval d = .slice (some ⟨b, 0, none⟩) 3 3) (t : ByteArray) (hx : a.eval x = .string t) (X Y Z : Value) (h3 : 3 ≤ t.size) (ht : (t.data.toList.map fun x => Value.int .u8 (x.toNat : Int)).take 3 = [X, Y, Z])
    (hc : ∀ j, j < 3 → (w.cell? ⟨b, 0 + j, none⟩).isSome = true) (hf : ∀ j, j < 3 → w.frozen? ⟨b, 0 + j, none⟩ = false)
    (hK : K (a.put o.dst (goInt 3)) (((w.setCell ⟨b, 0, none⟩ X).setCell ⟨b, 1, none⟩ Y).setCell ⟨b, 2, none⟩ Z)) :
    if Region.wanted o (yielded ops a.tmps) = true then Oper.wp Tryz.prog o a w K Q else E := by
  have hw : Region.wanted o (yielded ops a.tmps) = true := by simp [Region.wanted, hg]
  rw [if_pos hw]
  have hrun := run_copy3 w o.type b t X Y Z h3 ht hc hf
  unfold Oper.wp
  simp [execOp, hop, resolve, invoke, builtin, hd, hx, hrun, Result.andThen]
  exact hK

theorem tri_some (W : World) (B : Nat) (hB : B = W.heap.size) (x y z : Value) (T : TypeId) : ∀ j, j < 3 → ((W.alloc (.cells #[x, y, z] T)).drew.cell? ⟨B, 0 + j, none⟩).isSome = true := fun j hj => by
  subst hB
  show ((W.alloc (.cells #[x, y, z] T)).cell? ⟨W.heap.size, 0 + j, none⟩).isSome = true
  have hj' : j = 0 ∨ j = 1 ∨ j = 2 := by omega
  rcases hj' with rfl | rfl | rfl
  all_goals rw [World.cell?_alloc_at _ _ _ _ rfl]; rfl
theorem tri_free (W : World) (B : Nat) (hB : B = W.heap.size) (x y z : Value) (T : TypeId) : ∀ j, j < 3 → (W.alloc (.cells #[x, y, z] T)).drew.frozen? ⟨B, 0 + j, none⟩ = false := fun j _ => by
  subst hB
  show (W.alloc (.cells #[x, y, z] T)).frozen? ⟨W.heap.size, 0 + j, none⟩ = false
  unfold World.frozen?
  rw [show (W.alloc (.cells #[x, y, z] T)).heap[W.heap.size]? = some (.cells #[x, y, z] T (0, 0)) from heap_alloc_new _ _]
  simp
def ThreeEnd (v : Value) (ok : Bool) (w : World) (e : Ending) (w' : World) : Prop := e = .returned (.tuple #[v, .bool ok]) ∧ Below w.heap.size w w'
set_option maxHeartbeats 2000000 in
set_option maxRecDepth 20000 in
theorem threeAt_no (s : ByteArray) (A : Nat) (w : World) (hs : s.size ≤ 9001) (hA : A ≤ s.size) (h : ¬ A + 3 ≤ s.size) :
    Calls Tryz.prog 73 #[.string s, .int .i64 (A : Int)] w (ThreeEnd (tri 0 0 0) false w) := by
  obtain ⟨B, hB⟩ : ∃ B, B = A + 3 := ⟨_, rfl⟩
  have eB : (A : Int) + 3 = (B : Int) := by omega
  have fB := wrap_i64_nat B (by omega)
  have d : decide ((B : Int) > (s.size : Int)) = true := decide_eq_true (by omega)
  have dn : s.size < B := by omega
  clear hB
  go_enter Tryz.func73, Tryz.ntmps73
  go_wp2_with fail
  refine bodyPost_ret (v := .tuple #[tri 0 0 0, .bool false]) ?_ rfl ⟨rfl, ((Below.refl _ _).alloc (Nat.le_refl _) _).alloc (by simp) _⟩
  simp [results, Tryz.results73, go_sem, tri]
set_option maxHeartbeats 2000000 in
set_option maxRecDepth 20000 in
theorem threeAt_yes (s : ByteArray) (A : Nat) (w : World) (hs : s.size ≤ 9001) (h : A + 3 ≤ s.size) :
    Calls Tryz.prog 73 #[.string s, .int .i64 (A : Int)] w (ThreeEnd (tri (Ty.b s A) (Ty.b s (A + 1)) (Ty.b s (A + 2))) true w) := by
  obtain ⟨B, hB⟩ : ∃ B, B = A + 3 := ⟨_, rfl⟩
  have eB : (A : Int) + 3 = (B : Int) := by omega
  have fB := wrap_i64_nat B (by omega)
  have d : decide ((B : Int) > (s.size : Int)) = false := decide_eq_false (by omega)
  have hAi : (A : Int) ≤ (s.size : Int) := by omega
  have HT := first3 s A h
  have HS : 3 ≤ (s.extract A s.size).size := by rw [ByteArray.size_extract]; omega
  generalize Ty.b s A = x at *
  generalize Ty.b s (A + 1) = y at *
  generalize Ty.b s (A + 2) = z at *
  have HTH : Hid (((s.extract A s.size).data.toList.map fun x => Value.int .u8 (x.toNat : Int)).take 3 = [.int .u8 (x : Int), .int .u8 (y : Int), .int .u8 (z : Int)]) := HT
  clear hB HT
  go_enter Tryz.func73, Tryz.ntmps73
  go_wp2_with fail
  go_region_law (refine step_copy3 rfl (.tmp 13) (.tmp 16) rfl (w.heap.size + 1) (by simp [Act.eval, Act.put]) (s.extract A s.size) (by simp [Act.eval, Act.put]) (.int .u8 (x : Int)) (.int .u8 (y : Int)) (.int .u8 (z : Int)) HS HTH.out (tri_some _ _ (by simp) _ _ _ _) (tri_free _ _ (by simp) _ _ _ _) ?_)
  all_goals (
    go_wp2_with fail
    refine bodyPost_ret (v := .tuple #[tri x y z, .bool true]) ?_ rfl ⟨rfl, ?_⟩
    · simp [results, Tryz.results73, go_sem, tri]
    · exact (((Below.refl _ _).alloc (Nat.le_refl _) _).alloc (by simp) _).drew)
end Go.Proofs.YtcgmmpfckmhahaaGreat

/- The places of a text at which three bytes stood, in a map. -/
namespace Go.Proofs.YtcgmmpfckmhahaaGreat
open Go.RowKit Go.Maps
open Go.ChangeShapes (lits)

theorem laidOut_y : laidOutB Tryz.prog = true := by kernel_rfl
theorem row_tri : (102 : TypeId) < Tryz.prog.types.size := of_decide_eq_true (by kernel_rfl)
set_option maxRecDepth 100000 in
theorem ktype_tri : Tryz.prog.keyTypeAt 2 102 = true := by kernel_rfl
theorem law_tri : WideMaps.KeyLaw Tryz.prog 102 := deep_law_laid laidOut_y (m := 2) (Nat.le_of_ble_eq_true rfl) row_tri ktype_tri (by rw [Tryz.underlying102])
theorem key_tri : Keyed Tryz.prog 102 := Keyed.of_law law_tri
theorem cells_tri : Tryz.prog.cellsOf 102 = 3 := by kernel_rfl
theorem cells_byte_y : Tryz.prog.cellsOf 5 = 1 := by kernel_rfl
set_option maxRecDepth 100000 in
theorem kt_tri : Tryz.prog.keyType 102 = true := by kernel_rfl
theorem size_pos_y {n k : Nat} (h : k < n) : ∃ d, n = d + 1 := ⟨n - 1, by omega⟩
def triKey (x y z : Nat) : Lit := .string (keyBytes [.int .u8 (x : Int), .int .u8 (y : Int), .int .u8 (z : Int)])
theorem triKey_of (x y z : Nat) (hx : x < 256) (hy : y < 256) (hz : z < 256) : keyOf Tryz.prog 102 (tri x y z) = some (triKey x y z) := by
  have wf : ∀ c : Nat, c < 256 → (Lit.int .u8 (c : Int)).wf = true := fun c hc => WalkArith.wf_u8 (by omega)
  have hl : Tryz.prog.keyLits (Tryz.prog.types.size + 1) 102 (tri x y z).cells.toList = some [.int .u8 (x : Int), .int .u8 (y : Int), .int .u8 (z : Int)] := by
    show Tryz.prog.keyLits (Tryz.prog.types.size + 1) 102 [.int .u8 (x : Int), .int .u8 (y : Int), .int .u8 (z : Int)] = _
    obtain ⟨d, hd⟩ := size_pos_y row_tri
    rw [hd]
    unfold Program.keyLits
    simp only [Tryz.underlying102]
    have k2 : ∀ c : Nat, c < 256 → Tryz.prog.keyLits (d + 1) 5 [.int .u8 (c : Int)] = some [.int .u8 (c : Int)] := fun c hc => by
      unfold Program.keyLits
      simp only [Tryz.underlying5]
      rw [if_pos ⟨trivial, wf c hc⟩]
    rw [if_pos (by rw [cells_tri]; rfl)]
    simp [cells_byte_y, k2 x hx, k2 y hy, k2 z hz, show List.range 3 = [0, 1, 2] from rfl]
  have hf : (tri x y z).formed Tryz.prog 102 = true := by simp [tri, Value.formed, Tryz.underlying102, cells_tri]
  unfold keyOf
  simp only [Tryz.underlying102, kt_tri, hf, hl, Bool.and_self, if_true, Option.map_some]
  rfl
theorem triKey_inj {x y z x' y' z' : Nat} (hx : x < 256) (hy : y < 256) (hz : z < 256) (hx' : x' < 256) (hy' : y' < 256) (hz' : z' < 256) (e : triKey x y z = triKey x' y' z') : x = x' ∧ y = y' ∧ z = z' := by
  have h1 := triKey_of x y z hx hy hz
  have h2 := triKey_of x' y' z' hx' hy' hz'
  rw [← e] at h2
  have h3 := key_tri.inj h1 h2
  unfold tri at h3
  injection h3 with h4
  simp at h4
  omega
theorem triKey_lit (x y z : Nat) : WideAt.IsKeyLit (triKey x y z) := trivial
theorem zero_ints (u : World) : (zeroValue 36).run Tryz.prog u = .ok (.slice none 0 0) u := by
  have h : (Tryz.prog.info? 36).map (fun i => (i.zero, i.size, i.bytes)) = some (some (.slice none 0 0), 1, 24) := by kernel_rfl
  obtain ⟨i0, hi, hz0, _, _⟩ := info_parts h
  simp [zeroValue, typeInfo, hi, hz0]

/-- the places, as numbers -/
def plsI (s : ByteArray) (x y z A : Nat) : List Int := (Ty.pls s x y z A).map (fun (p : Nat) => (p : Int))
theorem plsI_len (s : ByteArray) (x y z A : Nat) : (plsI s x y z A).length ≤ A := by unfold plsI; rw [List.length_map]; exact Ty.pls_len s x y z A
/-- the map tells the places -/
structure TriTab (D : DataW Unit) (s : ByteArray) (A : Nat) : Prop where
  isMap : IsMap D
  at_ : ∀ x y z : Nat, x < 256 → y < 256 → z < 256 → (D.atKey (triKey x y z) .nil = .nil ∧ plsI s x y z A = []) ∨ D.atKey (triKey x y z) .nil = .slice (lits .i64 (plsI s x y z A)) []
theorem tri_start (s : ByteArray) : TriTab (.map []) s 0 := ⟨isMap_empty, fun _ _ _ _ _ _ => .inl ⟨rfl, rfl⟩⟩
theorem lits_inj {a b : List Int} (h : (lits .i64 a : List (DataW Unit)) = lits .i64 b) : a = b := by
  unfold lits at h
  refine (List.map_inj_right (fun x y hxy => ?_)).1 h
  injection hxy with h1
  injection h1
theorem TriTab.is {D : DataW Unit} {s : ByteArray} {A x y z : Nat} (t : TriTab D s A) (hx : x < 256) (hy : y < 256) (hz : z < 256) {w : World} {base : Nat} {v : Value} {zs : List Int} (hat : D.atKey (triKey x y z) .nil = rowDatum .i64 v zs) (ho : w.ownsInts base 3 .i64 v zs) : zs = plsI s x y z A := by
  rcases ho.datum (H := Unit) with ⟨h1, h2⟩ | h1 <;> rcases t.at_ x y z hx hy hz with ⟨h3, h4⟩ | h3
  · rw [h2, h4]
  · rw [hat, h1] at h3; cases h3
  · rw [hat, h1] at h3; cases h3
  · rw [hat, h1] at h3
    injection h3 with h5
    exact lits_inj h5
theorem TriTab.more {D : DataW Unit} {s : ByteArray} {A : Nat} (t : TriTab D s A) (h : A + 3 ≤ s.size) :
    TriTab (D.put (triKey (Ty.b s A) (Ty.b s (A + 1)) (Ty.b s (A + 2))) (.slice (lits .i64 (plsI s (Ty.b s A) (Ty.b s (A + 1)) (Ty.b s (A + 2)) A ++ [(A : Int)])) [])) s (A + 1) := by
  refine ⟨t.isMap.put _ _, fun x y z hx hy hz => ?_⟩
  by_cases e : x = Ty.b s A ∧ y = Ty.b s (A + 1) ∧ z = Ty.b s (A + 2)
  · obtain ⟨rfl, rfl, rfl⟩ := e
    right
    rw [atKey_put_same t.isMap (triKey_lit _ _ _)]
    unfold plsI
    rw [Ty.pls_yes ⟨h, rfl, rfl, rfl⟩, List.map_append]
    rfl
  · have hne : triKey x y z ≠ triKey (Ty.b s A) (Ty.b s (A + 1)) (Ty.b s (A + 2)) := fun q => e (triKey_inj hx hy hz (Ty.b_lt _ _) (Ty.b_lt _ _) (Ty.b_lt _ _) q)
    have hp : plsI s x y z (A + 1) = plsI s x y z A := by
      unfold plsI
      rw [Ty.pls_no (fun q => e ⟨q.2.1.symm, q.2.2.1.symm, q.2.2.2.symm⟩)]
    rw [atKey_put_other hne, hp]
    exact t.at_ x y z hx hy hz
theorem TriTab.none {D : DataW Unit} {s : ByteArray} {A : Nat} (t : TriTab D s A) (h : ¬ A + 3 ≤ s.size) : TriTab D s (A + 1) := by
  refine ⟨t.isMap, fun x y z hx hy hz => ?_⟩
  have hp : plsI s x y z (A + 1) = plsI s x y z A := by
    unfold plsI
    rw [Ty.pls_no (fun q => h q.1)]
  rw [hp]
  exact t.at_ x y z hx hy hz
/-- .. in memory, from block B on -/
def Seen (s : ByteArray) (B A : Nat) (W : World) : Prop := ∃ (D : DataW Unit) (n : Nat), n ≤ A ∧ W.ownsGroups Tryz.prog 102 (B + 1) 3 .i64 B n D ∧ TriTab D s A
theorem seen_start (s : ByteArray) (w : World) : Seen s w.heap.size 0 (w.alloc (.map #[] 0)) := ⟨_, 0, Nat.le_refl _, World.ownsGroups_made _ _ _ _ _, tri_start s⟩
end Go.Proofs.YtcgmmpfckmhahaaGreat

/- A place that has been gone by is taken in. -/
namespace Go.Proofs.YtcgmmpfckmhahaaGreat
open Go.RowKit Go.Maps
open Go.ChangeShapes (lits)

theorem wpList_entry {P : Program} (w : World) {ops : Array Oper} {rest : List Oper} {o : Oper} {a : Act} {Q : Exit → Act → World → Prop}
    (hg : o.guard = none) (m x : Operand) (t : TypeId) (hop : o.op = Op.mapEntry t m x) (vm vx : Value) (hm : a.eval m = vm) (hx : a.eval x = vx) (r : Value) (wA : World) (hrun : (Instr.mapEntry t vm vx).run P w = .ok r wA)
    (hK : wpList P ops Q rest (a.put o.dst r) wA) : wpList P ops Q (o :: rest) a w := by
  refine wpList_plain hg fun K' hK' => ?_
  unfold Oper.wp
  simp [execOp, hop, hm, hx, hrun, Result.andThen]
  exact hK' _ _ hK
/-- what the iterator leaves alone -/
def Stays : Obj → Prop
  | .map .. => False
  | .cells _ t _ => t ≠ 3
  | _ => True
structure Tn (B : Nat) (W W' : World) : Prop where
  low : Below B W W'
  same : ∀ (k : Nat) (o : Obj), W.heap[k]? = some o → Stays o → W'.heap[k]? = some o
theorem Tn.size {B : Nat} {X Y : World} (h : Tn B X Y) : X.heap.size ≤ Y.heap.size := h.low.size
theorem Tn.refl (B : Nat) (W : World) : Tn B W W := ⟨Below.refl _ _, fun _ _ h _ => h⟩
theorem Tn.trans {B : Nat} {X Y Z : World} (h : Tn B X Y) (k : Tn B Y Z) : Tn B X Z := ⟨h.low.trans k.low, fun i o hi ho => k.same i o (h.same i o hi ho) ho⟩
theorem Tn.below {B m : Nat} {X Y : World} (h : Below m X Y) (hB : B ≤ m) (hm : X.heap.size ≤ m) : Tn B X Y := ⟨h.mono hB, fun i o hi _ => (h.block i (by have := (Array.getElem?_eq_some_iff.1 hi).1; omega)).trans hi⟩
theorem Tn.grown {B : Nat} {X Y : World} {row : Option Nat} (h : X.grownBy Y row) (hB : B ≤ X.heap.size) (hr : ∀ j, row = some j → B ≤ j ∧ ∀ o, X.heap[j]? = some o → ¬ Stays o) : Tn B X Y :=
  ⟨(Below.refl B X).grown h hB (fun j e => (hr j e).1), fun i o hi ho => (h.block i (Array.getElem?_eq_some_iff.1 hi).1 (fun e => (hr i e.symm).2 o hi ho)).trans hi⟩

theorem Seen.map {s : ByteArray} {B A : Nat} {W : World} (h : Seen s B A W) : ∃ es clock, W.heap[B]? = some (.map es clock) := by
  obtain ⟨D, n, _, h1, _⟩ := h
  obtain ⟨es, clock, hb, _⟩ := h1
  exact ⟨es, clock, hb⟩
theorem Seen.lt {s : ByteArray} {B A : Nat} {W : World} (h : Seen s B A W) : B < W.heap.size := by
  obtain ⟨_, _, hb⟩ := h.map
  exact (Array.getElem?_eq_some_iff.1 hb).1
theorem Seen.kept {s : ByteArray} {B A : Nat} {W W' : World} (h : Seen s B A W) (hb : W'.heap[B]? = W.heap[B]?) (hk : ∀ (j : Nat) (cs : Array Value) (fr : Nat × Nat), W.heap[j]? = some (Obj.cells cs 3 fr) → W'.heap[j]? = some (Obj.cells cs 3 fr)) : Seen s B A W' := by
  obtain ⟨D, n, hn, h1, h2⟩ := h
  exact ⟨D, n, hn, ownsGroups_same h1 hb hk, h2⟩
theorem Seen.below {s : ByteArray} {B A m : Nat} {W W' : World} (h : Seen s B A W) (hb : Below m W W') (hm : W.heap.size ≤ m) : Seen s B A W' :=
  h.kept (hb.block B (by have := h.lt; omega)) (fun j _ _ hj => (hb.block j (by have := (Array.getElem?_eq_some_iff.1 hj).1; omega)).trans hj)

theorem own_stays {W : World} {base j : Nat} {v : Value} {zs : List Int} {o : Obj} (h : W.ownsInts base 3 .i64 v zs) (e : v.ownBlock = some j) (ho : W.heap[j]? = some o) : ¬ Stays o := by
  intro hs
  rcases h.1.2 with ⟨rfl, _⟩ | ⟨g, cap, cur, rfl, _, hgb, _⟩
  · simp [Value.ownBlock] at e
  · obtain rfl : g = j := by simpa [Value.ownBlock] using e
    rw [hgb] at ho; cases ho; exact hs rfl
def AddEnd (s : ByteArray) (B A : Nat) (w : World) (e : Ending) (w' : World) : Prop := (∃ v, e = .returned v) ∧ Seen s B (A + 1) w' ∧ Tn B w w'
set_option maxHeartbeats 2000000 in
set_option maxRecDepth 20000 in
theorem add_any (s : ByteArray) (B A : Nat) (w : World) (hs : s.size ≤ 9001) (hA : A < s.size) (h : Seen s B A w) :
    Calls Tryz.prog 46 #[.map (some B), .string s, .int .i64 (A : Int)] w (AddEnd s B A w) := by
  have hBlt := h.lt
  by_cases h3 : A + 3 ≤ s.size
  · have HT : Hid (Calls Tryz.prog 73 #[.string s, .int .i64 (A : Int)] w (ThreeEnd (.agg #[.int .u8 (Ty.b s A : Int), .int .u8 (Ty.b s (A + 1) : Int), .int .u8 (Ty.b s (A + 2) : Int)]) true w)) := threeAt_yes s A w hs h3
    have hkey := triKey_of (Ty.b s A) (Ty.b s (A + 1)) (Ty.b s (A + 2)) (Ty.b_lt _ _) (Ty.b_lt _ _) (Ty.b_lt _ _)
    obtain ⟨i0, hi, hz0, hz1, hz2⟩ := info_parts (show (Tryz.prog.info? 3).map (fun i => (i.zero, i.size, i.bytes)) = some (some (.int .i64 0), 1, 8) by kernel_rfl)
    have HS : Hid (Seen s B A w) := h
    have HM : Hid (∀ D, TriTab D s A → TriTab (D.put (triKey (Ty.b s A) (Ty.b s (A + 1)) (Ty.b s (A + 2))) (.slice (lits .i64 (plsI s (Ty.b s A) (Ty.b s (A + 1)) (Ty.b s (A + 2)) A ++ [(A : Int)])) [])) s (A + 1)) := fun D t => t.more h3
    have HI : Hid (∀ (D : DataW Unit) (w : World) (base : Nat) (v : Value) (zs : List Int), TriTab D s A → D.atKey (triKey (Ty.b s A) (Ty.b s (A + 1)) (Ty.b s (A + 2))) .nil = rowDatum .i64 v zs → w.ownsInts base 3 .i64 v zs → zs = plsI s (Ty.b s A) (Ty.b s (A + 1)) (Ty.b s (A + 2)) A) := fun D w base v zs t h1 h2 => t.is (Ty.b_lt _ _) (Ty.b_lt _ _) (Ty.b_lt _ _) h1 h2
    have hpl : (plsI s (Ty.b s A) (Ty.b s (A + 1)) (Ty.b s (A + 2)) A).length ≤ A := plsI_len _ _ _ _ _
    generalize plsI s (Ty.b s A) (Ty.b s (A + 1)) (Ty.b s (A + 2)) A = pl at *
    generalize Ty.b s A = x at *
    generalize Ty.b s (A + 1) = y at *
    generalize Ty.b s (A + 2) = z at *
    clear h
    go_enter Tryz.func46, Tryz.ntmps46
    go_wp2_with fail
    refine HT.out.mono ?_
    rintro e w1 ⟨rfl, bel1⟩
    have hw1 := bel1.size
    have hS1 : Seen s B A w1 := HS.out.below bel1 (Nat.le_refl _)
    obtain ⟨W0, hW0⟩ : ∃ W0, W0 = (w1.alloc (.cells #[.int .u8 (x : Int), .int .u8 (y : Int), .int .u8 (z : Int)] 102)).alloc (.cells #[.int .i64 (A : Int)] 3) := ⟨_, rfl⟩
    have bW : Below w1.heap.size w1 W0 := by rw [hW0]; exact ((Below.refl _ _).alloc (Nat.le_refl _) _).alloc (by simp) _
    have hS0 : Seen s B A W0 := hS1.below bW (Nat.le_refl _)
    have hT0 : Tn B w W0 := (Tn.below bel1 (by omega) (Nat.le_refl _)).trans (Tn.below bW (by omega) (Nat.le_refl _))
    have hnew : W0.heap[w1.heap.size + 1]? = some (.cells #[.int .i64 (A : Int)] 3 (0, 0)) := by
      rw [hW0]; have := heap_alloc_new (w1.alloc (.cells #[.int .u8 (x : Int), .int .u8 (y : Int), .int .u8 (z : Int)] 102)) (.cells #[.int .i64 (A : Int)] 3); rwa [World.size_alloc] at this
    have hsz0 : W0.heap.size = w1.heap.size + 2 := by rw [hW0]; simp
    obtain ⟨D, n, hn, hown, htab⟩ := hS0
    obtain ⟨v0, st, zs, wA, hrun, hat, hoi, hzl, hgA, hvb, hmA, hback⟩ := groups_entry hown law_tri Tryz.underlying76 zero_ints (by unfold maxLen; omega) hkey
    have hzs : zs = pl := HI.out D wA (B + 1) v0 zs htab hat hoi
    have hnewA : wA.heap[w1.heap.size + 1]? = some (.cells #[.int .i64 (A : Int)] 3 (0, 0)) := (hgA.block _ (by omega) (by intro e; cases e; omega)).trans hnew
    have hAs := hgA.size
    clear hkey HI HS bel1 hS1 bW
    have HBK : Hid (∀ (wB : World) (v' : Value) (zs' : List Int), wA.grownBy wB v0.ownBlock → wB.ownsInts (B + 1) 3 .i64 v' zs' → zs'.length ≤ n + 1 → (v'.ownBlock = v0.ownBlock ∨ ∃ g, v'.ownBlock = some g ∧ W0.heap.size ≤ g) →
        ∃ wC, (Instr.entryStore 76 (.map (some B)) (goInt st) v').run Tryz.prog wB = .ok () wC ∧ wC.ownsGroups Tryz.prog 102 (B + 1) 3 .i64 B (n + 1) (D.put (triKey x y z) (rowDatum .i64 v' zs')) ∧ wB.grownBy wC (some B)) := hback
    have HTN : Hid (Tn B w W0) := hT0
    have HTM : Hid (∃ es clock, W0.heap[B]? = some (.map es clock)) := by
      obtain ⟨es, clock, hb, _⟩ := hown
      exact ⟨es, clock, hb⟩
    have HPL : Hid (zs = pl) := hzs
    have hzb : zs.length ≤ A := Nat.le_trans hzl hn
    clear hback hzs hat hpl hown hT0 hnew
    go_wp2_with (first
      | (refine wpList_entry _ rfl _ _ 76 rfl _ _ rfl rfl (.tuple #[v0, goInt st]) wA (by rw [← hW0]; exact hrun) ?_)
      | (at_builtin; refine wpList_append_own_at _ rfl _ _ 36 rfl (B + 1) 3 i0 (.int .i64 0) 1 8 Tryz.underlying36 hi hz0 hz1 hz2 rfl (by decide) _ _ _ rfl hoi.1 ⟨w1.heap.size + 1, 0, none⟩ 1 1 [.int .i64 (A : Int)] rfl rfl (World.news_of_block hnewA) (ints_oneCell .i64 [(A : Int)]) (by unfold maxLen; omega) (by omega) (by omega) ?_; intro v' wB hown' hgB hnil hloc; obtain ⟨wC, hrunC, hownC, hgC⟩ := HBK.out wB v' (zs ++ [(A : Int)]) hgB (hoi.appended hown' (WalkArith.wf_i64 (by omega))) (by simp; omega) (hloc.imp id (fun h => ⟨_, h, by omega⟩)); have hrunD : (Instr.entryStore 76 (.map (some B)) (.int .i64 (st : Int)) v').run Tryz.prog wB = .ok () wC := hrunC)
      | fail)
    have hoiB := hoi.appended hown' (WalkArith.wf_i64 (n := (A : Int)) (by omega))
    have hT : Tn B w wC := by
      obtain ⟨es, clock, hm⟩ := HTM.out
      have t1 : Tn B W0 wA := Tn.grown hgA (by omega) (fun j e => by cases e; exact ⟨Nat.le_refl _, fun o ho hs => by rw [hm] at ho; cases ho; exact hs⟩)
      have t2 : Tn B wA wB := Tn.grown hgB (by omega) (fun j e => ⟨by have := (hoi.1.lt j e).1; omega, fun o ho => own_stays hoi e ho⟩)
      have t3 : Tn B wB wC := Tn.grown hgC (by have := hgB.size; omega) (fun j e => by
        cases e
        refine ⟨Nat.le_refl _, fun o ho hs => ?_⟩
        obtain ⟨es2, clock2, hm2⟩ : ∃ es2 clock2, wB.heap[B]? = some (.map es2 clock2) := by
          have hbA : wA.heap[B]? = wB.heap[B]? := (hgB.block B (by omega) (fun e => hvb e.symm)).symm
          rw [← hbA]
          exact hmA
        rw [hm2] at ho; cases ho; exact hs)
      exact HTN.out.trans (t1.trans (t2.trans t3))
    have hF : ∀ v, AddEnd s B A w (.returned v) wC := fun v => by
      refine ⟨⟨_, rfl⟩, ⟨_, n + 1, by omega, hownC, ?_⟩, hT⟩
      rw [hoiB.datum_pos (by simp), HPL.out]
      exact HM.out D htab
    go_end0
    exact hF _
  · have HT : Hid (Calls Tryz.prog 73 #[.string s, .int .i64 (A : Int)] w (ThreeEnd (.agg #[.int .u8 0, .int .u8 0, .int .u8 0]) false w)) := threeAt_no s A w hs (by omega) h3
    have HF : Hid (∀ w', Below w.heap.size w w' → ∀ v, AddEnd s B A w (.returned v) w') := fun w' hb v => by
      obtain ⟨D, n, hn, h1, h2⟩ := h.below hb (Nat.le_refl _)
      exact ⟨⟨_, rfl⟩, ⟨D, n, by omega, h1, h2.none h3⟩, Tn.below hb (by omega) (Nat.le_refl _)⟩
    clear h
    go_enter Tryz.func46, Tryz.ntmps46
    go_wp2_with fail
    refine HT.out.mono ?_
    rintro e w1 ⟨rfl, bel1⟩
    go_wp2_with fail
    go_end0
    exact HF.out _ (bel1.trans (((Below.refl _ _).alloc (Nat.le_refl _) _).mono bel1.size)) _
end Go.Proofs.YtcgmmpfckmhahaaGreat

/- How many bytes are alike; the three bytes at a place. -/
namespace Go.Proofs.YtcgmmpfckmhahaaGreat
open Go.RowKit

set_option maxHeartbeats 2000000 in
set_option maxRecDepth 20000 in
theorem alike_is (s : ByteArray) (a c : Nat) (w : World) (hs : s.size ≤ 9001) (hab : a ≤ c) (hb : c ≤ s.size) :
    Calls Tryz.prog 75 #[.string s, .int .i64 (a : Int), .int .i64 (c : Int)] w fun e w' => e = .returned (.int .i64 ((Ty.mat s a c 258 : Nat) : Int)) ∧ ∃ q, w' = w.drewN q := by
  go_enter Tryz.func75, Tryz.ntmps75
  go_wp2_with fail
  go_loopw [7] (fun i wr => ∃ n q : Nat, n ≤ 258 ∧ c + n ≤ s.size ∧ i = .int .i64 (n : Int) ∧ Hid (Ty.mat s a c 258 = n + Ty.mat s (a + n) (c + n) (258 - n)) ∧ Hid (wr = w.drewN q)) (fun i _ => 258 - (intOf i).toNat)
  case atStart => exact ⟨0, 0, by omega, by omega, rfl, by show _ = _; simp, rfl⟩
  case round =>
    obtain ⟨n, q, hn, hbn, rfl, HM, HW⟩ := hrel
    by_cases h1 : n < 258
    · have d1 : decide ((n : Int) < 258) = true := decide_eq_true (by omega)
      obtain ⟨B, hB⟩ : ∃ B, B = c + n := ⟨_, rfl⟩
      have eB : (c : Int) + (n : Int) = (B : Int) := by omega
      have fB := wrap_i64_nat B (by omega)
      obtain ⟨A, hA⟩ : ∃ A, A = a + n := ⟨_, rfl⟩
      have eA : (a : Int) + (n : Int) = (A : Int) := by omega
      have fA := wrap_i64_nat A (by omega)
      by_cases h2 : B < s.size
      · have d2 : decide ((B : Int) < (s.size : Int)) = true := decide_eq_true (by omega)
        have hA2 : A < s.size := by omega
        have hAi : (A : Int) < (s.size : Int) := by omega
        have hBi : (B : Int) < (s.size : Int) := by omega
        have hBn : c + (n + 1) ≤ s.size := by omega
        by_cases h3 : (s[A]).toNat = (s[B]).toNat
        · have HM2 : Hid (Ty.mat s a c 258 = (n + 1) + Ty.mat s (a + (n + 1)) (c + (n + 1)) (258 - (n + 1))) := by
            show _ = _
            rw [HM.out, show 258 - n = (258 - (n + 1)) + 1 by omega, Ty.mat_yes (by omega) (by rw [← hA, ← hB, Ty.b_at hA2, Ty.b_at h2, h3]), show a + n + 1 = a + (n + 1) by omega, show c + n + 1 = c + (n + 1) by omega]
            omega
          have d3 : (((s[A]).toNat : Int) == ((s[B]).toNat : Int)) = true := by rw [beq_iff_eq]; omega
          clear h3 hB hA HM
          go_wp2_with fail
          go_quiet (fail)
          go_wp2_with fail
          go_roundw
          case rel => exact ⟨n + 1, q + nq, by omega, hBn, by go_num, HM2, by show _ = _; rw [HW.out, World.drewN_drewN]⟩
          case measure => simp [intOf]; omega
        · have HM2 : Hid (Ty.mat s a c 258 = n) := by
            show _ = _
            rw [HM.out, Ty.mat_no (by rw [← hA, ← hB, Ty.b_at hA2, Ty.b_at h2]; exact fun h => h3 h.2)]; rfl
          have d3 : (((s[A]).toNat : Int) == ((s[B]).toNat : Int)) = false := by rw [beq_eq_false_iff_ne]; omega
          clear h3 hB hA HM
          go_wp2_with fail
          go_quiet (fail)
          go_wp2_with fail
          go_ret
          exact ⟨by rw [HM2.out]; rfl, q + nq, by rw [HW.out, World.drewN_drewN]⟩
      · have d2 : decide ((B : Int) < (s.size : Int)) = false := decide_eq_false (by omega)
        have HM2 : Hid (Ty.mat s a c 258 = n) := by
          show _ = _
          rw [HM.out, Ty.mat_no (by rw [← hB]; exact fun h => h2 h.1)]; rfl
        clear hB hA HM
        go_wp2_with fail
        go_quiet (fail)
        go_wp2_with fail
        go_ret
        exact ⟨by rw [HM2.out]; rfl, q + nq, by rw [HW.out, World.drewN_drewN]⟩
    · have d1 : decide ((n : Int) < 258) = false := decide_eq_false (by omega)
      have HM2 : Hid (Ty.mat s a c 258 = n) := by
        show _ = _
        rw [HM.out, show 258 - n = 0 by omega]; rfl
      clear HM
      go_wp2_with fail
      go_quiet (fail)
      go_wp2_with fail
      go_ret
      exact ⟨by rw [HM2.out]; rfl, q + nq, by rw [HW.out, World.drewN_drewN]⟩
end Go.Proofs.YtcgmmpfckmhahaaGreat

/- A box of three cells. -/
namespace Go.Proofs.YtcgmmpfckmhahaaGreat
open Go.RowKit

theorem ty_setRow_setRow (w : World) (g : Nat) (a b : Array Value) : (w.setRow g a).setRow g b = w.setRow g b := by
  unfold World.setRow
  simp only
  congr 1
  apply Array.ext_getElem?
  intro i
  rw [Array.getElem?_modify, Array.getElem?_modify, Array.getElem?_modify]
  by_cases e : g = i
  · subst e
    simp only [if_true]
    cases w.heap[g]? with
    | none => rfl
    | some o => cases o <;> rfl
  · simp [e]
theorem ty_setRow_setCell {w : World} {g : Nat} {cur : Array Value} {t : TypeId} (h : w.heap[g]? = some (.cells cur t (0, 0))) (a : Array Value) (i : Nat) (v : Value) : (w.setRow g a).setCell ⟨g, i, none⟩ v = w.setRow g (a.setIfInBounds i v) := by
  rw [setCell_eq_setRow (w.setRow g a) g i a t (0, 0) v (setRow_heap w g cur a t (0, 0) h), ty_setRow_setRow]
theorem three_row {w : World} {g : Nat} {t : TypeId} {a0 a1 a2 : Value} (h : w.heap[g]? = some (.cells #[a0, a1, a2] t (0, 0))) (v0 v1 v2 : Value) :
    ((w.setCell ⟨g, 0, none⟩ v0).setCell ⟨g, 1, none⟩ v1).setCell ⟨g, 2, none⟩ v2 = w.setRow g #[v0, v1, v2] := by
  rw [setCell_eq_setRow w g 0 _ t (0, 0) v0 h, ty_setRow_setCell h, ty_setRow_setCell h]
  rfl
theorem box3 {w : World} {B : Nat} {v0 v1 v2 : Value} {T : TypeId} (h : w.heap[B]? = some (.cells #[v0, v1, v2] T (0, 0))) :
    (w.cell? ⟨B, 0, none⟩ = some v0 ∧ w.cell? ⟨B, 1, none⟩ = some v1 ∧ w.cell? ⟨B, 2, none⟩ = some v2) ∧ (w.frozen? ⟨B, 0, none⟩ = false ∧ w.frozen? ⟨B, 1, none⟩ = false ∧ w.frozen? ⟨B, 2, none⟩ = false) := by
  refine ⟨⟨?_, ?_, ?_⟩, ?_, ?_, ?_⟩ <;> simp [World.cell?, World.frozen?, h]
theorem ty_below_setRow {B g : Nat} {w0 w : World} (hb : Below B w0 w) (hBg : B ≤ g) {cur : Array Value} {t : TypeId} (h : w.heap[g]? = some (.cells cur t (0, 0))) (cs : Array Value) : Below B w0 (w.setRow g cs) := by
  refine hb.grown (row := some g) ⟨rfl, rfl, rfl, by simp [World.setRow], fun k _ hk => setRow_other _ _ _ _ (fun e => hk (by rw [e]))⟩ ?_ (fun k e => by cases e; exact hBg)
  have := (Array.getElem?_eq_some_iff.1 h).1
  omega
end Go.Proofs.YtcgmmpfckmhahaaGreat

/- What stands at a place of a text. -/
namespace Go.Proofs.YtcgmmpfckmhahaaGreat
open Go.RowKit Go.Shelf Go.Maps

attribute [local go_sem] Oper.semAt_some

def tkV (p : Tk) : Value := .agg #[.int .i64 p.1, .int .i64 p.2.1, .int .i64 p.2.2]
/-- the best one so far -/
def bestOf (s : ByteArray) (A : Nat) (pre : List (BkS A)) : Nat × Nat := (pre.map (fun x => x.1.2)).foldl (Ty.upd s A) (0, 0)
theorem bestOf_snoc (s : ByteArray) (A : Nat) (pre : List (BkS A)) (x : BkS A) : bestOf s A (pre ++ [x]) = Ty.upd s A (bestOf s A pre) x.1.2 := by unfold bestOf; rw [List.map_append, List.foldl_append]; rfl
def TokEnd (s : ByteArray) (A : Nat) (w : World) (e : Ending) (w' : World) : Prop := e = .returned (tkV (Ty.tok s A)) ∧ Below w.heap.size w w'

set_option maxRecDepth 100000 in
set_option maxHeartbeats 4000000 in
theorem token_no (s : ByteArray) (B A : Nat) (w : World) (hs : s.size ≤ 9001) (hA : A < s.size) (h3 : ¬ A + 3 ≤ s.size) :
    Calls Tryz.prog 45 #[.map (some B), .string s, .int .i64 (A : Int)] w (TokEnd s A w) := by
  have hro : Fence.wide.round = none := rfl
  have HT : Hid (∀ w, Calls Tryz.prog 73 #[.string s, .int .i64 (A : Int)] w (ThreeEnd (.agg #[.int .u8 0, .int .u8 0, .int .u8 0]) false w)) := fun w => threeAt_no s A w hs (by omega) h3
  have hAi : (A : Int) < (s.size : Int) := by omega
  have hT : Ty.tok s A = ((s[A].toNat : Int), 0, 0) := by
    unfold Ty.tok
    rw [if_neg (Ty.bst_short h3 A (Nat.le_refl _) (by omega)), Ty.b_at hA]
  obtain ⟨c, hc⟩ : ∃ c : Nat, s[A].toNat = c := ⟨_, rfl⟩
  have hcb : c < 256 := by rw [← hc]; exact UInt8.toNat_lt _
  have HF : Hid (∀ w', Below w.heap.size w w' → TokEnd s A w (.returned (.agg #[.int .i64 (c : Int), .int .i64 0, .int .i64 0])) w') := fun w' hb => by
    rw [hc] at hT
    exact ⟨by rw [hT]; rfl, hb⟩
  clear hT
  refine (callsIn_wide (n := 3)).1 (callsIn_of_wp_marks Tryz.func45 rfl trivial ?_ hro)
  simp only [Tryz.ntmps45, List.size_toArray, List.length_cons, List.length_nil, Nat.reduceAdd, Nat.reduceSub, Array.replicate_succ, Array.replicate_zero, List.push_toArray, List.append_toArray, List.nil_append, List.cons_append]
  gi_wp2
  refine ⟨trivial, ?_⟩
  gi_wp2
  refine (callsIn_wide.2 (HT.out _)).mono ?_
  rintro e w1 ⟨rfl, b1⟩
  have hs1 : w.heap.size + 3 ≤ w1.heap.size := Nat.le_trans (by simp) b1.size
  obtain ⟨w2, hw2⟩ : ∃ w2, w2 = w1.alloc (.cells #[.int .u8 0, .int .u8 0, .int .u8 0] 102) := ⟨_, rfl⟩
  have b2 : Below (w.heap.size + 3) (((w.alloc (.cells #[.string s] 9)).alloc (.cells #[.int .i64 (A : Int)] 3)).alloc (.cells #[.int .i64 0, .int .i64 0, .int .i64 0] 54)) w2 := by rw [hw2]; exact (b1.mono (by simp)).alloc hs1 _
  have ct : w2.cell? ⟨w.heap.size, 0, none⟩ = some (.string s) := (b2.cell (p := ⟨w.heap.size, 0, none⟩) (by show w.heap.size < _; omega)).trans (by simp [go_sem])
  have ca : w2.cell? ⟨w.heap.size + 1, 0, none⟩ = some (.int .i64 (A : Int)) := (b2.cell (p := ⟨w.heap.size + 1, 0, none⟩) (by show w.heap.size + 1 < _; omega)).trans (by simp [go_sem])
  have hr : w2.heap[w.heap.size + 2]? = some (.cells #[.int .i64 0, .int .i64 0, .int .i64 0] 54 (0, 0)) := (b2.block _ (by omega)).trans (by
    have := heap_alloc_new ((w.alloc (.cells #[.string s] 9)).alloc (.cells #[.int .i64 (A : Int)] 3)) (.cells #[.int .i64 0, .int .i64 0, .int .i64 0] 54); simpa [World.size_alloc] using this)
  have bb2 : Below w.heap.size w w2 := ((((Below.refl _ w).alloc (Nat.le_refl _) _).alloc (by simp) _).alloc (by simp; omega) _).trans (b2.mono (by omega))
  have hr3 : w2.heap[w.heap.size + 1 + 1]? = some (.cells #[.int .i64 0, .int .i64 0, .int .i64 0] 54 (0, 0)) := hr
  obtain ⟨⟨r0, r1, r2⟩, f0, f1, f2⟩ := box3 hr3
  have hR := three_row hr3 (.int .i64 (c : Int)) (.int .i64 0) (.int .i64 0)
  have HB : Hid (Below w.heap.size w (w2.setRow (w.heap.size + 1 + 1) #[.int .i64 (c : Int), .int .i64 0, .int .i64 0])) := ty_below_setRow bb2 (by omega) hr3 _
  have hq := setRow_heap _ _ _ #[.int .i64 (c : Int), .int .i64 0, .int .i64 0] _ _ hr3
  rw [hw2] at ct ca r0 r1 r2 f0 f1 f2
  clear hr3 hr b2 b1 bb2
  gi_wp2
  rw [← hw2, hR]
  exact ⟨_, by simp [results, Tryz.results45, go_sem, World.cell?, hq], HF.out _ HB.out⟩
end Go.Proofs.YtcgmmpfckmhahaaGreat

/- A list of bits that is made at once, and filled place by place. -/
namespace Go.Proofs.YtcgmmpfckmhahaaGreat
open Go.RowKit

theorem cellsOf_set : ∀ (l : List (Int × Int)) (k : Nat) (v s : Int), k < l.length → ((cellsOf l).set (k * 2) (.int .i64 v)).set (k * 2 + 1) (.int .i64 s) = cellsOf (l.set k (v, s))
  | [], k, v, s, h => by simp at h
  | p :: l, 0, v, s, h => by simp [cellsOf]
  | p :: l, k + 1, v, s, h => by
    have := cellsOf_set l k v s (by simpa using h)
    rw [show (k + 1) * 2 = k * 2 + 1 + 1 by omega]
    simp only [cellsOf, List.set_cons_succ]
    rw [this]

theorem OwnP.put {w : World} {B n g cap k : Nat} {l : List (Int × Int)} (h : OwnP w B (.slice (some ⟨g, 0, none⟩) n cap) n l) (hk : k < n) (v s : Int) :
    OwnP ((w.setCell ⟨g, k * 2, none⟩ (.int .i64 v)).setCell ⟨g, k * 2 + 1, none⟩ (.int .i64 s)) B (.slice (some ⟨g, 0, none⟩) n cap) n (l.set k (v, s)) := by
  have h1 := (World.ownsRow.stored h (k * 2) (.int .i64 v)).1
  have h2 := (World.ownsRow.stored h1 (k * 2 + 1) (.int .i64 s)).1
  rw [cellsOf_set l k v s (by rw [h.len]; exact hk)] at h2
  exact h2

/-- the first k are copied, the others are nothing yet -/
def half (l : List (Int × Int)) (k : Nat) : List (Int × Int) := l.take k ++ List.replicate (l.length - k) (0, 0)
theorem half_zero (l : List (Int × Int)) : half l 0 = List.replicate l.length (0, 0) := by simp [half]
theorem half_all (l : List (Int × Int)) : half l l.length = l := by simp [half]
theorem half_set (l : List (Int × Int)) (k : Nat) (h : k < l.length) : (half l k).set k ((l[k]).1, (l[k]).2) = half l (k + 1) := by
  unfold half
  rw [List.take_succ_eq_append_getElem h, show l.length - k = (l.length - (k + 1)) + 1 by omega, List.replicate_succ, List.append_assoc]
  have e : (l.take k).length = k := by rw [List.length_take]; omega
  rw [List.set_append_right _ _ (by omega), e, Nat.sub_self]
  rfl
theorem half_get (l : List (Int × Int)) (k : Nat) (h : k < l.length) : k < (half l k).length := by
  unfold half; simp; omega

theorem cells_zero : ∀ n, cellsOf (List.replicate n (0, 0)) = List.replicate (n * 2) (.int .i64 0)
  | 0 => rfl
  | n + 1 => by rw [List.replicate_succ, cellsOf, cells_zero n, show (n + 1) * 2 = n * 2 + 1 + 1 by omega, List.replicate_succ, List.replicate_succ]

theorem made_zero (n : Nat) : (madeCells #[Value.int .i64 0, .int .i64 0] (n * 2)).toList = List.replicate (n * 2) (.int .i64 0) := by
  apply List.ext_getElem?
  intro j
  by_cases hj : j < n * 2
  · simp only [madeCells, List.getElem?_replicate, if_pos hj]
    have : j % 2 = 0 ∨ j % 2 = 1 := by omega
    rcases this with h | h <;> simp [hj, h]
  · rw [List.getElem?_eq_none (by simp [size_madeCells]; omega), List.getElem?_eq_none (by simp; omega)]

theorem make_pairs (n : Nat) (hl : n ≤ 2000000) (w : World) :
    (Instr.makeSlice 30 (.int .i64 (n : Int)) (.int .i64 (n : Int))).run Tryz.prog w = .ok (.slice (some ⟨w.heap.size, 0, none⟩) n n) (w.alloc (.cells (madeCells #[.int .i64 0, .int .i64 0] (n * 2)) 32)) := by
  obtain ⟨i0, hi, hz0, hz1, hz2⟩ := info_parts info_bit
  have h := run_make (P := Tryz.prog) w 30 32 i0 (.agg #[.int .i64 0, .int .i64 0]) Tryz.underlying30 hi hz0 .i64 .i64 (n : Int) (n : Int) (by omega) (by omega) (by rw [hz2]; omega) (by omega)
  rw [h, Int.toNat_natCast, hz1]
  rfl

theorem own_made (w : World) (l : List (Int × Int)) (hl : l.length ≤ 2000000) : OwnP (w.alloc (.cells (madeCells #[.int .i64 0, .int .i64 0] (l.length * 2)) 32)) w.heap.size (.slice (some ⟨w.heap.size, 0, none⟩) l.length l.length) l.length (half l 0) := by
  unfold OwnP
  rw [half_zero, cells_zero, ← made_zero]
  exact World.ownsRow_lit w _ l.length (Nat.le_refl _) (by unfold maxLen; omega) (by rw [size_madeCells])

end Go.Proofs.YtcgmmpfckmhahaaGreat

/- The bits of all symbols of a code, as the program makes them. -/
namespace Go.Proofs.YtcgmmpfckmhahaaGreat
open Go.RowKit

theorem Turned.cell {b c : Nat} {w w' : World} (h : Turned b w w') (hne : c ≠ b) (o : Nat) : w'.cell? ⟨c, o, none⟩ = w.cell? ⟨c, o, none⟩ := World.cell?_of_block (w := w) (a := ⟨c, o, none⟩) (h.rest c hne)
theorem OwnP.kept {w w' : World} {B n : Nat} {v : Value} {l : List (Int × Int)} (h : OwnP w B v n l) (hb : Below w.heap.size w w') : OwnP w' B v n l := h.same (fun k hk _ => hb.block k hk)

set_option maxHeartbeats 2000000 in
set_option maxRecDepth 20000 in
theorem codeBits_any (a : Option Addr) (n cap : Nat) (ls : List Int) (w : World) (h : Ints w a ls) (hn : ls.length = n) (hl : n ≤ 300) (hok : Cd.okB ls = true) :
    Calls Tryz.prog 42 #[.slice a n cap] w fun e w' => e = .returned (.slice (some ⟨w.heap.size, 0, none⟩) n n) ∧ OwnP w' w.heap.size (.slice (some ⟨w.heap.size, 0, none⟩) n n) n (Cp.all ls) ∧ Below w.heap.size w w' := by
  have hmk := fun w => make_pairs n (by omega) w
  obtain ⟨W1, hW1⟩ : ∃ W1, W1 = w.alloc (.cells (madeCells #[.int .i64 0, .int .i64 0] (n * 2)) 32) := ⟨_, rfl⟩
  have hown := own_made w (Cp.all ls) (by rw [Cp.all_len]; omega)
  rw [Cp.all_len, hn, ← hW1] at hown
  have b1 : Below w.heap.size w W1 := by rw [hW1]; exact (Below.refl _ _).alloc (Nat.le_refl _) _
  have hs1 : W1.heap.size = w.heap.size + 1 := by rw [hW1]; simp
  have hI1 := h.kept b1
  have HCM := impl_codeMake a cap n ls W1 hI1 hn (by omega)
  rw [mkB_yes hok, Mk.mk_len, hn] at HCM
  have HC : Hid (Calls Tryz.prog 68 #[.slice a n cap] W1 fun e w' => (∃ x c, e = .returned (.slice x n c) ∧ Owns w' W1.heap.size x (Mk.mk ls)) ∧ Below W1.heap.size W1 w') := HCM
  rw [hW1] at HC
  have HW1 : Hid (W1 = w.alloc (.cells (madeCells #[.int .i64 0, .int .i64 0] (n * 2)) 32)) := hW1
  have HF : Hid (OwnP W1 w.heap.size (.slice (some ⟨w.heap.size, 0, none⟩) n n) n (half (Cp.all ls) 0) ∧ Below w.heap.size w W1 ∧ W1.heap.size = w.heap.size + 1) := ⟨hown, b1, hs1⟩
  have HL : Hid (Ints w a ls ∧ ls.length = n ∧ Cd.okB ls = true) := ⟨h, hn, hok⟩
  clear HCM hown b1 hs1 hI1 h hn hok hW1
  go_enter Tryz.func42, Tryz.ntmps42
  go_wp2_with fail
  refine HC.out.mono ?_
  rintro e w2 ⟨⟨x, c, rfl, hO2⟩, b2⟩
  rw [← HW1.out] at hO2 b2
  obtain ⟨f1, f2, f3⟩ := HF.out
  have hI2 : Hid (Ints w2 a ls) := (HL.out.1.kept f2).kept b2
  have hX2 : Hid (Owns w2 (w.heap.size + 1) x (Mk.mk ls)) := by show Owns _ _ _ _; rw [← f3]; exact hO2
  have hP2 : Hid (OwnP w2 w.heap.size (.slice (some ⟨w.heap.size, 0, none⟩) n n) n (half (Cp.all ls) 0)) := f1.kept b2
  have hB2 : Hid (Below w.heap.size w w2) := f2.trans (b2.mono f2.size)
  have ha0 : Hid (∀ y, a = some y → ls ≠ [] → y.block < w.heap.size) := by
    intro y hy hne
    rcases HL.out.1 with g | ⟨b, off, e, hb, _⟩
    · exact absurd g hne
    · rw [e] at hy; cases hy; exact hb
  clear f1 f2 f3 hO2 b2 HC HF HW1 hmk
  go_wp2_with fail
  go_loopw [13] (fun i wr => ∃ k : Nat, k ≤ n ∧ i = .int .i64 k ∧ OwnP wr w.heap.size (.slice (some ⟨w.heap.size, 0, none⟩) n n) n (half (Cp.all ls) k) ∧ Turned w.heap.size w2 wr) (fun i _ => n - (intOf i).toNat)
  case atStart => exact ⟨0, Nat.zero_le _, rfl, hP2.out, Turned.refl _ _⟩
  case round =>
    obtain ⟨k, hk, rfl, hP, hT⟩ := hrel
    by_cases hlt : k < n
    · have hkl : k < ls.length := by have := HL.out.2.1; omega
      obtain ⟨V, S, hV, hS, hVb, hSb⟩ := Cp.parts HL.out.2.2 k hkl
      have hbit := Cp.bit_of hV hS
      have hka : k < (Cp.all ls).length := by rw [Cp.all_len]; exact hkl
      have hkm : k < (Mk.mk ls).length := by rw [Mk.mk_len]; exact hkl
      have hne : ls ≠ [] := by intro g; rw [g] at hkl; simp at hkl
      obtain ⟨b1, o1, e1, hb1, c1⟩ := (hI2.out).at hkl
      have hlt1 := ha0.out _ e1 hne
      rcases hX2.out with g | ⟨b2, e2, hlo2, hb2, hc2⟩
      · rw [g] at hkm; simp at hkm
      · subst e1
        subst e2
        have c2 := (hc2 k hkm).1
        have d1 : wr.cell? ⟨b1, o1 + k, none⟩ = some (.int .i64 (S : Int)) := by
          rw [hT.cell (by show b1 ≠ w.heap.size; have : b1 < w.heap.size := hlt1; omega) (o1 + k), c1, ← hS, List.getD_eq_getElem?_getD, List.getElem?_eq_getElem hkl]; rfl
        have d2 : wr.cell? ⟨b2, k, none⟩ = some (.int .i64 (V : Int)) := by
          rw [hT.cell (by omega) k, c2, ← hV, List.getD_eq_getElem?_getD, List.getElem?_eq_getElem hkm]; rfl
        have hput := hP.put (k := k) hlt ((turned V S : Nat) : Int) (S : Int)
        have hset := half_set (Cp.all ls) k hka
        rw [Cp.all_get, hbit] at hset
        rw [hset] at hput
        have hTT := (hT.set (k * 2) (.int .i64 ((turned V S : Nat) : Int))).set (k * 2 + 1) (.int .i64 (S : Int))
        have g0 : (wr.cell? ⟨w.heap.size, k * 2, none⟩).isSome = true := by
          rw [World.ownsRow.cellAt hP (k * 2) (by omega)]
          have := (cellsOf_get (half (Cp.all ls) k) k (half_get _ _ hka)).1
          rw [this]; rfl
        have g1 : (wr.cell? ⟨w.heap.size, k * 2 + 1, none⟩).isSome = true := by
          rw [World.ownsRow.cellAt hP (k * 2 + 1) (by omega)]
          have := (cellsOf_get (half (Cp.all ls) k) k (half_get _ _ hka)).2
          rw [this]; rfl
        obtain ⟨u0, hu0⟩ := Option.isSome_iff_exists.1 g0
        obtain ⟨u1, hu1⟩ := Option.isSome_iff_exists.1 g1
        have z0 := World.ownsRow.frozenAt hP (k * 2)
        have z1 := World.ownsRow.frozenAt hP (k * 2 + 1)
        have HT : Hid (∀ w : World, Calls Tryz.prog 69 #[.int .i64 (V : Int), .int .i64 (S : Int)] w fun e w' => e = .returned (.int .i64 (turned V S : Nat)) ∧ w' = w) := fun w => turnRound_any V S w (by omega) hSb
        have HN : Hid (OwnP _ w.heap.size (.slice (some ⟨w.heap.size, 0, none⟩) n n) n (half (Cp.all ls) (k + 1)) ∧ Turned w.heap.size w2 _) := ⟨hput, hTT⟩
        have hki : (k : Int) < (n : Int) := by omega
        generalize turned V S = T at *
        clear hP hT hput hTT hset hbit hV hS c1 c2 hc2 g0 g1 hb1 hb2 hka hkm
        go_wp2_with fail
        refine (HT.out _).mono ?_
        rintro e w4 ⟨rfl, hw4⟩
        have hv4 := hw4.symm
        subst hv4
        go_wp2_with fail
        go_roundw
        case rel => exact ⟨k + 1, by omega, by go_num, HN.out.1, HN.out.2⟩
        case measure => simp [intOf]; omega
    · have hk' : k = n := by omega
      subst hk'
      have hall : half (Cp.all ls) k = Cp.all ls := by
        have := half_all (Cp.all ls)
        rw [Cp.all_len, HL.out.2.1] at this; exact this
      rw [hall] at hP
      have HE : Hid (OwnP _ _ _ _ _ ∧ Below w.heap.size w _) := ⟨hP, hB2.out.trans (hT.below (Nat.le_refl _))⟩
      clear hP hT hall
      go_wp2_with fail
      go_ret
      exact ⟨rfl, HE.out.1, HE.out.2⟩
end Go.Proofs.YtcgmmpfckmhahaaGreat

/- Bytes that a call gathers in a row of its own, bit by bit. -/
namespace Go.Proofs.YtcgmmpfckmhahaaGreat
open Go.RowKit

theorem info_u8 : (Tryz.prog.info? 5).map (fun i => (i.zero, i.size, i.bytes)) = some (some (.int .u8 0), 1, 1) := by kernel_rfl

/-- bytes as they lie in memory -/
def bytesV (o : List Nat) : List Value := o.map fun x : Nat => Value.int .u8 (x : Int)
theorem bytesV_len (o : List Nat) : (bytesV o).length = o.length := by simp [bytesV]
theorem bytesV_get (o : List Nat) (j : Nat) (h : j < o.length) : (bytesV o)[j]? = some (.int .u8 ((o.getD j 0 : Nat) : Int)) := by
  simp [bytesV, h]
theorem bytesV_set (o : List Nat) (j x : Nat) : (bytesV o).set j (.int .u8 (x : Int)) = bytesV (o.set j x) := by simp [bytesV, List.map_set]
theorem bytesV_snoc (o : List Nat) : bytesV o ++ [.int .u8 0] = bytesV (o ++ [0]) := by simp [bytesV]

/-- the slice v owns the bytes o, L of them -/
def OwnB (w : World) (B : Nat) (v : Value) (L : Nat) (o : List Nat) : Prop := w.ownsRow B 5 1 v L (bytesV o)

theorem OwnB.len {w : World} {B L : Nat} {v : Value} {o : List Nat} (h : OwnB w B v L o) : o.length = L := by
  have := h.1
  rw [bytesV_len] at this; omega

theorem own_room {w : World} {B L g cap : Nat} {o : List Nat} {N : Nat} (h8 : N % 8 = 0) (h : w.ownsRow B 5 1 (.slice (some ⟨g, 0, none⟩) (L + 1) cap) (L + 1) (bytesV o ++ [.int .u8 0])) : OwnB w B (.slice (some ⟨g, 0, none⟩) (L + 1) cap) (L + 1) (Bp.room N o) := by
  unfold OwnB Bp.room
  rw [if_pos h8, ← bytesV_snoc]
  exact h

/-- the byte that the next bit goes into -/
theorem OwnB.cell {w : World} {B g j L cap : Nat} {o : List Nat} (h : OwnB w B (.slice (some ⟨g, 0, none⟩) L cap) L o) (hj : j < L) : w.cell? ⟨g, j, none⟩ = some (.int .u8 ((o.getD j 0 : Nat) : Int)) := by
  have := World.ownsRow.cellAt h j (by omega)
  rw [this, bytesV_get _ _ (by rw [h.len]; omega)]

theorem OwnB.free {w : World} {B g L cap : Nat} {o : List Nat} (h : OwnB w B (.slice (some ⟨g, 0, none⟩) L cap) L o) (j : Nat) : w.frozen? ⟨g, j, none⟩ = false := World.ownsRow.frozenAt h j

theorem OwnB.put {w : World} {B g L cap : Nat} {o : List Nat} (h : OwnB w B (.slice (some ⟨g, 0, none⟩) L cap) L o) (j y : Nat) : OwnB (w.setCell ⟨g, j, none⟩ (.int .u8 (y : Int))) B (.slice (some ⟨g, 0, none⟩) L cap) L (o.set j y) := by
  have := (World.ownsRow.stored h j (.int .u8 (y : Int))).1
  rw [bytesV_set] at this
  exact this

theorem OwnB.drew {w : World} {B L : Nat} {v : Value} {o : List Nat} (h : OwnB w B v L o) : OwnB w.drew B v L o := h

/-- one bit more -/
theorem OwnB.step {w : World} {B g j L cap N : Nat} {hi : Bool} {f : Nat → Nat} (h : OwnB w B (.slice (some ⟨g, 0, none⟩) L cap) L (Bp.room N (Bp.pack hi f N))) (hj : j = N / 8) {y : Nat} (hy : y = (Bp.room N (Bp.pack hi f N)).getD j 0 + f N * 2 ^ Bg.spot hi N) :
    OwnB (w.setCell ⟨g, j, none⟩ (.int .u8 (y : Int))) B (.slice (some ⟨g, 0, none⟩) L cap) L (Bp.pack hi f (N + 1)) := by
  have := h.put j y
  rw [hy, hj] at this
  rw [hy, hj]
  exact this

theorem text_nil (w : World) : Sem.run Tryz.prog (convert 27 9 (.slice none 0 0)) w = .ok (.string ⟨#[]⟩) w := by kernel_rfl

/-- the text of all -/
theorem OwnB.text {w : World} {B L : Nat} {v : Value} {o : List Nat} (h : OwnB w B v L o) : ∃ cap, ∃ ao, v = .slice ao L cap ∧
    Sem.run Tryz.prog (convert 27 9 (.slice ao L cap)) w = .ok (.string ⟨(o.map UInt8.ofNat).toArray⟩) w := by
  have hl := h.len
  rcases h.2 with ⟨rfl, h0⟩ | ⟨g, cap, cur, rfl, _, hg, _, _, _, ht⟩
  · subst h0
    refine ⟨0, none, rfl, ?_⟩
    have : o = [] := List.eq_nil_of_length_eq_zero hl
    subst this
    exact text_nil w
  · refine ⟨cap, some ⟨g, 0, none⟩, rfl, ?_⟩
    subst hl
    refine run_text w ⟨g, 0, none⟩ cap o ?_
    intro j v hj
    have := (World.ownsRow.cells h rfl) j v hj
    exact this

/-- an empty row, just laid -/
theorem own_empty (w : World) : OwnB (w.alloc (.cells #[] 5)) w.heap.size (.slice (some ⟨w.heap.size, 0, none⟩) 0 0) 0 [] :=
  World.ownsRow_lit w #[] 0 (Nat.le_refl _) (by decide) rfl
end Go.Proofs.YtcgmmpfckmhahaaGreat

/- Which comes first: the two closures, and who makes them. -/
namespace Go.Proofs.YtcgmmpfckmhahaaGreat
open Go.RowKit

set_option maxHeartbeats 400000 in
theorem order_high (i size : Int) (w : World) (h0 : 0 ≤ i) (h1 : i ≤ size) (h2 : size ≤ 1000) :
    Calls Tryz.prog 54 #[.int .i64 i, .int .i64 size] w fun e w' => e = .returned (.int .i64 (size - 1 - i)) ∧ w' = w := by
  go_enter Tryz.func54, Tryz.ntmps54
  go_wp2
  go_ret
  exact ⟨rfl, rfl⟩

set_option maxHeartbeats 400000 in
theorem order_low (i size : Int) (w : World) :
    Calls Tryz.prog 55 #[.int .i64 i, .int .i64 size] w fun e w' => e = .returned (.int .i64 i) ∧ w' = w := by
  go_enter Tryz.func55, Tryz.ntmps55
  go_wp2
  go_ret
  exact ⟨rfl, rfl⟩

set_option maxHeartbeats 400000 in
theorem orderOf_high (w : World) :
    Calls Tryz.prog 29 #[.bool true] w fun e w' => e = .returned (.func (.func 54) #[] #[]) ∧ w' = w := by
  go_enter Tryz.func29, Tryz.ntmps29
  go_wp2
  go_ret
  exact ⟨rfl, rfl⟩

set_option maxHeartbeats 400000 in
theorem orderOf_low (w : World) :
    Calls Tryz.prog 29 #[.bool false] w fun e w' => e = .returned (.func (.func 55) #[] #[]) ∧ w' = w := by
  go_enter Tryz.func29, Tryz.ntmps29
  go_wp2
  go_ret
  exact ⟨rfl, rfl⟩

end Go.Proofs.YtcgmmpfckmhahaaGreat

/- Bits of a text as the program reads them: a reader behind an interface. -/
namespace Go.Proofs.YtcgmmpfckmhahaaGreat
open Go.RowKit

/-- the closure that tells which comes first -/
def ordV (hi : Bool) : Value := .func (.func (if hi then 54 else 55)) #[] #[]

/-- a reader of bits in block B, at bit p -/
structure Reads (w : World) (B : Nat) (hi : Bool) (s : ByteArray) (p : Nat) : Prop where
  c0 : w.cell? ⟨B, 0, none⟩ = some (ordV hi)
  c1 : w.cell? ⟨B, 1, none⟩ = some (.string s)
  c2 : w.cell? ⟨B, 2, none⟩ = some (.int .i64 (p : Int))
  f2 : w.frozen? ⟨B, 2, none⟩ = false

theorem Reads.drewN {w : World} {B p : Nat} {hi : Bool} {s : ByteArray} (h : Reads w B hi s p) (m : Nat) : Reads (w.drewN m) B hi s p := ⟨h.c0, h.c1, h.c2, h.f2⟩
theorem Reads.drew {w : World} {B p : Nat} {hi : Bool} {s : ByteArray} (h : Reads w B hi s p) : Reads w.drew B hi s p := ⟨h.c0, h.c1, h.c2, h.f2⟩

end Go.Proofs.YtcgmmpfckmhahaaGreat

/- Bits packed into bytes, as the program does it: a writer behind an interface. -/
namespace Go.Proofs.YtcgmmpfckmhahaaGreat
open Go.RowKit

/-- a writer of bits in block B: N bits of f are written -/
structure Writes (w : World) (B : Nat) (hi : Bool) (f : Nat → Nat) (N : Nat) : Prop where
  c0 : w.cell? ⟨B, 0, none⟩ = some (ordV hi)
  c1 : ∃ v L, w.cell? ⟨B, 1, none⟩ = some v ∧ OwnB w (B + 1) v L (Bp.pack hi f N) ∧ L = (N + 7) / 8
  c2 : w.cell? ⟨B, 2, none⟩ = some (.int .i64 (N : Int))
  f1 : w.frozen? ⟨B, 1, none⟩ = false
  f2 : w.frozen? ⟨B, 2, none⟩ = false
  lt : B < w.heap.size

theorem u8_or_nat (a b : Nat) (ha : a < 256) (hb : b < 256) : bits .or .u8 (a : Int) (b : Int) = ((a ||| b : Nat) : Int) := by
  have hx : a ||| b < 2 ^ 8 := Nat.or_lt_two_pow (by omega) (by omega)
  show IntKind.u8.wrap ((BitVec.ofInt 8 (a : Int) ||| BitVec.ofInt 8 (b : Int)).toNat : Int) = _
  have e : ∀ c : Nat, c < 256 → (BitVec.ofInt 8 (c : Int)).toNat = c := by
    intro c hc
    rw [BitVec.ofInt_natCast, BitVec.toNat_ofNat]; exact Nat.mod_eq_of_lt (by omega)
  rw [BitVec.toNat_or, e a ha, e b hb]
  simp [IntKind.wrap, IntKind.bits, IntKind.signed]; omega

theorem wrap_u8_nat' (a : Nat) (ha : a < 256) : IntKind.u8.wrap (a : Int) = (a : Int) := by
  simp [IntKind.wrap, IntKind.bits, IntKind.signed]; omega

set_option maxHeartbeats 400000 in
theorem wroom_any (B N : Nat) (hi : Bool) (f : Nat → Nat) (w : World) (h : Writes w B hi f N) (hN : N ≤ 72000) :
    Calls Tryz.prog 120 #[.pointer (some ⟨B, 0, none⟩)] w fun e w' => e = .returned (.int .i64 (72000 - (N : Int))) ∧ w' = w := by
  have h2 := h.c2
  clear h
  go_enter Tryz.func120, Tryz.ntmps120
  go_wp2_with fail
  go_ret
  exact ⟨rfl, rfl⟩

/-- behind the last store the writer is one bit further -/
theorem Writes.next {w : World} {B g j L cap N y : Nat} {hi : Bool} {f : Nat → Nat} {o : List Nat} (h0 : w.cell? ⟨B, 0, none⟩ = some (ordV hi)) (h1 : w.cell? ⟨B, 1, none⟩ = some (.slice (some ⟨g, 0, none⟩) L cap)) (h2 : w.cell? ⟨B, 2, none⟩ = some (.int .i64 (N : Int))) (hf1 : w.frozen? ⟨B, 1, none⟩ = false) (hf2 : w.frozen? ⟨B, 2, none⟩ = false) (hlt : B < w.heap.size) (hg : B < g)
    (hown : OwnB w (B + 1) (.slice (some ⟨g, 0, none⟩) L cap) L o) (ho : o = Bp.room N (Bp.pack hi f N)) (hj : j = N / 8) (hL : L = (N + 1 + 7) / 8) (hy : y = o.getD j 0 + f N * 2 ^ Bg.spot hi N) :
    Writes ((w.setCell ⟨g, j, none⟩ (.int .u8 (y : Int))).setCell ⟨B, 2, none⟩ (.int .i64 ((N : Int) + 1))) B hi f (N + 1) := by
  subst ho
  have hs := hown.step hj hy
  have hne : ∀ o', ¬ ((⟨g, j, none⟩ : Addr) = ⟨B, o', none⟩) := fun o' e => absurd (congrArg Addr.block e) (show ¬ g = B by omega)
  refine ⟨?_, ⟨.slice (some ⟨g, 0, none⟩) L cap, L, ?_, ?_, hL⟩, ?_, ?_, ?_, ?_⟩
  · rw [World.cell?_setCell_other _ _ _ _ (fun e => absurd (congrArg Addr.off e) (show ¬ (2 : Nat) = 0 by omega)), World.cell?_setCell_other _ _ _ _ (hne 0)]; exact h0
  · rw [World.cell?_setCell_other _ _ _ _ (fun e => absurd (congrArg Addr.off e) (show ¬ (2 : Nat) = 1 by omega)), World.cell?_setCell_other _ _ _ _ (hne 1)]; exact h1
  · exact ownsRow_setCell_below hs (by show B < B + 1; omega) _
  · have : (w.setCell ⟨g, j, none⟩ (.int .u8 (y : Int))).cell? ⟨B, 2, none⟩ = some (.int .i64 (N : Int)) := by
      rw [World.cell?_setCell_other _ _ _ _ (hne 2)]; exact h2
    rw [World.cell?_setCell_same _ _ _ this]; rfl
  · rw [World.frozen?_setCell, World.frozen?_setCell]; exact hf1
  · rw [World.frozen?_setCell, World.frozen?_setCell]; exact hf2
  · simp; exact hlt
end Go.Proofs.YtcgmmpfckmhahaaGreat

/- Plain mathematics of the Adler sum: a fold over bytes, its bounds, and how it goes on. -/
namespace Go.Proofs.YtcgmmpfckmhahaaGreat
namespace Ad

def stepA (a : Int) (c : UInt8) : Int := (a + (c.toNat : Int)) % 65521
def stepB (a b : Int) (c : UInt8) : Int := (b + stepA a c) % 65521

def fin (p : Int × Int) : List UInt8 → Int × Int
  | [] => p
  | c :: l => fin (stepA p.1 c, stepB p.1 p.2 c) l

theorem fin_append (l m : List UInt8) : ∀ p, fin p (l ++ m) = fin (fin p l) m := by
  induction l with
  | nil => intro p; rfl
  | cons c l ih => intro p; exact ih _

theorem fin_snoc (p : Int × Int) (l : List UInt8) (c : UInt8) :
    fin p (l ++ [c]) = (stepA (fin p l).1 c, stepB (fin p l).1 (fin p l).2 c) := by
  rw [fin_append]; rfl

theorem fin_bounds (l : List UInt8) : ∀ p : Int × Int, 0 ≤ p.1 → p.1 ≤ 65520 → 0 ≤ p.2 → p.2 ≤ 65520 →
    (0 ≤ (fin p l).1 ∧ (fin p l).1 ≤ 65520) ∧ (0 ≤ (fin p l).2 ∧ (fin p l).2 ≤ 65520) := by
  induction l with
  | nil => intro p a b c d; exact ⟨⟨a, b⟩, c, d⟩
  | cons c l ih =>
    intro p h1 h2 h3 h4
    apply ih
    all_goals simp only [stepA, stepB]
    all_goals omega

/-- whether a sum may be gone on with -/
def okB (sum : Int) (n : Nat) : Bool :=
  decide (0 ≤ sum) && decide (sum ≤ 4294967295) && decide (sum % 65536 ≤ 65520) && decide (sum / 65536 ≤ 65520) && decide (n ≤ 9000)

/-- the sum of a text, gone on with -/
def more (sum : Int) (l : List UInt8) : Int :=
  if okB sum l.length = true then (fin (sum % 65536, sum / 65536) l).2 * 65536 + (fin (sum % 65536, sum / 65536) l).1 else 0

theorem more_no {sum : Int} {l : List UInt8} (h : okB sum l.length = false) : more sum l = 0 := by
  unfold more; rw [h]; rfl

theorem more_yes {sum : Int} {l : List UInt8} (h : okB sum l.length = true) :
    more sum l = (fin (sum % 65536, sum / 65536) l).2 * 65536 + (fin (sum % 65536, sum / 65536) l).1 := by
  unfold more; rw [if_pos h]

theorem more_bounds (sum : Int) (l : List UInt8) : 0 ≤ more sum l ∧ more sum l ≤ 4294967295 := by
  unfold more
  split
  · rename_i h
    simp [okB] at h
    have hb := fin_bounds l (sum % 65536, sum / 65536) (by omega) (by omega) (by omega) (by omega)
    omega
  · omega

theorem okB_iff (sum : Int) (n : Nat) : okB sum n = true ↔ 0 ≤ sum ∧ sum ≤ 4294967295 ∧ sum % 65536 ≤ 65520 ∧ sum / 65536 ≤ 65520 ∧ n ≤ 9000 := by
  unfold okB; simp [and_assoc]

end Ad
end Go.Proofs.YtcgmmpfckmhahaaGreat

/- What the functions of the Adler sum return, for every sum and every text. -/
namespace Go.Proofs.YtcgmmpfckmhahaaGreat
open Go.RowKit

set_option maxHeartbeats 400000 in
theorem spec_adler_no (sum : Int) (s : ByteArray) (w : World) (hs : s.size ≤ maxLen) (hl : -9223372036854775807 ≤ sum + 1) (hh : sum ≤ 9223372036854775807)
    (h : Ad.okB sum s.size = false) :
    Calls Tryz.prog 20 #[.int .i64 sum, .string s] w fun e w' => e = .returned (.int .i64 0) ∧ w' = w := by
  unfold maxLen at hs
  have h' : ¬ (0 ≤ sum ∧ sum ≤ 4294967295 ∧ sum % 65536 ≤ 65520 ∧ sum / 65536 ≤ 65520 ∧ s.size ≤ 9000) := by
    intro g; rw [(Ad.okB_iff _ _).2 g] at h; cases h
  clear h
  by_cases h0 : sum < 0
  · have hd : decide (0 ≤ sum) = false := by simpa using h0
    go_enter Tryz.func20, Tryz.ntmps20
    go_wp2
    go_ret
    exact ⟨rfl, rfl⟩
  · have h0' : 0 ≤ sum := by omega
    by_cases h1 : 4294967295 < sum
    · have hd : decide (sum ≤ 4294967295) = false := by simpa using h1
      clear h'
      go_enter Tryz.func20, Tryz.ntmps20
      go_wp2
      go_ret
      exact ⟨rfl, rfl⟩
    · have h1' : sum ≤ 4294967295 := by omega
      by_cases h2 : 65520 < sum % 65536
      · clear h'
        go_enter Tryz.func20, Tryz.ntmps20
        go_wp2
        go_ret
        exact ⟨rfl, rfl⟩
      · have h2' : sum % 65536 ≤ 65520 := by omega
        have hd2 : decide (65520 < sum % 65536) = false := by simpa using h2'
        by_cases h3 : 65520 < sum / 65536
        · clear h'
          go_enter Tryz.func20, Tryz.ntmps20
          go_wp2
          go_ret
          exact ⟨rfl, rfl⟩
        · have h3' : sum / 65536 ≤ 65520 := by omega
          have hd3 : decide (65520 < sum / 65536) = false := by simpa using h3'
          have h4 : 9000 < s.size := by omega
          clear h' h0 h1 h2 h3
          go_enter Tryz.func20, Tryz.ntmps20
          go_wp2
          go_ret
          exact ⟨rfl, rfl⟩

set_option maxHeartbeats 400000 in
theorem spec_adler_yes (sum : Int) (s : ByteArray) (w : World) (h : Ad.okB sum s.size = true) :
    Calls Tryz.prog 20 #[.int .i64 sum, .string s] w fun e w' => e = .returned (.int .i64 (Ad.more sum s.data.toList)) ∧ w' = w := by
  have hm := Ad.more_yes (sum := sum) (l := s.data.toList) (by simpa using h)
  rw [hm]; clear hm
  obtain ⟨h0, h1, h2, h3, h4⟩ := (Ad.okB_iff _ _).1 h
  clear h
  have hd2 : decide (65520 < sum % 65536) = false := by simpa using h2
  have hd3 : decide (65520 < sum / 65536) = false := by simpa using h3
  go_enter Tryz.func20, Tryz.ntmps20
  go_wp2
  go_loop [5, 6, 7] (fun a b i => ∃ k : Nat, k ≤ s.size ∧ i = .int .i64 k ∧ a = .int .i64 (Ad.fin (sum % 65536, sum / 65536) (s.data.toList.take k)).1 ∧ b = .int .i64 (Ad.fin (sum % 65536, sum / 65536) (s.data.toList.take k)).2) (fun _ _ i => s.size - (intOf i).toNat)
  case atStart => exact ⟨0, Nat.zero_le _, rfl, rfl, rfl⟩
  case round =>
    obtain ⟨k, hk, rfl, rfl, rfl⟩ := hrel
    have hb := Ad.fin_bounds (s.data.toList.take k) (sum % 65536, sum / 65536) (by omega) (by omega) (by omega) (by omega)
    obtain ⟨⟨b1, b2⟩, b3, b4⟩ := hb
    by_cases hlt : k < s.size
    · have hsn := Ad.fin_snoc (sum % 65536, sum / 65536) (s.data.toList.take k) s[k]
      have hts := take_snoc s k hlt
      rw [← hts] at hsn
      have HS : Hid (Ad.fin (sum % 65536, sum / 65536) (s.data.toList.take (k + 1)) = _) := hsn
      clear hsn hts
      have hc : ((s[k]).toNat : Int) ≤ 255 := by have := UInt8.toNat_lt s[k]; omega
      go_wp2
      go_round
      case rel => exact ⟨k + 1, by omega, by go_num, by rw [HS.out]; rfl, by rw [HS.out]; rfl⟩
      case measure => simp [intOf]; omega
    · go_wp2
      go_ret
      exact ⟨ret_int (by rw [List.take_of_length_le (by simp; omega)]), rfl⟩

theorem spec_adler (sum : Int) (s : ByteArray) (w : World) (hs : s.size ≤ maxLen) (hl : -9223372036854775807 ≤ sum + 1) (hh : sum ≤ 9223372036854775807) :
    Calls Tryz.prog 20 #[.int .i64 sum, .string s] w fun e w' => e = .returned (.int .i64 (Ad.more sum s.data.toList)) ∧ w' = w := by
  cases h : Ad.okB sum s.size
  · rw [Ad.more_no (by rw [bytes_len]; exact h)]; exact spec_adler_no sum s w hs hl hh h
  · exact spec_adler_yes sum s w h

/-- 'b << 16 ' joined with a low part -/
theorem or_join (a b : Int) (h1 : 0 ≤ a) (h2 : a ≤ 65535) (h3 : 0 ≤ b) (h4 : b ≤ 65535) : bits .or .i64 (b * 65536) a = b * 65536 + a := by
  obtain ⟨A, rfl⟩ := Int.eq_ofNat_of_zero_le h1
  obtain ⟨B, rfl⟩ := Int.eq_ofNat_of_zero_le h3
  have e : ((B : Int) * 65536) = ((B * 65536 : Nat) : Int) := by omega
  rw [e, i64_or_nat _ _ (by omega) (by omega), nat_join 16 (B * 65536) A (by omega) (by omega)]
  omega

theorem and_low (a : Int) (h1 : 0 ≤ a) (h2 : a ≤ 4294967295) : bits .and .i64 a 65535 = a % 65536 := by
  obtain ⟨A, rfl⟩ := Int.eq_ofNat_of_zero_le h1
  have := i64_and_nat A 65535 (by omega) (by omega)
  rw [show ((65535 : Nat) : Int) = 65535 from rfl] at this
  rw [this, Nat.and_two_pow_sub_one_eq_mod A 16]
  omega

set_option maxHeartbeats 400000 in
theorem adNumber (a b : Int) (w : World) (h1 : 0 ≤ a) (h2 : a ≤ 65520) (h3 : 0 ≤ b) (h4 : b ≤ 65520) :
    Calls Tryz.prog 59 #[.agg #[.int .i64 a, .int .i64 b]] w fun e w' => e = .returned (.int .i64 (b * 65536 + a)) ∧ Below w.heap.size w w' := by
  go_enter Tryz.func59, Tryz.ntmps59
  go_wp2
  go_ret
  refine ⟨ret_int ?_, (Below.refl _ _).alloc (Nat.le_refl _) _⟩
  exact or_join a b h1 (by omega) h3 (by omega)

set_option maxHeartbeats 400000 in
theorem adOk (a b : Int) (w : World) (h1 : a ≤ 65520) (h2 : b ≤ 65520) :
    Calls Tryz.prog 57 #[.agg #[.int .i64 a, .int .i64 b]] w fun e w' => e = .returned (.bool true) ∧ Below w.heap.size w w' := by
  have hd : decide (b < 65521) = true := by simp; omega
  go_enter Tryz.func57, Tryz.ntmps57
  go_wp2
  go_ret
  exact ⟨rfl, (Below.refl _ _).alloc (Nat.le_refl _) _⟩

set_option maxHeartbeats 400000 in
theorem adOk_no (a b : Int) (w : World) (h1 : 65520 < a ∨ 65520 < b) :
    Calls Tryz.prog 57 #[.agg #[.int .i64 a, .int .i64 b]] w fun e w' => e = .returned (.bool false) ∧ Below w.heap.size w w' := by
  by_cases ha : 65520 < a
  · have hd : decide (a < 65521) = false := by simp; omega
    clear h1
    go_enter Tryz.func57, Tryz.ntmps57
    go_wp2
    go_ret
    exact ⟨rfl, (Below.refl _ _).alloc (Nat.le_refl _) _⟩
  · have hd : decide (b < 65521) = false := by simp; omega
    have ha' : a < 65521 := by omega
    clear h1 ha
    go_enter Tryz.func57, Tryz.ntmps57
    go_wp2
    go_ret
    exact ⟨rfl, (Below.refl _ _).alloc (Nat.le_refl _) _⟩

set_option maxHeartbeats 400000 in
theorem adMore (a b : Int) (s : ByteArray) (w : World) (hs : s.size ≤ maxLen) (h1 : 0 ≤ a) (h2 : a ≤ 65520) (h3 : 0 ≤ b) (h4 : b ≤ 65520) :
    Calls Tryz.prog 58 #[.agg #[.int .i64 a, .int .i64 b], .string s] w fun e w' => e = .returned (.agg #[.int .i64 (Ad.fin (a, b) s.data.toList).1, .int .i64 (Ad.fin (a, b) s.data.toList).2]) ∧ Below w.heap.size w w' := by
  unfold maxLen at hs
  go_enter Tryz.func58, Tryz.ntmps58
  go_wp2
  go_loopw [8] (fun i wr => ∃ k n : Nat, k ≤ s.size ∧ i = .int .i64 k ∧ wr = ((w.alloc (.cells #[.int .i64 (Ad.fin (a, b) (s.data.toList.take k)).1, .int .i64 (Ad.fin (a, b) (s.data.toList.take k)).2] 90)).alloc (.cells #[.int .i64 0, .int .i64 0] 90)).drewN n) (fun i _ => s.size - (intOf i).toNat)
  case atStart => exact ⟨0, 0, Nat.zero_le _, rfl, rfl⟩
  case round =>
    obtain ⟨k, n, hk, rfl, rfl⟩ := hrel
    have hb := Ad.fin_bounds (s.data.toList.take k) (a, b) (by omega) (by omega) (by omega) (by omega)
    obtain ⟨⟨b1, b2⟩, b3, b4⟩ := hb
    by_cases hlt : k < s.size
    · have hsn := Ad.fin_snoc (a, b) (s.data.toList.take k) s[k]
      have hts := take_snoc s k hlt
      rw [← hts] at hsn
      have HS : Hid (Ad.fin (a, b) (s.data.toList.take (k + 1)) = _) := hsn
      clear hsn hts
      have hc : ((s[k]).toNat : Int) ≤ 255 := by have := UInt8.toNat_lt s[k]; omega
      generalize Ad.fin (a, b) (List.take k s.data.toList) = q at *
      go_wp2
      go_region
      all_goals go_wp2
      go_roundw
      case rel => exact ⟨k + 1, n + 1, by omega, by go_num, by rw [two_store, HS.out]; simp [Ad.stepA, Ad.stepB]⟩
      case measure => simp [intOf]; omega
    · have hall : s.data.toList.take k = s.data.toList := List.take_of_length_le (by simp; omega)
      rw [hall]; clear hall
      go_wp2
      exact bodyPost_ret (v := .agg #[.int .i64 (Ad.fin (a, b) s.data.toList).1, .int .i64 (Ad.fin (a, b) s.data.toList).2]) (by simp [results, Tryz.results58, go_sem]) rfl ⟨rfl, ((below_drewN (((Below.refl _ _).alloc (Nat.le_refl _) _).alloc (by simp) _) _).setCell (by simp) _).setCell (by simp) _⟩

set_option maxHeartbeats 400000 in
theorem sumOk_yes (sum : Int) (s : ByteArray) (w : World) (h0 : 0 ≤ sum) (h1 : sum ≤ 4294967295) (h2 : s.size ≤ 9000) :
    Calls Tryz.prog 56 #[.int .i64 sum, .string s] w fun e w' => e = .returned (.bool true) ∧ w' = w := by
  have hd : decide ((s.size : Int) ≤ 9000) = true := by simp; omega
  go_enter Tryz.func56, Tryz.ntmps56
  go_wp2
  go_ret
  exact ⟨rfl, rfl⟩

set_option maxHeartbeats 400000 in
theorem sumOk_no (sum : Int) (s : ByteArray) (w : World) (hs : s.size ≤ maxLen) (h : sum < 0 ∨ 4294967295 < sum ∨ 9000 < s.size) :
    Calls Tryz.prog 56 #[.int .i64 sum, .string s] w fun e w' => e = .returned (.bool false) ∧ w' = w := by
  unfold maxLen at hs
  by_cases h0 : sum < 0
  · have hd : decide (0 ≤ sum) = false := by simp; omega
    clear h
    go_enter Tryz.func56, Tryz.ntmps56
    go_wp2
    go_ret
    exact ⟨rfl, rfl⟩
  · have h0' : 0 ≤ sum := by omega
    clear h0
    by_cases h1 : 4294967295 < sum
    · have hd : decide (sum ≤ 4294967295) = false := by simp; omega
      clear h
      go_enter Tryz.func56, Tryz.ntmps56
      go_wp2
      go_ret
      exact ⟨rfl, rfl⟩
    · have h1' : sum ≤ 4294967295 := by omega
      have hd : decide ((s.size : Int) ≤ 9000) = false := by simp; omega
      clear h h1
      go_enter Tryz.func56, Tryz.ntmps56
      go_wp2
      go_ret
      exact ⟨rfl, rfl⟩

set_option maxHeartbeats 400000 in
theorem impl_adler_yes (sum : Int) (s : ByteArray) (w : World) (h : Ad.okB sum s.size = true) :
    Calls Tryz.prog 30 #[.int .i64 sum, .string s] w fun e w' => e = .returned (.int .i64 (Ad.more sum s.data.toList)) ∧ Below w.heap.size w w' := by
  have hm := Ad.more_yes (sum := sum) (l := s.data.toList) (by simpa using h)
  rw [hm]; clear hm
  obtain ⟨h0, h1, h2, h3, h4⟩ := (Ad.okB_iff _ _).1 h
  clear h
  have hb := Ad.fin_bounds s.data.toList (sum % 65536, sum / 65536) (by omega) (by omega) (by omega) (by omega)
  obtain ⟨⟨b1, b2⟩, b3, b4⟩ := hb
  have hand := and_low sum h0 h1
  go_enter Tryz.func30, Tryz.ntmps30
  go_wp2_with fail
  refine (sumOk_yes sum s _ h0 h1 h4).mono ?_
  rintro e w1 ⟨rfl, rfl⟩
  go_wp2_with fail
  refine (adOk _ _ _ h2 h3).mono ?_
  rintro e w1 ⟨rfl, bel1⟩
  have c0 : w1.cell? ⟨w.heap.size, 0, none⟩ = some (.int .i64 (sum % 65536)) := (bel1.cell (by simp)).trans (by simp)
  have c1 : w1.cell? ⟨w.heap.size, 1, none⟩ = some (.int .i64 (sum / 65536)) := (bel1.cell (by simp)).trans (by simp)
  have bel : Below w.heap.size w w1 := ((Below.refl _ _).alloc (Nat.le_refl _) _).trans (bel1.mono (by simp))
  clear bel1
  go_wp2_with fail
  refine (adMore _ _ s _ (by unfold maxLen; omega) (by omega) h2 (by omega) h3).mono ?_
  rintro e w2 ⟨rfl, bel2⟩
  go_wp2_with fail
  refine (adNumber _ _ _ b1 b2 b3 b4).mono ?_
  rintro e w3 ⟨rfl, bel3⟩
  go_wp2_with fail
  go_ret
  exact ⟨rfl, bel.trans ((bel2.mono bel.size).trans (bel3.mono (Nat.le_trans bel.size bel2.size)))⟩

set_option maxHeartbeats 400000 in
theorem impl_adler_no (sum : Int) (s : ByteArray) (w : World) (hs : s.size ≤ maxLen) (hl : -9223372036854775807 ≤ sum + 1) (hh : sum ≤ 9223372036854775807)
    (h : Ad.okB sum s.size = false) :
    Calls Tryz.prog 30 #[.int .i64 sum, .string s] w fun e w' => e = .returned (.int .i64 0) ∧ Below w.heap.size w w' := by
  have h' : ¬ (0 ≤ sum ∧ sum ≤ 4294967295 ∧ sum % 65536 ≤ 65520 ∧ sum / 65536 ≤ 65520 ∧ s.size ≤ 9000) := by
    intro g; rw [(Ad.okB_iff _ _).2 g] at h; cases h
  clear h
  by_cases hn : sum < 0 ∨ 4294967295 < sum ∨ 9000 < s.size
  · go_enter Tryz.func30, Tryz.ntmps30
    go_wp2_with fail
    refine (sumOk_no sum s _ hs hn).mono ?_
    rintro e w1 ⟨rfl, rfl⟩
    go_wp2_with fail
    go_ret
    exact ⟨rfl, (Below.refl _ _).alloc (Nat.le_refl _) _⟩
  · have h0 : 0 ≤ sum := by omega
    have h1 : sum ≤ 4294967295 := by omega
    have hno : 65520 < sum % 65536 ∨ 65520 < sum / 65536 := by omega
    have h4 : s.size ≤ 9000 := by omega
    have hand := and_low sum h0 h1
    clear hn h'
    go_enter Tryz.func30, Tryz.ntmps30
    go_wp2_with fail
    refine (sumOk_yes sum s _ h0 h1 h4).mono ?_
    rintro e w1 ⟨rfl, rfl⟩
    go_wp2_with fail
    refine (adOk_no _ _ _ hno).mono ?_
    rintro e w1 ⟨rfl, bel1⟩
    go_wp2_with fail
    go_ret
    exact ⟨rfl, ((Below.refl _ _).alloc (Nat.le_refl _) _).trans (bel1.mono (by simp))⟩

theorem impl_adler (sum : Int) (s : ByteArray) (w : World) (hs : s.size ≤ maxLen) (hl : -9223372036854775807 ≤ sum + 1) (hh : sum ≤ 9223372036854775807) :
    Calls Tryz.prog 30 #[.int .i64 sum, .string s] w fun e w' => e = .returned (.int .i64 (Ad.more sum s.data.toList)) ∧ Below w.heap.size w w' := by
  cases h : Ad.okB sum s.size
  · rw [Ad.more_no (by rw [bytes_len]; exact h)]; exact impl_adler_no sum s w hs hl hh h
  · exact impl_adler_yes sum s w h

set_option maxHeartbeats 400000 in
theorem impl_adler32 (s : ByteArray) (w : World) (hs : s.size ≤ maxLen) :
    Calls Tryz.prog 12 #[.string s] w fun e w' => e = .returned (.int .i64 (Ad.more 1 s.data.toList)) ∧ Below w.heap.size w w' := by
  go_enter Tryz.func12, Tryz.ntmps12
  go_wp2_with fail
  refine (impl_adler 1 s _ hs (by omega) (by omega)).mono ?_
  rintro e w1 ⟨rfl, bel1⟩
  go_wp2_with fail
  go_ret
  exact ⟨rfl, bel1⟩

set_option maxHeartbeats 400000 in
theorem spec_adler32 (s : ByteArray) (w : World) (hs : s.size ≤ maxLen) :
    Calls Tryz.prog 9 #[.string s] w fun e w' => e = .returned (.int .i64 (Ad.more 1 s.data.toList)) ∧ w' = w := by
  go_enter Tryz.func9, Tryz.ntmps9
  go_wp2_with fail
  refine (spec_adler 1 s _ hs (by omega) (by omega)).mono ?_
  rintro e w1 ⟨rfl, rfl⟩
  go_wp2_with fail
  go_ret
  exact ⟨rfl, rfl⟩

end Go.Proofs.YtcgmmpfckmhahaaGreat
