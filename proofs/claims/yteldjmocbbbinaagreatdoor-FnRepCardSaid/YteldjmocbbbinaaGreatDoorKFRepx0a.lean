/- Texts laid together: Base, RdWalks, OnlyB, TextWalks, DrawWalks, IntsWalks, OwnRow, IntOwn, PowWalks, DrawRow, MarkWalks, AppInts, SeqColl, PtsWalks, BoxWalks, DrawnWalks, WithinWalks, DepWalks, ImgDef, ImgCol, ImgOk, ImgOk2, ImgOk3, InWalks, ImgSpec, ImgSpec2, ImgSpec3, AtWalks, PlainView, BlankSpec, ImgBox, ImgCopy, AppOne, SpBox, MarkBase, MarkRow, MarkFrom, PicLaw, RepHold, FmMath, FmFind, RowCode, SixRow, ImplFlip, PicOk, WiImage, PicMath, FlipMath. -/
import Derived.WalkKit
import Derived.WalkSpells
import Derived.WalkLawsBesides
import Derived.Laws.CopyOwn
import Derived.Deep.QuietTactic
import Derived.BigQuiet
import Derived.BigRegion
import Derived.Deep.RegionWith
import Derived.OpenShut
import Derived.Test.YteldjmocbbbinaaGreatDoorProg
import Derived.Laws.BytesString
import Derived.Below
import Derived.Laws.MakeOwn
import Derived.Deep.AppendLies
import Derived.Laws.OwnMore
import Derived.RangeFuncBox
import Derived.RangeFuncLeaves
import Derived.RangeFuncWrites
import Derived.Shelf.Abstract
import Derived.OwnWalkIn
import Derived.TacticsInMore
import Derived.LoopNIn
import Derived.LoopIn
import Derived.Maps.AppendAt
import Derived.Deep.RegionHeld3
import Derived.Laws.Tables
import Derived.Deep.DeepCutAuto
import Derived.Laws.BitsAllLaws
/- Small facts that the walks share: endings, bytes of a text, bits of a 64-bit number. -/
namespace Go.Proofs.YteldjmocbbbinaaGreatDoor
open Go.RowKit

theorem ret_int {k : IntKind} {a b : Int} (h : a = b) : Ending.returned (.int k a) = .returned (.int k b) := by rw [h]

theorem ofInt_i64 (a : Nat) (ha : a < 9223372036854775808) : (BitVec.ofInt 64 (a : Int)).toNat = a := by
  rw [BitVec.ofInt_natCast, BitVec.toNat_ofNat]; exact Nat.mod_eq_of_lt (by omega)

theorem wrap_i64_nat (a : Nat) (ha : a < 9223372036854775808) : IntKind.i64.wrap (a : Int) = (a : Int) := by
  simp [IntKind.wrap, IntKind.bits, IntKind.signed]; omega

theorem i64_xor_nat (a b : Nat) (ha : a < 9223372036854775808) (hb : b < 9223372036854775808) : bits .xor .i64 (a : Int) (b : Int) = ((a ^^^ b : Nat) : Int) := by
  have hx : a ^^^ b < 2 ^ 63 := Nat.xor_lt_two_pow (by omega) (by omega)
  show IntKind.i64.wrap ((BitVec.ofInt 64 (a : Int) ^^^ BitVec.ofInt 64 (b : Int)).toNat : Int) = _
  rw [BitVec.toNat_xor, ofInt_i64 a ha, ofInt_i64 b hb, wrap_i64_nat _ (by omega)]

end Go.Proofs.YteldjmocbbbinaaGreatDoor

/- The reader of a code, by which inputs are drawn: it stands anywhere, it picks a number below a bound, and nothing but its own place turns. -/
namespace Go.Proofs.YteldjmocbbbinaaGreatDoor
open Go.RowKit

/-- the bytes of a code, below block B -/
def Row8 (w : World) (B : Nat) (a : Option Addr) (len : Nat) : Prop :=
  len = 0 ∨ ∃ b off, a = some ⟨b, off, none⟩ ∧ b < B ∧ ∀ i, i < len → ∃ c : Nat, c < 256 ∧ w.cell? ⟨b, off + i, none⟩ = some (.int .u8 (c : Int))

/-- a reader in block B, at place p -/
def RdAt (w : World) (B p : Nat) : Prop :=
  ∃ a len cap, w.cell? ⟨B, 0, none⟩ = some (.slice a len cap) ∧ w.cell? ⟨B, 1, none⟩ = some (.int .i64 (p : Int)) ∧ w.frozen? ⟨B, 1, none⟩ = false ∧ len ≤ 2000 ∧ Row8 w B a len

theorem RdAt.step {w : World} {B p : Nat} (h : RdAt w B p) (n : Nat) : RdAt ((w.setCell ⟨B, 1, none⟩ (.int .i64 ((p + 1 : Nat) : Int))).drewN n) B (p + 1) := by
  obtain ⟨a, len, cap, h0, h1, hf, hl, hr⟩ := h
  refine ⟨a, len, cap, ?_, ?_, ?_, hl, ?_⟩
  · rw [World.cell?_drewN, World.cell?_setCell_other _ _ _ _ (by simp)]; exact h0
  · rw [World.cell?_drewN]; exact World.cell?_setCell_same _ _ _ h1
  · rw [World.frozen?_drewN, World.frozen?_setCell]; exact hf
  · rcases hr with h | ⟨b, off, rfl, hb, hc⟩
    · exact .inl h
    · refine .inr ⟨b, off, rfl, hb, fun i hi => ?_⟩
      obtain ⟨c, hc1, hc2⟩ := hc i hi
      refine ⟨c, hc1, ?_⟩
      rw [World.cell?_drewN, World.cell?_setCell_other _ _ _ _ (fun e => absurd (congrArg Addr.block e) (by show ¬ B = b; omega))]; exact hc2

theorem mix_mod (X n : Int) (h0 : 0 ≤ X) (h1 : X ≤ 1000000000000) (hn : 1 ≤ n) : ∃ v : Nat, (bits .xor .i64 X (X / 64)).tmod n = (v : Int) ∧ (v : Int) < n := by
  obtain ⟨A, rfl⟩ := Int.eq_ofNat_of_zero_le h0
  obtain ⟨N, rfl⟩ := Int.eq_ofNat_of_zero_le (show 0 ≤ n by omega)
  have e := i64_xor_nat A (A / 64) (by omega) (by omega)
  rw [show ((A / 64 : Nat) : Int) = (A : Int) / 64 from by omega] at e
  rw [e]
  refine ⟨(A ^^^ A / 64) % N, ?_, ?_⟩
  · rw [Int.tmod_eq_emod_of_nonneg (by omega)]; rfl
  · have := Nat.mod_lt (A ^^^ A / 64) (show 0 < N by omega); omega

set_option maxHeartbeats 400000 in
theorem pick_far (B p len cap b off : Nat) (n : Int) (w : World) (hn : 1 ≤ n) (hn' : n ≤ 1000000000) (hp : p ≤ 1000000000)
    (h0 : w.cell? ⟨B, 0, none⟩ = some (.slice (some ⟨b, off, none⟩) len cap)) (h1 : w.cell? ⟨B, 1, none⟩ = some (.int .i64 (p : Int))) (hf : w.frozen? ⟨B, 1, none⟩ = false) (hl : len ≤ 2000)
    (hz : ¬ len = 0) (hb : b < B) (hc : ∀ i, i < len → ∃ c : Nat, c < 256 ∧ w.cell? ⟨b, off + i, none⟩ = some (.int .u8 (c : Int))) (hlt : ¬ p < len) :
    Calls Tryz.prog 13 #[.pointer (some ⟨B, 0, none⟩), .int .i64 n] w fun e w' => ∃ v m : Nat, e = .returned (.int .i64 (v : Int)) ∧ (v : Int) < n ∧ w' = (w.setCell ⟨B, 1, none⟩ (.int .i64 ((p : Int) + 1))).drewN m := by
  have hd : decide (n < 1) = false := by simp; omega
  have hne : ((len : Int) == 0) = false := by simp; omega
  have hlt' : decide ((p : Int) < (len : Int)) = false := by simp; omega
  obtain ⟨c, hc1, hc2⟩ := hc (p % len) (Nat.mod_lt _ (by omega))
  obtain ⟨d, hd1, hd2⟩ := hc ((p * 7 + 3) % len) (Nat.mod_lt _ (by omega))
  have hw1 : (w.setCell ⟨B, 1, none⟩ (.int .i64 ((p : Int) + 1))).cell? ⟨b, off + p % len, none⟩ = some (.int .u8 (c : Int)) := by
    rw [World.cell?_setCell_other _ _ _ _ (fun e => absurd (congrArg Addr.block e) (by show ¬ B = b; omega))]; exact hc2
  have hw2 : (w.setCell ⟨B, 1, none⟩ (.int .i64 ((p : Int) + 1))).cell? ⟨b, off + (p * 7 + 3) % len, none⟩ = some (.int .u8 (d : Int)) := by
    rw [World.cell?_setCell_other _ _ _ _ (fun e => absurd (congrArg Addr.block e) (by show ¬ B = b; omega))]; exact hd2
  have m1 : (p : Int) % (len : Int) < (len : Int) := Int.emod_lt_of_pos _ (by omega)
  have m2 : 0 ≤ (p : Int) % (len : Int) := Int.emod_nonneg _ (by omega)
  have m3 : ((p : Int) * 7 + 3) % (len : Int) < (len : Int) := Int.emod_lt_of_pos _ (by omega)
  have m4 : 0 ≤ ((p : Int) * 7 + 3) % (len : Int) := Int.emod_nonneg _ (by omega)
  have m5 : (p : Int) / (len : Int) ≤ (p : Int) := Int.ediv_le_self _ (by omega)
  have m6 : 0 ≤ (p : Int) / (len : Int) := Int.ediv_nonneg (by omega) (by omega)
  clear hc hc2 hd2
  go_enter Tryz.func13, Tryz.ntmps13
  go_wp2
  go_region
  clear hw1 hw2 h0 h1 hf
  go_wp2
  go_ret
  obtain ⟨v, e, hv⟩ := mix_mod ((c : Int) * 131 + (d : Int) * 1117 + (p : Int) * 29 + (p : Int) / (len : Int) * 53) n (by omega) (by omega) hn
  exact ⟨v, 1, ret_int e, hv, rfl⟩

set_option maxHeartbeats 400000 in
theorem pick_any (B p : Nat) (n : Int) (w : World) (hr : RdAt w B p) (hn : 1 ≤ n) (hn' : n ≤ 1000000000) (hp : p ≤ 1000000000) :
    Calls Tryz.prog 13 #[.pointer (some ⟨B, 0, none⟩), .int .i64 n] w fun e w' => ∃ v m : Nat, e = .returned (.int .i64 (v : Int)) ∧ (v : Int) < n ∧ w' = (w.setCell ⟨B, 1, none⟩ (.int .i64 ((p + 1 : Nat) : Int))).drewN m := by
  obtain ⟨a, len, cap, h0, h1, hf, hl, hrow⟩ := hr
  have hd : decide (n < 1) = false := by simp; omega
  have hcast : ((p + 1 : Nat) : Int) = (p : Int) + 1 := by omega
  rw [hcast]; clear hcast
  by_cases hz : len = 0
  · subst hz
    go_enter Tryz.func13, Tryz.ntmps13
    go_wp2
    go_ret
    exact ⟨0, 0, rfl, by omega, rfl⟩
  · rcases hrow with h | ⟨b, off, rfl, hb, hc⟩
    · exact absurd h hz
    · have hne : ((len : Int) == 0) = false := by simp; omega
      by_cases hlt : p < len
      · obtain ⟨c, hc1, hc2⟩ := hc p hlt
        have hc3 : (w.setCell ⟨B, 1, none⟩ (.int .i64 ((p : Int) + 1))).cell? ⟨b, off + p, none⟩ = some (.int .u8 (c : Int)) := by
          rw [World.cell?_setCell_other _ _ _ _ (fun e => absurd (congrArg Addr.block e) (by show ¬ B = b; omega))]; exact hc2
        have hlt' : (p : Int) < (len : Int) := by omega
        clear hc hc2
        go_enter Tryz.func13, Tryz.ntmps13
        go_wp2
        go_ret
        obtain ⟨N, rfl⟩ := Int.eq_ofNat_of_zero_le (show 0 ≤ n by omega)
        exact ⟨c % N, 0, rfl, by have := Nat.mod_lt c (show 0 < N by omega); omega, rfl⟩
      · exact pick_far B p len cap b off n w hn hn' hp h0 h1 hf hl hz hb hc hlt
end Go.Proofs.YteldjmocbbbinaaGreatDoor

/- Nothing but one block turns. -/
namespace Go.Proofs.YteldjmocbbbinaaGreatDoor
open Go.RowKit

/-- nothing that was there has turned but block B -/
structure Only (B : Nat) (w w' : World) : Prop where
  below : Below B w w'
  rest : ∀ k, k < w.heap.size → k ≠ B → w'.heap[k]? = w.heap[k]?

theorem Only.refl (B : Nat) (w : World) : Only B w w := ⟨Below.refl _ _, fun _ _ _ => rfl⟩
theorem Only.trans {B : Nat} {a b c : World} (h : Only B a b) (g : Only B b c) : Only B a c :=
  ⟨h.below.trans g.below, fun k hk hB => (g.rest k (Nat.lt_of_lt_of_le hk h.below.size) hB).trans (h.rest k hk hB)⟩
theorem Only.alloc {B : Nat} {a b : World} (h : Only B a b) (hB : B < b.heap.size) (o : Obj) : Only B a (b.alloc o) :=
  ⟨h.below.alloc (Nat.le_of_lt hB) o, fun k hk hkB => (Below.heap_alloc b o k (Nat.lt_of_lt_of_le hk h.below.size)).trans (h.rest k hk hkB)⟩
theorem Only.cell {B : Nat} {w w' : World} (h : Only B w w') : ∀ k o, k < w.heap.size → k ≠ B → w'.cell? ⟨k, o, none⟩ = w.cell? ⟨k, o, none⟩ :=
  fun k o hk hB => World.cell?_of_block (w := w) (a := ⟨k, o, none⟩) (h.rest k hk hB)
theorem Only.set {B : Nat} {w w' : World} (h : Only B w w') {g : Nat} (hg : w.heap.size ≤ g) (hB : B < w.heap.size) (i : Nat) (v : Value) : Only B w (w'.setCell ⟨g, i, none⟩ v) :=
  ⟨h.below.setCell (p := ⟨g, i, none⟩) (show B ≤ g by omega) _, fun k hk hkB => (Below.heap_setCell w' ⟨g, i, none⟩ v k (by show k ≠ g; omega)).trans (h.rest k hk hkB)⟩
theorem Only.own (w : World) (B i : Nat) (v : Value) : Only B w (w.setCell ⟨B, i, none⟩ v) :=
  ⟨(Below.refl B w).setCell (p := ⟨B, i, none⟩) (Nat.le_refl _) _, fun k _ hk => Below.heap_setCell w ⟨B, i, none⟩ v k hk⟩
theorem Only.of_below {B : Nat} {w w' : World} (h : Below w.heap.size w w') (hB : B < w.heap.size) : Only B w w' := ⟨h.mono (Nat.le_of_lt hB), fun k hk _ => h.block k hk⟩
theorem Only.drewN {B : Nat} {w w' : World} (h : Only B w w') (n : Nat) : Only B w (w'.drewN n) := ⟨⟨h.below.os, h.below.tape, h.below.output, h.below.size, h.below.block⟩, h.rest⟩
end Go.Proofs.YteldjmocbbbinaaGreatDoor

/- The drawn text: whatever the code, some text of a bounded size; nothing but the reader turns. -/
namespace Go.Proofs.YteldjmocbbbinaaGreatDoor
open Go.RowKit

theorem RdAt.lt {w : World} {B p : Nat} (h : RdAt w B p) : B < w.heap.size := by
  obtain ⟨a, len, cap, h0, _⟩ := h
  exact World.block_lt_of_cell? _ _ h0

theorem RdAt.kept {w w' : World} {B p : Nat} (h : RdAt w B p) (hb : Below (B + 1) w w') : RdAt w' B p := by
  obtain ⟨a, len, cap, h0, h1, hf, hl, hr⟩ := h
  refine ⟨a, len, cap, (hb.cell (p := ⟨B, 0, none⟩) (by show B < B + 1; omega)).trans h0, (hb.cell (p := ⟨B, 1, none⟩) (by show B < B + 1; omega)).trans h1, (hb.frozen (p := ⟨B, 1, none⟩) (by show B < B + 1; omega)).trans hf, hl, ?_⟩
  rcases hr with h | ⟨b, off, rfl, hbB, hc⟩
  · exact .inl h
  · refine .inr ⟨b, off, rfl, hbB, fun i hi => ?_⟩
    obtain ⟨c, hc1, hc2⟩ := hc i hi
    exact ⟨c, hc1, (hb.cell (p := ⟨b, off + i, none⟩) (by show b < B + 1; omega)).trans hc2⟩

theorem RdAt.alloc {w : World} {B p : Nat} (h : RdAt w B p) (o : Obj) : RdAt (w.alloc o) B p :=
  h.kept ((Below.refl _ _).alloc h.lt o)

theorem RdAt.drew {w : World} {B p : Nat} (h : RdAt w B p) : RdAt w.drew B p := h.kept (Below.refl _ _).drew

/-- what a pick leaves -/
theorem step_only (w : World) (B : Nat) (v : Value) (m : Nat) : Only B w ((w.setCell ⟨B, 1, none⟩ v).drewN m) :=
  ⟨below_drewN ((Below.refl B w).setCell (p := ⟨B, 1, none⟩) (Nat.le_refl _) _) _, fun k _ hk => Below.heap_setCell w ⟨B, 1, none⟩ v k hk⟩

end Go.Proofs.YteldjmocbbbinaaGreatDoor

/- A reader over a code that came in, and drawn texts. -/
namespace Go.Proofs.YteldjmocbbbinaaGreatDoor
open Go.RowKit

/-- what the walks are told of a code that came in -/
def Code8 (w : World) (a : Option Addr) (len cap : Nat) : Prop := len ≤ cap ∧ cap ≤ maxLen ∧ Row8 w w.heap.size a len

theorem Code8.kept {w w' : World} {a : Option Addr} {len cap : Nat} (h : Code8 w a len cap) (hb : Below w.heap.size w w') : Code8 w' a len cap := by
  obtain ⟨h1, h2, hr⟩ := h
  refine ⟨h1, h2, ?_⟩
  rcases hr with h | ⟨b, off, rfl, hbB, hc⟩
  · exact .inl h
  · refine .inr ⟨b, off, rfl, Nat.lt_of_lt_of_le hbB hb.size, fun i hi => ?_⟩
    obtain ⟨c, hc1, hc2⟩ := hc i hi
    exact ⟨c, hc1, (hb.cell (p := ⟨b, off + i, none⟩) hbB).trans hc2⟩

theorem Row8.less {w : World} {B : Nat} {a : Option Addr} {len k : Nat} (h : Row8 w B a len) (hk : k ≤ len) : Row8 w B a k := by
  rcases h with h | ⟨b, off, rfl, hb, hc⟩
  · exact .inl (by omega)
  · exact .inr ⟨b, off, rfl, hb, fun i hi => hc i (by omega)⟩

theorem rd_new {w : World} {a : Option Addr} {len cap : Nat} (hr : Row8 w w.heap.size a len) (hl : len ≤ 2000) :
    RdAt (w.alloc (.cells #[.slice a len cap, .int .i64 0] 59)) w.heap.size 0 := by
  refine ⟨a, len, cap, ?_, ?_, ?_, hl, ?_⟩
  · rw [World.cell?_alloc_at _ _ _ _ rfl]; rfl
  · rw [World.cell?_alloc_at _ _ _ _ rfl]; rfl
  · rw [World.frozen?_alloc_at _ _ _ _ rfl]
  · rcases hr with h | ⟨b, off, rfl, hb, hc⟩
    · exact .inl h
    · refine .inr ⟨b, off, rfl, hb, fun i hi => ?_⟩
      obtain ⟨c, hc1, hc2⟩ := hc i hi
      exact ⟨c, hc1, (World.cell?_alloc_past _ _ _ hb).trans hc2⟩

set_option maxHeartbeats 400000 in
theorem open_any (a : Option Addr) (len cap : Nat) (w : World) (h : Code8 w a len cap) :
    Calls Tryz.prog 11 #[.slice a len cap] w fun e w' => e = .returned (.pointer (some ⟨w.heap.size, 0, none⟩)) ∧ RdAt w' w.heap.size 0 ∧ Below w.heap.size w w' := by
  obtain ⟨h1, h2, hr⟩ := h
  unfold maxLen at h2
  by_cases hb : 2000 < len
  · have hR := rd_new (cap := cap) (hr.less (show 2000 ≤ len by omega)) (by omega)
    have hcap : (2000 : Int) ≤ (cap : Int) := by omega
    rcases hr with h | ⟨b, off, rfl, hbB, hc⟩
    · omega
    · clear hc
      go_enter Tryz.func11, Tryz.ntmps11
      go_wp2
      go_ret
      exact ⟨rfl, hR, (Below.refl _ _).alloc (Nat.le_refl _) _⟩
  · have hR := rd_new (cap := cap) hr (by omega)
    clear hr
    go_enter Tryz.func11, Tryz.ntmps11
    go_wp2
    go_ret
    exact ⟨rfl, hR, (Below.refl _ _).alloc (Nat.le_refl _) _⟩

/-- the contract of a pick, its world under a name -/
theorem pick_named (B p : Nat) (n : Int) (w : World) (hr : RdAt w B p) (hn : 1 ≤ n) (hn' : n ≤ 1000000000) (hp : p ≤ 1000000000) :
    Calls Tryz.prog 13 #[.pointer (some ⟨B, 0, none⟩), .int .i64 n] w fun e w' => ∃ v : Nat, e = .returned (.int .i64 (v : Int)) ∧ (v : Int) < n ∧ RdAt w' B (p + 1) ∧ Only B w w' ∧ w'.heap.size = w.heap.size := by
  refine (pick_any B p n w hr hn hn' hp).mono ?_
  rintro e w' ⟨v, m, rfl, hv, rfl⟩
  exact ⟨v, rfl, hv, hr.step m, step_only w B _ m, by simp⟩
end Go.Proofs.YteldjmocbbbinaaGreatDoor

/- A list of ints in memory: read, copied, compared. -/
namespace Go.Proofs.YteldjmocbbbinaaGreatDoor
open Go.RowKit

/-- the slice's cells read as the list -/
def Ints (w : World) (a : Option Addr) (zs : List Int) : Prop :=
  zs = [] ∨ ∃ b off, a = some ⟨b, off, none⟩ ∧ b < w.heap.size ∧ ∀ i (h : i < zs.length), w.cell? ⟨b, off + i, none⟩ = some (.int .i64 zs[i])

theorem Ints.kept {w w' : World} {a : Option Addr} {zs : List Int} (h : Ints w a zs) (hb : Below w.heap.size w w') : Ints w' a zs := by
  rcases h with h | ⟨b, off, rfl, hbB, hc⟩
  · exact .inl h
  · exact .inr ⟨b, off, rfl, Nat.lt_of_lt_of_le hbB hb.size, fun i hi => (hb.cell (p := ⟨b, off + i, none⟩) hbB).trans (hc i hi)⟩

theorem info_int : (Tryz.prog.info? 3).map (fun i => (i.zero, i.size, i.bytes)) = some (some (.int .i64 0), 1, 8) := by kernel_rfl

end Go.Proofs.YteldjmocbbbinaaGreatDoor

/- A new row of ints, written cell by cell. -/
namespace Go.Proofs.YteldjmocbbbinaaGreatDoor
open Go.RowKit

/-- a row of ints -/
def arr (l : List Int) : Array Value := (l.map (fun z => Value.int .i64 z)).toArray

/-- a list of the call's own, in a block from lo on: its cells can be written -/
def Owns (w : World) (lo : Nat) (a : Option Addr) (l : List Int) : Prop :=
  l = [] ∨ ∃ b, a = some ⟨b, 0, none⟩ ∧ lo ≤ b ∧ b < w.heap.size ∧ ∀ i (h : i < l.length), w.cell? ⟨b, i, none⟩ = some (.int .i64 l[i]) ∧ w.frozen? ⟨b, i, none⟩ = false

theorem Owns.ints {w : World} {lo : Nat} {a : Option Addr} {l : List Int} (h : Owns w lo a l) : Ints w a l := by
  rcases h with h | ⟨b, rfl, _, hb, hc⟩
  · exact .inl h
  · exact .inr ⟨b, 0, rfl, hb, fun i hi => by rw [Nat.zero_add]; exact (hc i hi).1⟩

end Go.Proofs.YteldjmocbbbinaaGreatDoor

/- A list of ints that a call gathers in a row of its own. -/
namespace Go.Proofs.YteldjmocbbbinaaGreatDoor
open Go.RowKit

/-- ints as they lie in memory -/
def intsV (l : List Int) : List Value := l.map fun x : Int => Value.int .i64 x
theorem intsV_len (l : List Int) : (intsV l).length = l.length := by simp [intsV]
theorem intsV_get (l : List Int) (j : Nat) (h : j < l.length) : (intsV l)[j]? = some (.int .i64 l[j]) := by simp [intsV, h]
theorem intsV_snoc (l : List Int) (x : Int) : intsV l ++ [.int .i64 x] = intsV (l ++ [x]) := by simp [intsV]

/-- the slice v owns the ints l, n of them -/
def OwnI (w : World) (B : Nat) (v : Value) (n : Nat) (l : List Int) : Prop := w.ownsRow B 3 1 v n (intsV l)

theorem OwnI.len {w : World} {B n : Nat} {v : Value} {l : List Int} (h : OwnI w B v n l) : l.length = n := by
  have := h.1
  rw [intsV_len] at this; omega

theorem OwnI.owns {w : World} {B n : Nat} {v : Value} {l : List Int} (h : OwnI w B v n l) : ∃ ao cap, v = .slice ao n cap ∧ Owns w B ao l := by
  have hl := h.len
  rcases h.2 with ⟨rfl, h0⟩ | ⟨g, cap, cur, rfl, hgB, hg, _, _, _, ht⟩
  · subst h0
    exact ⟨none, 0, rfl, .inl (List.eq_nil_of_length_eq_zero hl)⟩
  · refine ⟨some ⟨g, 0, none⟩, cap, rfl, .inr ⟨g, rfl, hgB, ?_, fun i hi => ⟨?_, ?_⟩⟩⟩
    · rcases Nat.lt_or_ge g w.heap.size with hlt | hge
      · exact hlt
      · rw [Array.getElem?_eq_none hge] at hg; cases hg
    · exact (World.ownsRow.cellAt h i (by omega)).trans (intsV_get l i hi)
    · exact World.ownsRow.frozenAt h i

theorem OwnI.more {w : World} {B n g cap : Nat} {l : List Int} {x : Int} (h : w.ownsRow B 3 1 (.slice (some ⟨g, 0, none⟩) (n + 1) cap) (n + 1) (intsV l ++ [.int .i64 x])) :
    OwnI w B (.slice (some ⟨g, 0, none⟩) (n + 1) cap) (n + 1) (l ++ [x]) := by
  rw [intsV_snoc] at h; exact h

theorem OwnI.drewN {w : World} {B n : Nat} {v : Value} {l : List Int} (h : OwnI w B v n l) (m : Nat) : OwnI (w.drewN m) B v n l := h

theorem ownI_none (w : World) : OwnI (w.alloc (.cells #[] 3)) w.heap.size (.slice (some ⟨w.heap.size, 0, none⟩) 0 0) 0 [] :=
  World.ownsRow_lit w #[] 0 (Nat.le_refl _) (by decide) rfl
end Go.Proofs.YteldjmocbbbinaaGreatDoor

/- Two to the power of a number. -/
namespace Go.Proofs.YteldjmocbbbinaaGreatDoor
open Go.RowKit

set_option maxHeartbeats 400000 in
theorem l1Pow_any (n : Nat) (w : World) (hn : n ≤ 60) :
    Calls Tryz.prog 27 #[.int .i64 n] w fun e w' => e = .returned (.int .i64 ((2 ^ n : Nat) : Int)) ∧ w' = w := by
  go_enter Tryz.func27, Tryz.ntmps27
  go_wp2_with fail
  go_loop [3, 4] (fun x i => ∃ k y : Nat, k ≤ n ∧ i = .int .i64 k ∧ y = 2 ^ k ∧ x = .int .i64 y) (fun _ i => n - (intOf i).toNat)
  case atStart => exact ⟨0, 1, Nat.zero_le _, rfl, rfl, rfl⟩
  case round =>
    obtain ⟨k, y, hk, rfl, hy, rfl⟩ := hrel
    have hp : 2 ^ k ≤ 2 ^ 60 := Nat.pow_le_pow_right (by omega) (by omega)
    have hyb : y ≤ 1152921504606846976 := by omega
    have HY : Hid (y = 2 ^ k) := hy
    clear hy hp
    by_cases hlt : k < n
    · go_wp2_with fail
      go_round
      case rel => exact ⟨k + 1, y * 2, by omega, by go_num, by rw [HY.out, Nat.pow_succ], by go_num⟩
      case measure => simp [intOf]; omega
    · have hk' : k = n := by omega
      subst hk'
      go_wp2_with fail
      go_ret
      exact ⟨ret_int (by rw [HY.out]; simp), rfl⟩

end Go.Proofs.YteldjmocbbbinaaGreatDoor

/- The draw of the laws on rows. -/
namespace Go.Proofs.YteldjmocbbbinaaGreatDoor
open Go.RowKit

theorem Only.grown {B : Nat} {w a b : World} (h : Only B w a) (hB : B < w.heap.size) (g : Below w.heap.size a b) : Only B w b :=
  ⟨h.below.trans (g.mono (Nat.le_of_lt hB)), fun k hk hkB => (g.block k hk).trans (h.rest k hk hkB)⟩

theorem OwnI.same {w w' : World} {B n : Nat} {v : Value} {l : List Int} (h : OwnI w B v n l) (hk : ∀ k, k < w.heap.size → B ≤ k → w'.heap[k]? = w.heap[k]?) : OwnI w' B v n l := by
  refine ⟨h.1, ?_⟩
  rcases h.2 with h2 | ⟨g, cap, cur, hv, hg, hh, r⟩
  · exact .inl h2
  · have hlt : g < w.heap.size := by
      rcases Nat.lt_or_ge g w.heap.size with hlt | hge
      · exact hlt
      · rw [Array.getElem?_eq_none hge] at hh; cases hh
    exact .inr ⟨g, cap, cur, hv, hg, by rw [hk g hlt hg]; exact hh, r⟩
theorem OwnI.only {w w' : World} {B C n : Nat} {v : Value} {l : List Int} (h : OwnI w B v n l) (ho : Only C w w') (hC : C < B) : OwnI w' B v n l := h.same (fun k hk hB => ho.rest k hk (by omega))
theorem OwnI.lower {w : World} {B C n : Nat} {v : Value} {l : List Int} (h : OwnI w B v n l) (hC : C ≤ B) : OwnI w C v n l := by
  refine ⟨h.1, ?_⟩
  rcases h.2 with h2 | ⟨g, cap, cur, hv, hg, r⟩
  · exact .inl h2
  · exact .inr ⟨g, cap, cur, hv, by omega, r⟩

end Go.Proofs.YteldjmocbbbinaaGreatDoor

/- Marks laid into a list of the call's own, and found again. -/
namespace Go.Proofs.YteldjmocbbbinaaGreatDoor
open Go.RowKit

/-- n cells at the head of block b, which can be written -/
def Own (w : World) (b n : Nat) (f : Nat → Int) : Prop := b < w.heap.size ∧ ∀ i, i < n → w.cell? ⟨b, i, none⟩ = some (.int .i64 (f i)) ∧ w.frozen? ⟨b, i, none⟩ = false

/-- nothing but block b has turned -/
structure Turned (b : Nat) (w w' : World) : Prop where
  os : w'.os = w.os
  tape : w'.tape = w.tape
  output : w'.output = w.output
  size : w'.heap.size = w.heap.size
  rest : ∀ k, k ≠ b → w'.heap[k]? = w.heap[k]?

theorem Turned.refl (b : Nat) (w : World) : Turned b w w := ⟨rfl, rfl, rfl, rfl, fun _ _ => rfl⟩
theorem Turned.set {b : Nat} {w w' : World} (h : Turned b w w') (i : Nat) (v : Value) : Turned b w (w'.setCell ⟨b, i, none⟩ v) :=
  ⟨h.os, h.tape, h.output, by rw [World.size_setCell]; exact h.size, fun k hk => (Below.heap_setCell w' ⟨b, i, none⟩ v k hk).trans (h.rest k hk)⟩
theorem Turned.below {b lo : Nat} {w w' : World} (h : Turned b w w') (hb : lo ≤ b) : Below lo w w' :=
  ⟨h.os, h.tape, h.output, Nat.le_of_eq h.size.symm, fun k hk => h.rest k (by omega)⟩
theorem Turned.ints {b : Nat} {w w' : World} (h : Turned b w w') {a : Option Addr} {zs : List Int} (hI : Ints w a zs) (hne : ∀ x, a = some x → x.block ≠ b) : Ints w' a zs := by
  rcases hI with e | ⟨c, off, rfl, hc, hcell⟩
  · exact .inl e
  · exact .inr ⟨c, off, rfl, by rw [h.size]; exact hc, fun i hi => (World.cell?_of_block (w := w) (a := ⟨c, off + i, none⟩) (h.rest c (hne _ rfl))).trans (hcell i hi)⟩
theorem Turned.owns {b lo : Nat} {w w' : World} (h : Turned b w w') {a : Option Addr} {l : List Int} (hI : Owns w lo a l) (hne : b < lo) : Owns w' lo a l := by
  rcases hI with e | ⟨c, rfl, hlo, hc, hcell⟩
  · exact .inl e
  · refine .inr ⟨c, rfl, hlo, by rw [h.size]; exact hc, fun i hi => ⟨?_, ?_⟩⟩
    · exact (World.cell?_of_block (w := w) (a := ⟨c, i, none⟩) (h.rest c (by omega))).trans (hcell i hi).1
    · exact (World.frozen?_of_block (w := w) (a := ⟨c, i, none⟩) (h.rest c (by omega))).trans (hcell i hi).2
theorem Owns.kept {w w' : World} {lo : Nat} {a : Option Addr} {l : List Int} (h : Owns w lo a l) (hb : Below w.heap.size w w') : Owns w' lo a l := by
  rcases h with e | ⟨c, rfl, hlo, hc, hcell⟩
  · exact .inl e
  · exact .inr ⟨c, rfl, hlo, Nat.lt_of_lt_of_le hc hb.size, fun i hi => ⟨(hb.cell (p := ⟨c, i, none⟩) hc).trans (hcell i hi).1, (hb.frozen (p := ⟨c, i, none⟩) hc).trans (hcell i hi).2⟩⟩

theorem Own.step {w : World} {b n k : Nat} {f g : Nat → Int} (h : Own w b n f) (hk : k < n) (hg : g k = (k : Int) + 1) (hf : ∀ i, i < n → i ≠ k → g i = f i) :
    Own (w.setCell ⟨b, k, none⟩ (.int .i64 ((k : Int) + 1))) b n g := by
  refine ⟨by rw [World.size_setCell]; exact h.1, fun i hi => ⟨?_, ?_⟩⟩
  · by_cases e : i = k
    · subst e; rw [World.cell?_setCell_same _ _ _ (h.2 i hi).1, hg]
    · rw [World.cell?_setCell_other _ _ _ _ (fun q => e (congrArg Addr.off q).symm), (h.2 i hi).1, hf i hi e]
  · rw [World.frozen?_setCell]; exact (h.2 i hi).2

end Go.Proofs.YteldjmocbbbinaaGreatDoor

/- Ints appended to a row of the call's own: none or more. -/
namespace Go.Proofs.YteldjmocbbbinaaGreatDoor
open Go.RowKit

/-- nothing is appended -/
theorem append_nothing (a : Option Addr) (n cap : Nat) (h : n ≤ cap) (b : Option Addr) (c : Nat) (ty : TypeId) (w : World) :
    (Builtin.append_ #[23, 23] ty #[.slice a n cap, .slice b 0 c]).run Tryz.prog w = .ok (.slice a n cap) w := by
  obtain ⟨i0, hi0, hz0, hz1, hz2⟩ := info_parts info_int
  cases a <;> cases b <;> simp [Builtin.append_, run_underlying Tryz.underlying23, sizeOf, typeInfo, hi0, Builtin.lenOf, Builtin.firstCells, h, storeCells, loadCells, loadCellsFrom]

theorem run_append_ints (ty : TypeId) (base : Nat) (v : Value) (n : Nat) (l : List Int) (w : World) (hown : OwnI w base v n l) (ca : Option Addr) (m c : Nat) (cs : List Int) (hc : Ints w ca cs) (hm : cs.length = m) (h63 : n + m ≤ 9000000) (hbase : base ≤ w.heap.size) :
    ∃ a cap w', (Builtin.append_ #[23, 23] ty #[v, .slice ca m c]).run Tryz.prog w = .ok (.slice a (n + m) cap) w' ∧ OwnI w' base (.slice a (n + m) cap) (n + m) (l ++ cs) ∧ w.grownBy w' v.ownBlock := by
  obtain ⟨i0, hi0, hz0, hz1, hz2⟩ := info_parts info_int
  rcases Nat.eq_zero_or_pos m with h0 | hp
  · subst h0
    have hcs : cs = [] := List.eq_nil_of_length_eq_zero hm
    subst hcs
    obtain ⟨ao, cap, rfl, _⟩ := hown.owns
    have hle : n ≤ cap := by
      rcases hown.2 with ⟨e, h0⟩ | ⟨g, cap', cur, e, _, _, h1, _⟩
      · cases e; omega
      · cases e; exact h1
    refine ⟨ao, cap, w, append_nothing ao n cap hle ca c ty w, by simpa using hown, ⟨rfl, rfl, rfl, Nat.le_refl _, fun _ _ _ => rfl⟩⟩
  · rcases hc with e | ⟨b, off, rfl, hb, hcell⟩
    · rw [e] at hm; simp at hm; omega
    · obtain ⟨g, cap, w', hr, h2, h3, _, _⟩ := run_append_lies (P := Tryz.prog) w 23 ty base 3 i0 (.int .i64 0) 1 8 Tryz.underlying23 hi0 hz0 hz1 hz2 rfl (by decide) v n (intsV l) hown ⟨b, off, none⟩ m c (intsV cs) (by rw [intsV_len]; omega)
        (fun j u hu => by
          have hj : j < cs.length := by
            rcases Nat.lt_or_ge j cs.length with h | h
            · exact h
            · rw [List.getElem?_eq_none (by rw [intsV_len]; exact h)] at hu; cases hu
          rw [intsV_get cs j hj] at hu
          cases hu
          have hadd : (⟨b, off, none⟩ : Addr).add j = ⟨b, off + j, none⟩ := by unfold Addr.add; split <;> simp_all
          rw [hadd]; exact hcell j hj)
        (fun u hu => by simp [intsV] at hu; obtain ⟨x, _, rfl⟩ := hu; rfl) hp (by unfold maxLen; omega) (by omega) hbase w.heap.size rfl
      exact ⟨some ⟨g, 0, none⟩, cap, w', hr, by show World.ownsRow _ _ _ _ _ _ _; rw [show intsV (l ++ cs) = intsV l ++ intsV cs by simp [intsV]]; exact h2, h3⟩

theorem wp_append_ints {w : World} {o : Oper} {a : Act} {K : Act → World → Prop} {Q : Exit → Act → World → Prop} (s x : Operand)
    (ho : o.op = .call { callee := .builtin .append, args := #[s, x], argTypes := #[23, 23] })
    (base : Nat) (v : Value) (n : Nat) (l : List Int) (hs : a.eval s = v) (hown : OwnI w base v n l) (ca : Option Addr) (m c : Nat) (cs : List Int) (hx : a.eval x = .slice ca m c) (hc : Ints w ca cs) (hm : cs.length = m) (h63 : n + m ≤ 9000000) (hbase : base ≤ w.heap.size)
    (h : ∀ a' cap w', OwnI w' base (.slice a' (n + m) cap) (n + m) (l ++ cs) → w.grownBy w' v.ownBlock → K (a.put o.dst (.slice a' (n + m) cap)) w') : o.wp Tryz.prog a w K Q := by
  obtain ⟨a', cap, w', hr, h2, h3⟩ := run_append_ints o.type base v n l w hown ca m c cs hc hm h63 hbase
  unfold Oper.wp execOp
  simp only [ho, resolve, invoke, builtin, Sem.run_bind, Sem.run_pure, Result.andThen_ok, List.map_toArray, List.map_cons, List.map_nil, hs, hx, hr]
  exact h a' cap w' h2 h3

theorem wpList_append_ints {w : World} {ops : Array Oper} {rest : List Oper} {o : Oper} {a : Act} {Q : Exit → Act → World → Prop} (hgd : o.guard = none) (s x : Operand)
    (ho : o.op = .call { callee := .builtin .append, args := #[s, x], argTypes := #[23, 23] })
    (base : Nat) (v : Value) (n : Nat) (l : List Int) (hs : a.eval s = v) (hown : OwnI w base v n l) (ca : Option Addr) (m c : Nat) (cs : List Int) (hx : a.eval x = .slice ca m c) (hc : Ints w ca cs) (hm : cs.length = m) (h63 : n + m ≤ 9000000) (hbase : base ≤ w.heap.size)
    (h : ∀ a' cap w', OwnI w' base (.slice a' (n + m) cap) (n + m) (l ++ cs) → w.grownBy w' v.ownBlock → wpList Tryz.prog ops Q rest (a.put o.dst (.slice a' (n + m) cap)) w') : wpList Tryz.prog ops Q (o :: rest) a w :=
  wpList_plain hgd fun _ hK => wp_append_ints s x ho base v n l hs hown ca m c cs hx hc hm h63 hbase fun a' cap w' h2 h3 => hK _ _ (h a' cap w' h2 h3)

theorem step_append_ints {w : World} {ops : Array Oper} {o : Oper} {a : Act} {K : Act → World → Prop} {Q : Exit → Act → World → Prop} {E : Prop} (hgd : o.guard = none) (s x : Operand)
    (ho : o.op = .call { callee := .builtin .append, args := #[s, x], argTypes := #[23, 23] })
    (base : Nat) (v : Value) (n : Nat) (l : List Int) (hs : a.eval s = v) (hown : OwnI w base v n l) (ca : Option Addr) (m c : Nat) (cs : List Int) (hx : a.eval x = .slice ca m c) (hc : Ints w ca cs) (hm : cs.length = m) (h63 : n + m ≤ 9000000) (hbase : base ≤ w.heap.size)
    (h : ∀ a' cap w', OwnI w' base (.slice a' (n + m) cap) (n + m) (l ++ cs) → w.grownBy w' v.ownBlock → K (a.put o.dst (.slice a' (n + m) cap)) w') :
    if Region.wanted o (yielded ops a.tmps) = true then Oper.wp Tryz.prog o a w K Q else E := by
  have hw : Region.wanted o (yielded ops a.tmps) = true := by simp [Region.wanted, hgd]
  rw [if_pos hw]
  exact wp_append_ints s x ho base v n l hs hown ca m c cs hx hc hm h63 hbase h
end Go.Proofs.YteldjmocbbbinaaGreatDoor

/- slices.Collect and AppendSeq of ints, against whatever iterator that reads memory (the contract 'SeqStopsK' at 'Below'). -/
namespace Go.Proofs.YteldjmocbbbinaaGreatDoor
open Go.RowKit Go.Shelf

attribute [local go_sem] Oper.semAt_some

theorem info_int_c : (Tryz.prog.info? 3).map (fun i => (i.zero, i.size, i.bytes)) = some (some (.int .i64 0), 1, 8) := by kernel_rfl

/-- the iterator's word: the ints xs come, in that order -/
def Tells (n : Nat) (g : Nat) (lb : Array Value) (n₀ : Nat) (xs : List Int) (w : World) : Prop :=
  SeqStopsK Fence.wide n Tryz.prog g lb (fun x : Int => #[Value.int .i64 x]) (Below n₀) (fun ys => ys = xs) (fun pre => pre <+: xs) xs.length w

set_option maxRecDepth 100000 in
set_option maxHeartbeats 2000000 in
theorem appendSeq_in (n : Nat) (hn : 2 ≤ n) (g : Nat) (lb : Array Value) (eg : ∀ args w, (callFunc g args).run Tryz.prog w = .ok (.enter g args) w) (xs : List Int) (hlen : xs.length ≤ maxLen) (hbytes : xs.length * 8 ≤ 140737488355328)
    (w : World) (hseq : Tells (n - 1) g lb w.heap.size xs w) :
    CallsIn Fence.wide n Tryz.prog 59 #[.slice none 0 0, .func (.func g) #[] lb] w fun e W' => ∃ v, e = .returned v ∧ W'.ownsRow w.heap.size 3 1 v xs.length (xs.map (Value.int .i64)) ∧ (v = .slice none 0 0 ↔ xs = []) ∧ Below w.heap.size w W' := by
  have h1 : 1 ≤ n := by omega
  have hro : Fence.wide.round = none := rfl
  obtain ⟨i0, hi, hz0, hz1, hz2⟩ := info_parts info_int_c
  refine callsIn_of_wp_marks Tryz.func59 rfl trivial ?_ hro
  simp only [Tryz.ntmps59, List.size_toArray, List.length_cons, List.length_nil, Nat.reduceAdd, Nat.reduceSub, Array.replicate_succ, Array.replicate_zero, List.push_toArray, List.append_toArray, List.nil_append, List.cons_append]
  gi_wp2
  have bO := Boxed.new w 23 (.slice none 0 0)
  have hB0 : Below w.heap.size w (w.alloc (.cells #[.slice none 0 0] 23)) := (Below.refl _ w).alloc (Nat.le_refl _) _
  refine wpIn_rangeFunc_ownG hro h1 (gf := g) (lb := lb) rfl trivial eg hseq belowK_t (belowK_b (by simp)) hB0 (fun _ => rfl)
    (fun pre W => (∃ v, Boxed W w.heap.size 23 v ∧ W.ownsRow w.heap.size 3 1 v pre.length (pre.map (Value.int .i64)) ∧ (v = .slice none 0 0 ↔ pre = [])) ∧ Below w.heap.size w W)
    (fun _ _ _ => False)
    (OwnFrom.and (Own.from (holdsRow_own w.heap.size w.heap.size 23 3 1 (fun pre => pre.length) (fun pre => pre.map (Value.int .i64)) (fun pre v => v = .slice none 0 0 ↔ pre = [])) _) (ownFrom_below (Nat.le_refl _) (by simp)))
    (fun _ _ _ _ _ hs _ _ => hs)
    ⟨⟨_, bO, World.ownsRow_nil _ _ _ _, by simp⟩, hB0⟩
    (fun x => { tmps := #[.slice none 0 0, .func (.func g) #[] lb, .pointer (some ⟨w.heap.size, 0, none⟩), undef, .slice none 0 0, .int .i64 x, .func (.func g) #[] lb, .int .i64 x, undef, undef, undef, undef, undef], defers := [] }) ?assign ?body ?done ?stop
  case assign =>
    intro l x W K hK
    gi_wp2
    exact hK
  case body =>
    rintro l pre x W ⟨⟨v, hv, hrow, hnil⟩, hB⟩ hlt
    have hc := hv.cell
    gi_wp2_with (gi_at_builtin; refine wpListIn_append_own _ rfl _ _ 23 rfl w.heap.size 3 i0 (.int .i64 0) 1 8 Tryz.underlying23 hi hz0 hz1 hz2 rfl (by decide) _ _ _ rfl (hrow.alloc _) ⟨W.heap.size, 0, none⟩ 1 1 [.int .i64 x] rfl rfl (cell_one_new _ _ _) (by simp [Value.oneCell']) (by omega) (by omega) (by have := hB.size; simp; omega) ?_; intro v' w1 hown' hgrow _; obtain ⟨g', cap', rfl⟩ := ownsRow_succ hown'; obtain ⟨hv1, hv2, hr2, hk2, hb2⟩ := hv.appended (by decide) hrow hB.size (Nat.le_refl _) hown' hgrow; have hc1 := hv1.cell; have hf1 := hv1.frozen)
    exact ⟨hk2.from _, hb2, ⟨_, hv2, by simpa using hr2, by simp⟩, hB.trans hb2⟩
  case done =>
    rintro D ys W hD rfl ⟨⟨v, hv, hrow, hnil⟩, hB⟩ hK
    have hc := hv.cell
    gi_wp2
    refine ⟨by simp, .inl ⟨_, _, rfl, run_takeDeferred hK, ?_⟩⟩
    exact ⟨_, results_tmp rfl _ _ _, v, rfl, ownsRow_putObj hrow _ hK rfl, hnil, hB.trans (belowK_b (w := w) (Nat.le_refl _) W D _ _ (by simp at hD; omega) hK rfl rfl)⟩
  case stop =>
    rintro D c pre W _ _ h _
    exact h.elim

set_option maxHeartbeats 1000000 in
theorem collect_any (g : Nat) (lb : Array Value) (eg : ∀ args w, (callFunc g args).run Tryz.prog w = .ok (.enter g args) w) (xs : List Int) (hlen : xs.length ≤ maxLen) (hbytes : xs.length * 8 ≤ 140737488355328)
    (w : World) (hseq : Tells 1 g lb w.heap.size xs w) :
    Calls Tryz.prog 39 #[.func (.func g) #[] lb] w fun e W' => (∃ v, e = .returned v ∧ W'.ownsRow w.heap.size 3 1 v xs.length (xs.map (Value.int .i64)) ∧ (v = .slice none 0 0 ↔ xs = [])) ∧ Below w.heap.size w W' := by
  have HA : Hid (Calls Tryz.prog 59 #[.slice none 0 0, .func (.func g) #[] lb] w fun e W' => ∃ v, e = .returned v ∧ W'.ownsRow w.heap.size 3 1 v xs.length (xs.map (Value.int .i64)) ∧ (v = .slice none 0 0 ↔ xs = []) ∧ Below w.heap.size w W') := callsIn_wide.1 (appendSeq_in 2 (by omega) g lb eg xs hlen hbytes w hseq)
  clear hseq hlen hbytes eg
  go_enter Tryz.func39, Tryz.ntmps39
  go_wp2_with fail
  refine HA.out.mono ?_
  rintro e w' ⟨v, rfl, hv, hnil, hb⟩
  go_wp2_with fail
  go_ret
  exact ⟨⟨v, rfl, hv, hnil⟩, hb⟩
end Go.Proofs.YteldjmocbbbinaaGreatDoor

/- The points of what is seen, row by row: pointsOf and its iterator. -/
namespace Go.Proofs.YteldjmocbbbinaaGreatDoor
open Go.RowKit Go.Shelf

attribute [local go_sem] Oper.semAt_some

/-- what has come when k points are told -/
def upto (F : Nat → Int) (k : Nat) : List Int := (List.range k).map F
theorem upto_succ (F : Nat → Int) (k : Nat) : upto F (k + 1) = upto F k ++ [F k] := by simp [upto, List.range_succ]
theorem upto_length (F : Nat → Int) (k : Nat) : (upto F k).length = k := by simp [upto]
theorem upto_take (F : Nat → Int) {k n : Nat} (h : k ≤ n) : upto F k <+: upto F n := by
  obtain ⟨d, rfl⟩ := Nat.exists_eq_add_of_le h
  exact ⟨(List.range d).map (fun j => F (k + j)), by simp [upto, List.range_add, Function.comp_def]⟩

/-- a view, told by what its methods answer -/
structure Seen (T : TypeId) (V : Value) (fs : Nat) (rs : Value) (fa : Nat) (ra : Value) (wd hi : Nat) (f : Nat → Nat → Int) (n₀ : Nat) (w : World) : Prop where
  ms : ∀ w', (method 553 T V "loop.example/intarsia/impl.size").run Tryz.prog w' = .ok (fs, rs) w'
  ns : ∀ w', (nilAhead 553 T V "loop.example/intarsia/impl.size").run Tryz.prog w' = .ok (some false) w'
  ma : ∀ w', (method 553 T V "loop.example/intarsia/impl.at").run Tryz.prog w' = .ok (fa, ra) w'
  na : ∀ w', (nilAhead 553 T V "loop.example/intarsia/impl.at").run Tryz.prog w' = .ok (some false) w'
  es : ∀ args w', (callFunc fs args).run Tryz.prog w' = .ok (.enter fs args) w'
  ea : ∀ args w', (callFunc fa args).run Tryz.prog w' = .ok (.enter fa args) w'
  size : ∀ w', Below n₀ w w' → Calls Tryz.prog fs #[rs] w' fun e w'' => e = .returned (.tuple #[.int .i64 (wd : Int), .int .i64 (hi : Int)]) ∧ Below w'.heap.size w' w''
  at' : ∀ (w' : World) (x y : Nat), x < wd → y < hi → Below n₀ w w' → Calls Tryz.prog fa #[ra, .int .i64 (x : Int), .int .i64 (y : Int)] w' fun e w'' => e = .returned (.int .i64 (f x y)) ∧ Below w'.heap.size w' w''

theorem grown_of_below {w w' : World} (h : Below w.heap.size w w') : w.grownBy w' none := ⟨h.os, h.tape, h.output, h.size, fun k hk _ => h.block k hk⟩

/-- the points in their order -/
def ptF (wd : Nat) (f : Nat → Nat → Int) (j : Nat) : Int := f (j % wd) (j / wd)
theorem ptF_at {wd x y : Nat} (f : Nat → Nat → Int) (h : x < wd) : ptF wd f (y * wd + x) = f x y := by
  unfold ptF
  rw [Nat.mul_comm y wd, Nat.mul_add_mod, Nat.mod_eq_of_lt h, Nat.mul_add_div (by omega), Nat.div_eq_of_lt h, Nat.add_zero]

set_option maxRecDepth 100000 in
set_option maxHeartbeats 2000000 in
theorem points1_in (n : Nat) (hn : 1 ≤ n) (l Bv n₀ : Nat) (T : TypeId) (V : Value) (fs : Nat) (rs : Value) (fa : Nat) (ra : Value) (wd hi : Nat) (f : Nat → Nat → Int) (hwd : wd ≤ 20) (hhi : hi ≤ 20) (w : World) (hBv : Bv < n₀) (S : Seen T V fs rs fa ra wd hi f n₀ w) (J Jx : List Int → World → Prop)
    (W : World) (hW : Below n₀ w W) (hn₀ : n₀ ≤ W.heap.size) (hJ : AbidesFrom W.heap.size J)
    (hY : ∀ pre x W, J pre W → pre.length < wd * hi → YieldAt Fence.wide (n - 1) Tryz.prog l #[.int .i64 x] W fun e W' =>
      (e = .returned (.bool true) ∧ J (pre ++ [x]) W' ∧ Below n₀ W W') ∨ (e = .returned (.bool false) ∧ Jx (pre ++ [x]) W'))
    (hc : W.cell? ⟨Bv, 0, none⟩ = some (.iface T V)) (h0 : J [] W) :
    CallsIn Fence.wide n Tryz.prog 60 #[.func (.yield l) #[] #[], .pointer (some ⟨Bv, 0, none⟩)] W fun e W' => (∃ v, e = .returned v) ∧
      ((∃ ys, ys = upto (ptF wd f) (wd * hi) ∧ J ys W') ∨ (∃ pre, pre <+: upto (ptF wd f) (wd * hi) ∧ Jx pre W')) := by
  have hro : Fence.wide.round = none := rfl
  have ms := S.ms
  have ns := S.ns
  have ma := S.ma
  have na := S.na
  refine callsIn_of_wp Tryz.func60 rfl trivial ?_ hro
  simp only [Tryz.ntmps60, List.size_toArray, List.length_cons, List.length_nil, Nat.reduceAdd, Nat.reduceSub, Array.replicate_succ, Array.replicate_zero, List.push_toArray, List.append_toArray, List.nil_append, List.cons_append]
  have es := S.es
  have ea := S.ea
  gi_wp2
  refine ⟨trivial, ?_⟩
  gi_wp2
  refine (callsIn_wide.2 (S.size W hW)).mono ?_
  rintro e W1 ⟨rfl, b1⟩
  have h01 : J [] W1 := hJ [] W W1 none h0 (grown_of_below b1) (fun r e => by cases e)
  have hW1 : Below n₀ w W1 := hW.trans (b1.mono hn₀)
  have hs1 : W.heap.size ≤ W1.heap.size := b1.size
  have hc1 : W1.cell? ⟨Bv, 0, none⟩ = some (.iface T V) := (b1.cell (p := ⟨Bv, 0, none⟩) (Nat.lt_of_lt_of_le hBv hn₀)).trans hc
  clear b1 h0 hc
  gi_wp2
  gi_loopw [13] (fun i wr => ∃ k : Nat, k ≤ hi ∧ i = .int .i64 (k : Int) ∧ J (upto (ptF wd f) (k * wd)) wr ∧ Below n₀ w wr ∧ W.heap.size ≤ wr.heap.size ∧ wr.cell? ⟨Bv, 0, none⟩ = some (.iface T V))
    (fun i _ => hi - (intOf i).toNat)
  case atStart => exact ⟨0, Nat.zero_le _, rfl, by simpa [upto] using h01, hW1, hs1, hc1⟩
  case round =>
    obtain ⟨k, hk, rfl, hJk, hWk, hsk, hck⟩ := hrel
    by_cases hlt : k < hi
    · gi_wp2
      gi_loopw [17] (fun i wr => ∃ x : Nat, x ≤ wd ∧ i = .int .i64 (x : Int) ∧ J (upto (ptF wd f) (k * wd + x)) wr ∧ Below n₀ w wr ∧ W.heap.size ≤ wr.heap.size ∧ wr.cell? ⟨Bv, 0, none⟩ = some (.iface T V))
        (fun i _ => wd - (intOf i).toNat)
      case atStart => exact ⟨0, Nat.zero_le _, rfl, hJk, hWk, hsk, hck⟩
      case round =>
        obtain ⟨x, hx, rfl, hJx', hWx, hsx, hcx⟩ := hrel
        by_cases hxl : x < wd
        · have hkm : k * wd + wd ≤ wd * hi := by
            have := Nat.mul_le_mul_right wd (show k + 1 ≤ hi by omega)
            rw [Nat.add_mul, Nat.one_mul, Nat.mul_comm hi wd] at this; exact this
          gi_wp2
          refine ⟨trivial, ?_⟩
          gi_wp2
          refine (callsIn_wide.2 (S.at' wr x k hxl hlt hWx)).mono ?_
          rintro e W2 ⟨rfl, b2⟩
          have hJ2 : J (upto (ptF wd f) (k * wd + x)) W2 := hJ _ wr W2 none hJx' (grown_of_below b2) (fun r e => by cases e)
          have hn2 : n₀ ≤ wr.heap.size := Nat.le_trans hn₀ hsx
          have hW2 : Below n₀ w W2 := hWx.trans (b2.mono hn2)
          have hs2 : W.heap.size ≤ W2.heap.size := Nat.le_trans hsx b2.size
          have hc2 : W2.cell? ⟨Bv, 0, none⟩ = some (.iface T V) := (b2.cell (p := ⟨Bv, 0, none⟩) (Nat.lt_of_lt_of_le hBv hn2)).trans hcx
          obtain ⟨fn, tmps, assign, body, hy, hR⟩ := hY _ (f x k) W2 hJ2 (by rw [upto_length]; omega)
          clear b2 hcx hsx hWx hJx'
          gi_wp2
          refine hR.mono ?_
          rintro e W3 (⟨rfl, hJ3, hk3⟩ | ⟨rfl, hJx3⟩)
          · gi_wp2
            go_roundw
            case rel => exact ⟨x + 1, by omega, by simp, by rw [← Nat.add_assoc, upto_succ, ptF_at f hxl]; exact hJ3, hW2.trans hk3, Nat.le_trans hs2 hk3.size, (hk3.cell (p := ⟨Bv, 0, none⟩) hBv).trans hc2⟩
            case measure => simp [intOf]; omega
          · gi_wp2
            refine bodyPost_ret (results_none rfl _ _ _) rfl ?_
            exact ⟨⟨_, rfl⟩, .inr ⟨_, by rw [← ptF_at f hxl, ← upto_succ]; exact upto_take _ (by omega), hJx3⟩⟩
        · obtain rfl : x = wd := by omega
          gi_wp2
          exact ⟨⟨k + 1, by omega, by simp, by rw [Nat.add_mul, Nat.one_mul]; exact hJx', hWx, hsx, hcx⟩, by simp [intOf]; omega⟩
    · obtain rfl : k = hi := by omega
      gi_wp2
      go_end0
      exact ⟨⟨_, rfl⟩, .inl ⟨_, by rw [Nat.mul_comm], hJk⟩⟩

set_option maxHeartbeats 400000 in
theorem pointsOf_any (T : TypeId) (V : Value) (w : World) :
    Calls Tryz.prog 40 #[.iface T V] w fun e w' => e = .returned (.func (.func 60) #[] #[.pointer (some ⟨w.heap.size, 0, none⟩)]) ∧ w' = w.alloc (.cells #[.iface T V] 54) := by
  go_enter Tryz.func40, Tryz.ntmps40
  go_wp2_with fail
  go_ret
  exact ⟨rfl, rfl⟩

/-- the iterator over a view tells its points -/
theorem points_tells (n : Nat) (hn : 1 ≤ n) (T : TypeId) (V : Value) (fs : Nat) (rs : Value) (fa : Nat) (ra : Value) (wd hi : Nat) (f : Nat → Nat → Int) (hwd : wd ≤ 20) (hhi : hi ≤ 20) (w : World) (S : Seen T V fs rs fa ra wd hi f w.heap.size w) :
    Tells n 60 #[.pointer (some ⟨w.heap.size, 0, none⟩)] (w.alloc (.cells #[.iface T V] 54)).heap.size (upto (ptF wd f) (wd * hi)) (w.alloc (.cells #[.iface T V] 54)) := by
  intro l J Jx W hW hJ _ hY h0
  have hb : Below w.heap.size w (w.alloc (.cells #[.iface T V] 54)) := (Below.refl _ _).alloc (Nat.le_refl _) _
  have hb' : Below (w.alloc (.cells #[.iface T V] 54)).heap.size w (w.alloc (.cells #[.iface T V] 54)) → True := fun _ => trivial
  have S' : Seen T V fs rs fa ra wd hi f (w.alloc (.cells #[.iface T V] 54)).heap.size (w.alloc (.cells #[.iface T V] 54)) :=
    { S with size := fun w' b => S.size w' (hb.trans (b.mono hb.size)), at' := fun w' x y hx hy b => S.at' w' x y hx hy (hb.trans (b.mono hb.size)) }
  exact points1_in n hn l w.heap.size _ T V fs rs fa ra wd hi f hwd hhi _ (by simp) S' J Jx W hW hW.size hJ (by rw [upto_length] at hY; exact hY) ((hW.cell (p := ⟨w.heap.size, 0, none⟩) (by simp)).trans (Boxed.new w 54 (.iface T V)).cell) h0
end Go.Proofs.YteldjmocbbbinaaGreatDoor

/- A picture in a block of its own. -/
namespace Go.Proofs.YteldjmocbbbinaaGreatDoor
open Go.RowKit

/-- six cells of a block stay -/
theorem box_kept {W w' : World} {B : Nat} {v0 v1 v2 v3 v4 v5 : Value} (h : W.cell? ⟨B, 0, none⟩ = some v0 ∧ W.cell? ⟨B, 1, none⟩ = some v1 ∧ W.cell? ⟨B, 2, none⟩ = some v2 ∧ W.cell? ⟨B, 3, none⟩ = some v3 ∧ W.cell? ⟨B, 4, none⟩ = some v4 ∧ W.cell? ⟨B, 5, none⟩ = some v5) (b : Below W.heap.size W w') (hB : B < W.heap.size) :
    w'.cell? ⟨B, 0, none⟩ = some v0 ∧ w'.cell? ⟨B, 1, none⟩ = some v1 ∧ w'.cell? ⟨B, 2, none⟩ = some v2 ∧ w'.cell? ⟨B, 3, none⟩ = some v3 ∧ w'.cell? ⟨B, 4, none⟩ = some v4 ∧ w'.cell? ⟨B, 5, none⟩ = some v5 :=
  ⟨(b.cell (p := ⟨B, 0, none⟩) hB).trans h.1, (b.cell (p := ⟨B, 1, none⟩) hB).trans h.2.1, (b.cell (p := ⟨B, 2, none⟩) hB).trans h.2.2.1, (b.cell (p := ⟨B, 3, none⟩) hB).trans h.2.2.2.1, (b.cell (p := ⟨B, 4, none⟩) hB).trans h.2.2.2.2.1, (b.cell (p := ⟨B, 5, none⟩) hB).trans h.2.2.2.2.2⟩
theorem box_new (w : World) (v0 v1 v2 v3 v4 v5 : Value) (T : TypeId) :
    (w.alloc (.cells #[v0, v1, v2, v3, v4, v5] T)).cell? ⟨w.heap.size, 0, none⟩ = some v0 ∧ (w.alloc (.cells #[v0, v1, v2, v3, v4, v5] T)).cell? ⟨w.heap.size, 1, none⟩ = some v1 ∧ (w.alloc (.cells #[v0, v1, v2, v3, v4, v5] T)).cell? ⟨w.heap.size, 2, none⟩ = some v2 ∧ (w.alloc (.cells #[v0, v1, v2, v3, v4, v5] T)).cell? ⟨w.heap.size, 3, none⟩ = some v3 ∧ (w.alloc (.cells #[v0, v1, v2, v3, v4, v5] T)).cell? ⟨w.heap.size, 4, none⟩ = some v4 ∧ (w.alloc (.cells #[v0, v1, v2, v3, v4, v5] T)).cell? ⟨w.heap.size, 5, none⟩ = some v5 := by
  refine ⟨?_, ?_, ?_, ?_, ?_, ?_⟩ <;> (rw [World.cell?_alloc_at _ _ _ _ rfl]; rfl)
theorem box_drew {W w' : World} {lo : Nat} (b : Below lo W.drew w') : Below lo W w' := ((Below.refl lo W).drew).trans b
end Go.Proofs.YteldjmocbbbinaaGreatDoor

/- A picture drawn of what is seen. -/
namespace Go.Proofs.YteldjmocbbbinaaGreatDoor
open Go.RowKit

/-- two lists of the call's own, in blocks apart -/
def Pair2 (w : World) (lo : Nat) (x : Option Addr) (cs : List Int) (y : Option Addr) (ps : List Int) : Prop :=
  ∃ m, lo ≤ m ∧ Owns w lo x cs ∧ (cs = [] ∨ ∃ b, x = some ⟨b, 0, none⟩ ∧ b < m) ∧ Owns w m y ps

theorem Owns.lower {w : World} {lo lo' : Nat} {a : Option Addr} {l : List Int} (h : Owns w lo a l) (hl : lo' ≤ lo) : Owns w lo' a l := by
  rcases h with e | ⟨b, rfl, hb, h2, h3⟩
  · exact .inl e
  · exact .inr ⟨b, rfl, Nat.le_trans hl hb, h2, h3⟩

theorem Pair2.make {w0 w w' : World} {lo : Nat} {x y : Option Addr} {cs ps : List Int} (hx : Owns w0 lo x cs) (hlo : lo ≤ w.heap.size) (h0 : Below w0.heap.size w0 w) (hb : Below w.heap.size w w') (hy : Owns w' w.heap.size y ps) : Pair2 w' lo x cs y ps := by
  refine ⟨w.heap.size, hlo, (hx.kept h0).kept hb, ?_, hy⟩
  rcases hx with e | ⟨b, rfl, _, h2, _⟩
  · exact .inl e
  · exact .inr ⟨b, rfl, Nat.lt_of_lt_of_le h2 h0.size⟩

theorem Pair2.kept {w w' : World} {lo : Nat} {x y : Option Addr} {cs ps : List Int} (h : Pair2 w lo x cs y ps) (hb : Below w.heap.size w w') : Pair2 w' lo x cs y ps := by
  obtain ⟨m, h1, h2, h3, h4⟩ := h
  exact ⟨m, h1, h2.kept hb, h3, h4.kept hb⟩

theorem below_setRow (w : World) (g : Nat) (cs : Array Value) : Below g w (w.setRow g cs) :=
  ⟨rfl, rfl, rfl, by simp, fun k hk => setRow_other w g k cs (by omega)⟩

theorem Owns.row {w : World} {lo : Nat} {a : Option Addr} {l : List Int} (h : Owns w lo a l) {g : Nat} (hg : g < lo) (cs : Array Value) : Owns (w.setRow g cs) lo a l := by
  rcases h with e | ⟨b, rfl, hb, h2, h3⟩
  · exact .inl e
  · have hh : (w.setRow g cs).heap[b]? = w.heap[b]? := setRow_other w g b cs (by omega)
    exact .inr ⟨b, rfl, hb, by simpa using h2, fun i hi => ⟨(World.cell?_of_block (w := w) (a := ⟨b, i, none⟩) hh).trans (h3 i hi).1, (World.frozen?_of_block (w := w) (a := ⟨b, i, none⟩) hh).trans (h3 i hi).2⟩⟩

theorem Pair2.row {w : World} {g : Nat} {x y : Option Addr} {cs ps : List Int} (h : Pair2 w (g + 1) x cs y ps) (r : Array Value) : Pair2 (w.setRow g r) g x cs y ps := by
  obtain ⟨m, h1, h2, h3, h4⟩ := h
  exact ⟨m, by omega, (h2.row (by omega) r).lower (by omega), h3, h4.row (by omega) r⟩

theorem ownI_of_row {w : World} {B : Nat} {v : Value} {l : List Int} (h : w.ownsRow B 3 1 v l.length (l.map (Value.int .i64))) : OwnI w B v l.length l := h

set_option maxHeartbeats 2000000 in
set_option maxRecDepth 20000 in
theorem drawn_any (T : TypeId) (V : Value) (fs : Nat) (rs : Value) (fa : Nat) (ra : Value) (wd hi : Nat) (f : Nat → Nat → Int) (hwd : wd ≤ 20) (hhi : hi ≤ 20) (k d : Int) (ca : Option Addr) (cn cc : Nat) (cs : List Int) (w : World)
    (S : Seen T V fs rs fa ra wd hi f w.heap.size w) (hc : Ints w ca cs) (hcn : cs.length = cn) (hcl : cn ≤ 1048576) :
    Calls Tryz.prog 28 #[.iface T V, .int .i64 k, .int .i64 d, .slice ca cn cc] w fun e w' =>
      (∃ x cx y cy, e = .returned (.agg #[.int .i64 k, .int .i64 d, .int .i64 (wd : Int), .int .i64 (hi : Int), .slice x cn cx, .slice y (wd * hi) cy]) ∧ Pair2 w' w.heap.size x cs y (upto (ptF wd f) (wd * hi))) ∧ Below w.heap.size w w' := by
  obtain ⟨i0, hi0, hz0, hz1, hz2⟩ := info_parts info_int
  have ms := S.ms
  have ns := S.ns
  have es := S.es
  have hB0 : Below w.heap.size w (w.alloc (.cells #[.int .i64 0, .int .i64 0, .int .i64 0, .int .i64 0, .slice none 0 0, .slice none 0 0] 25)) := (Below.refl _ _).alloc (Nat.le_refl _) _
  have HS : Hid (Seen T V fs rs fa ra wd hi f w.heap.size w) := S
  have HSZ : Hid (∀ w', Below w.heap.size w w' → Calls Tryz.prog fs #[rs] w' fun e w'' => e = .returned (.tuple #[.int .i64 (wd : Int), .int .i64 (hi : Int)]) ∧ Below w'.heap.size w' w'') := S.size
  have HC : Hid (Ints w ca cs) := hc
  have HCN : Hid (cs.length = cn) := hcn
  clear S hc hcn
  have HZ : Hid ((w.alloc (.cells #[.int .i64 0, .int .i64 0, .int .i64 0, .int .i64 0, .slice none 0 0, .slice none 0 0] 25)).heap[w.heap.size]? = some (.cells #[.int .i64 0, .int .i64 0, .int .i64 0, .int .i64 0, .slice none 0 0, .slice none 0 0] 25 (0, 0))) := heap_alloc_new _ _
  have hmul : wd * hi ≤ 20 * 20 := Nat.mul_le_mul hwd hhi
  go_enter Tryz.func28, Tryz.ntmps28
  go_wp2_with fail
  refine (HSZ.out _ hB0).mono ?_
  rintro e w1 ⟨rfl, b1⟩
  have bel1 : Below w.heap.size w w1 := hB0.trans (b1.mono (by simp))
  have hz1' : w1.heap[w.heap.size]? = some (.cells #[.int .i64 0, .int .i64 0, .int .i64 0, .int .i64 0, .slice none 0 0, .slice none 0 0] 25 (0, 0)) := (b1.block _ (by simp)).trans HZ.out
  have hlt1 : w.heap.size < w1.heap.size := Nat.lt_of_lt_of_le (by simp) b1.size
  have HZ1 : Hid (w1.heap[w.heap.size]? = some (.cells #[.int .i64 0, .int .i64 0, .int .i64 0, .int .i64 0, .slice none 0 0, .slice none 0 0] 25 (0, 0))) := hz1'
  clear b1 hz1' HZ hB0 ms ns es HSZ
  have HI1 : Hid (Ints w1 ca cs) := HC.out.kept bel1
  have HE : Hid (OwnI w1 w1.heap.size (.slice none 0 0) 0 []) := World.ownsRow_nil _ _ _ _
  go_wp2_with (at_builtin; refine wpList_append_ints (by rfl) _ _ (by rfl) w1.heap.size _ 0 [] (by rfl) HE.out ca cn cc cs (by rfl) HI1.out HCN.out (by omega) (Nat.le_refl _) ?_; intro x cx w2 hO2 hG2)
  have b2 : Below w1.heap.size w1 w2 := (Below.refl _ _).grown hG2 (Nat.le_refl _) (fun k hk => by simp [Value.ownBlock] at hk)
  have bel2 : Below w.heap.size w w2 := bel1.trans (b2.mono bel1.size)
  have hz2' : w2.heap[w.heap.size]? = some (.cells #[.int .i64 0, .int .i64 0, .int .i64 0, .int .i64 0, .slice none 0 0, .slice none 0 0] 25 (0, 0)) := (b2.block _ hlt1).trans HZ1.out
  have hlt2 : w.heap.size < w2.heap.size := Nat.lt_of_lt_of_le hlt1 b2.size
  have S2 : Seen T V fs rs fa ra wd hi f w2.heap.size w2 := { HS.out with size := fun w' b => HS.out.size w' (bel2.trans (b.mono bel2.size)), at' := fun w' x y hx hy b => HS.out.at' w' x y hx hy (bel2.trans (b.mono bel2.size)) }
  have HT := points_tells 1 (Nat.le_refl _) T V fs rs fa ra wd hi f hwd hhi w2 S2
  have HCo : Hid (Calls Tryz.prog 39 #[.func (.func 60) #[] #[.pointer (some ⟨w2.heap.size, 0, none⟩)]] (w2.alloc (.cells #[.iface T V] 54)) fun e W' => (∃ v, e = .returned v ∧ W'.ownsRow (w2.alloc (.cells #[.iface T V] 54)).heap.size 3 1 v (upto (ptF wd f) (wd * hi)).length ((upto (ptF wd f) (wd * hi)).map (Value.int .i64)) ∧ (v = .slice none 0 0 ↔ upto (ptF wd f) (wd * hi) = [])) ∧ Below (w2.alloc (.cells #[.iface T V] 54)).heap.size (w2.alloc (.cells #[.iface T V] 54)) W') :=
    collect_any 60 _ (enters_of Tryz.func60 (by kernel_rfl) rfl) _ (by rw [upto_length]; unfold maxLen; omega) (by rw [upto_length]; omega) _ HT
  have HO2 : Hid (Owns w2 w1.heap.size x cs) := by
    have := OwnI.owns hO2
    show Owns _ _ _ _
    simpa using this
  have HZ2 : Hid (w2.heap[w.heap.size]? = some (.cells #[.int .i64 0, .int .i64 0, .int .i64 0, .int .i64 0, .slice none 0 0, .slice none 0 0] 25 (0, 0))) := hz2'
  clear HT S2 hO2 hG2 HE HI1 HZ1 hz2' b2 bel1
  refine (pointsOf_any T V w2).mono ?_
  rintro e w3 ⟨rfl, hw3⟩
  subst hw3
  go_wp2_with fail
  refine HCo.out.mono ?_
  rintro e w4 ⟨⟨v, rfl, hv, _⟩, b4⟩
  have hO4 := ownI_of_row hv
  rw [upto_length] at hO4
  obtain ⟨y, cy, rfl, hOy⟩ := hO4.owns
  have hOx := HO2.out
  have b3 : Below w2.heap.size w2 (w2.alloc (.cells #[.iface T V] 54)) := (Below.refl _ _).alloc (Nat.le_refl _) _
  have hlt3 : w.heap.size < (w2.alloc (.cells #[.iface T V] 54)).heap.size := by simp; omega
  have hz4 : w4.heap[w.heap.size]? = some (.cells #[.int .i64 0, .int .i64 0, .int .i64 0, .int .i64 0, .slice none 0 0, .slice none 0 0] 25 (0, 0)) := (b4.block _ hlt3).trans ((b3.block _ hlt2).trans HZ2.out)
  have bel4 : Below w.heap.size w w4 := (bel2.trans (b3.mono bel2.size)).trans (b4.mono (by simp; omega))
  have HP : Hid (Pair2 w4 (w.heap.size + 1) x cs y (upto (ptF wd f) (wd * hi))) := Pair2.make (hOx.lower (by omega)) (by simp; omega) b3 b4 hOy
  clear hOx hOy hO4 hv HO2 HCo b3 b4 bel2 HZ2
  have hI6 : (Tryz.prog.info? 25).map (·.size) = some (#[Value.int .i64 k, .int .i64 d, .int .i64 (wd : Int), .int .i64 (hi : Int), .slice x cn cx, .slice y (wd * hi) cy]).size := by kernel_rfl
  have h16 : (#[Value.int .i64 k, .int .i64 d, .int .i64 (wd : Int), .int .i64 (hi : Int), .slice x cn cx, .slice y (wd * hi) cy]).all (·.oneCell') = true := by simp [Value.oneCell']
  go_wp2_with (refine wpList_store_row rfl 25 (.tmp 8) (.tmp 27) rfl w.heap.size #[.int .i64 k, .int .i64 d, .int .i64 (wd : Int), .int .i64 (hi : Int), .slice x cn cx, .slice y (wd * hi) cy] rfl rfl 25 #[.int .i64 0, .int .i64 0, .int .i64 0, .int .i64 0, .slice none 0 0, .slice none 0 0] hz4 hI6 rfl h16 ?_)
  have hs2 := setRow_heap w4 w.heap.size _ #[.int .i64 k, .int .i64 d, .int .i64 (wd : Int), .int .i64 (hi : Int), .slice x cn cx, .slice y (wd * hi) cy] _ _ hz4
  refine bodyPost_ret_by (results_cell_row (p := 8) (ty := 25) (by kernel_rfl) _ _ w.heap.size 25 _ (0, 0) _ rfl hs2 Tryz.underlying25 rfl (by kernel_rfl)) rfl ⟨⟨x, cx, y, cy, rfl, ?_⟩, ?_⟩
  · exact HP.out.row _
  · exact bel4.trans (below_setRow _ _ _)
end Go.Proofs.YteldjmocbbbinaaGreatDoor

/- Whether all numbers of a list are within bounds, by a closure. -/
namespace Go.Proofs.YteldjmocbbbinaaGreatDoor
open Go.RowKit

/-- all numbers are in 0 to m -/
def Within (m : Int) (zs : List Int) : Prop := ∀ z ∈ zs, 0 ≤ z ∧ z ≤ m
def withinB (m : Int) (zs : List Int) : Bool := zs.all fun z => decide (0 ≤ z ∧ z ≤ m)
theorem withinB_iff (m : Int) (zs : List Int) : withinB m zs = true ↔ Within m zs := by simp [withinB, Within]
theorem withinB_yes {m : Int} {zs : List Int} (h : Within m zs) : withinB m zs = true := (withinB_iff m zs).2 h
theorem withinB_no {m : Int} {zs : List Int} (h : ¬ Within m zs) : withinB m zs = false := by
  cases g : withinB m zs
  · rfl
  · exact absurd ((withinB_iff m zs).1 g) h

/-- one number is not in 0 to m -/
def beyB (z m : Int) : Bool := !decide (0 ≤ z ∧ z ≤ m)
theorem beyB_yes {z m : Int} (h : ¬ (0 ≤ z ∧ z ≤ m)) : beyB z m = true := by unfold beyB; rw [decide_eq_false h]; rfl
theorem beyB_no {z m : Int} (h : 0 ≤ z ∧ z ≤ m) : beyB z m = false := by unfold beyB; rw [decide_eq_true h]; rfl

set_option maxHeartbeats 400000 in
theorem beyond_any (B : Nat) (z m : Int) (w : World) (h : w.cell? ⟨B, 0, none⟩ = some (.int .i64 m)) :
    Calls Tryz.prog 38 #[.int .i64 z, .pointer (some ⟨B, 0, none⟩)] w fun e w' => e = .returned (.bool (beyB z m)) ∧ w' = w := by
  by_cases h0 : z < 0
  · have d0 : decide (z < 0) = true := by simpa using h0
    have HD : Hid (beyB z m = true) := beyB_yes (by omega)
    go_enter Tryz.func38, Tryz.ntmps38
    go_wp2_with fail
    go_ret
    exact ⟨by rw [HD.out]; rfl, rfl⟩
  · have d0 : decide (z < 0) = false := by simpa using h0
    by_cases h1 : m < z
    · have d1 : decide (m < z) = true := by simpa using h1
      have HD : Hid (beyB z m = true) := beyB_yes (by omega)
      go_enter Tryz.func38, Tryz.ntmps38
      go_wp2_with fail
      go_ret
      exact ⟨by rw [HD.out]; rfl, rfl⟩
    · have d1 : decide (m < z) = false := by simpa using h1
      have HD : Hid (beyB z m = false) := beyB_no (by omega)
      go_enter Tryz.func38, Tryz.ntmps38
      go_wp2_with fail
      go_ret
      exact ⟨by rw [HD.out]; rfl, rfl⟩

set_option maxHeartbeats 400000 in
theorem indexFunc_any (a : Option Addr) (n cap B : Nat) (zs : List Int) (m : Int) (w : World) (h : Ints w a zs) (hn : zs.length = n) (hl : n ≤ 2000000) (hB : w.cell? ⟨B, 0, none⟩ = some (.int .i64 m)) :
    Calls Tryz.prog 58 #[.slice a n cap, .func (.func 38) #[] #[.pointer (some ⟨B, 0, none⟩)]] w fun e w' => (∃ r : Int, e = .returned (.int .i64 r) ∧ decide (0 ≤ r) = !withinB m zs) ∧ w' = w := by
  have HI : Hid (Ints w a zs) := h
  have hzg : n ≤ zs.length := by omega
  have HN : Hid (zs.length = n) := hn
  have HBY : Hid (∀ z : Int, Calls Tryz.prog 38 #[.int .i64 z, .pointer (some ⟨B, 0, none⟩)] w fun e w' => e = .returned (.bool (beyB z m)) ∧ w' = w) := fun z => beyond_any B z m w hB
  clear h hn hB
  go_enter Tryz.func58, Tryz.ntmps58
  go_wp2_with fail
  go_loop [8] (fun i => ∃ k : Nat, k ≤ n ∧ i = .int .i64 k ∧ ∀ j (hj : j < zs.length), j < k → 0 ≤ zs[j] ∧ zs[j] ≤ m) (fun i => n - (intOf i).toNat)
  case atStart => exact ⟨0, Nat.zero_le _, rfl, fun j hj h0 => absurd h0 (by omega)⟩
  case round =>
    obtain ⟨k, hk, rfl, hall⟩ := hrel
    have HA : Hid (∀ j (hj : j < zs.length), j < k → 0 ≤ zs[j] ∧ zs[j] ≤ m) := hall
    clear hall
    by_cases hlt : k < n
    · have hkz : k < zs.length := by omega
      rcases HI.out with h | ⟨b, off, rfl, hbB, hc⟩
      · rw [h] at hkz; simp at hkz
      · have hck := hc k hkz
        have hki : (k : Int) < (n : Int) := by omega
        clear hc
        obtain ⟨x, hx⟩ : ∃ x, x = zs[k] := ⟨_, rfl⟩
        rw [← hx] at hck
        have HX : Hid (x = zs[k]) := hx
        clear hx
        go_wp2_with fail
        refine (HBY.out x).mono ?_
        rintro e w1 ⟨rfl, hw1⟩
        subst hw1
        by_cases he : 0 ≤ x ∧ x ≤ m
        · have HE : Hid (0 ≤ x ∧ x ≤ m) := he
          rw [beyB_no he]
          clear he
          go_wp2_with fail
          go_round
          case rel =>
            refine ⟨k + 1, by omega, by go_num, fun j hj h1 => ?_⟩
            by_cases e : j < k
            · exact HA.out j hj e
            · have : j = k := by omega
              subst this
              rw [← HX.out]; exact HE.out
          case measure => simp [intOf]; omega
        · have HW : Hid (withinB m zs = false) := withinB_no (fun g => he (by have := g zs[k] (List.getElem_mem hkz); rw [← HX.out] at this; exact this))
          rw [beyB_yes he]
          clear he
          go_wp2_with fail
          go_ret
          refine ⟨⟨_, rfl, ?_⟩, rfl⟩
          first | (rw [HW.out]; simp) | simp [HW.out]
    · have HW : Hid (withinB m zs = true) := withinB_yes (fun z hz => by
        obtain ⟨j, hj, rfl⟩ := List.getElem_of_mem hz
        exact HA.out j hj (by have := HN.out; omega))
      have hlt' : ¬ (k : Int) < (n : Int) := by omega
      clear HA
      go_wp2_with fail
      go_ret
      refine ⟨⟨_, rfl, ?_⟩, rfl⟩
      first | (rw [HW.out]; simp) | simp [HW.out]

set_option maxHeartbeats 400000 in
theorem allWithin_any (a : Option Addr) (n cap : Nat) (zs : List Int) (m : Int) (w : World) (h : Ints w a zs) (hn : zs.length = n) (hl : n ≤ 2000000) :
    Calls Tryz.prog 23 #[.slice a n cap, .int .i64 m] w fun e w' => e = .returned (.bool (withinB m zs)) ∧ Below w.heap.size w w' := by
  have bel : Below w.heap.size w (w.alloc (.cells #[.int .i64 m] 3)) := (Below.refl _ _).alloc (Nat.le_refl _) _
  have hI := h.kept bel
  have HC : Hid (Calls Tryz.prog 58 #[.slice a n cap, .func (.func 38) #[] #[.pointer (some ⟨w.heap.size, 0, none⟩)]] (w.alloc (.cells #[.int .i64 m] 3)) fun e w' => (∃ r : Int, e = .returned (.int .i64 r) ∧ decide (0 ≤ r) = !withinB m zs) ∧ w' = w.alloc (.cells #[.int .i64 m] 3)) :=
    indexFunc_any a n cap w.heap.size zs m _ hI hn hl (by rw [World.cell?_alloc_at _ _ _ _ rfl]; rfl)
  have HF : Hid (Calls Tryz.prog 37 #[.slice a n cap, .func (.func 38) #[] #[.pointer (some ⟨w.heap.size, 0, none⟩)]] (w.alloc (.cells #[.int .i64 m] 3)) fun e w' => e = .returned (.bool (!withinB m zs)) ∧ w' = w.alloc (.cells #[.int .i64 m] 3)) := by
    show Calls _ _ _ _ _
    clear h hI
    go_enter Tryz.func37, Tryz.ntmps37
    go_wp2_with fail
    refine HC.out.mono ?_
    rintro e w1 ⟨⟨r, rfl, hr⟩, hw1⟩
    have HR : Hid (decide (0 ≤ r) = !withinB m zs) := hr
    clear hr HC
    go_wp2_with fail
    go_ret
    exact ⟨by rw [← HR.out]; rfl, by first | exact hw1 | rfl⟩
  clear h hI HC
  go_enter Tryz.func23, Tryz.ntmps23
  go_wp2_with fail
  refine HF.out.mono ?_
  rintro e w1 ⟨rfl, hw1⟩
  have b1 : Below w.heap.size w w1 := by rw [hw1]; exact bel
  clear hw1 bel HF
  go_wp2_with fail
  go_ret
  exact ⟨by simp, b1⟩
end Go.Proofs.YteldjmocbbbinaaGreatDoor

/- The depths that a picture's kind can have, and a number found in a list. -/
namespace Go.Proofs.YteldjmocbbbinaaGreatDoor
open Go.RowKit

set_option maxHeartbeats 400000 in
theorem index_any (a : Option Addr) (n cap : Nat) (zs : List Int) (v : Int) (w : World) (h : Ints w a zs) (hn : zs.length = n) (hl : n ≤ 2000000) :
    Calls Tryz.prog 36 #[.slice a n cap, .int .i64 v] w fun e w' => (∃ r : Int, e = .returned (.int .i64 r) ∧ decide (0 ≤ r) = decide (v ∈ zs)) ∧ w' = w := by
  have HI : Hid (Ints w a zs) := h
  have hzg : n ≤ zs.length := by omega
  have HN : Hid (zs.length = n) := hn
  clear h hn
  go_enter Tryz.func36, Tryz.ntmps36
  go_wp2_with fail
  go_loop [8] (fun i => ∃ k : Nat, k ≤ n ∧ i = .int .i64 k ∧ ∀ j (hj : j < zs.length), j < k → zs[j] ≠ v) (fun i => n - (intOf i).toNat)
  case atStart => exact ⟨0, Nat.zero_le _, rfl, fun j hj h0 => absurd h0 (by omega)⟩
  case round =>
    obtain ⟨k, hk, rfl, hall⟩ := hrel
    have HA : Hid (∀ j (hj : j < zs.length), j < k → zs[j] ≠ v) := hall
    clear hall
    by_cases hlt : k < n
    · have hkz : k < zs.length := by omega
      rcases HI.out with h | ⟨b, off, rfl, hbB, hc⟩
      · rw [h] at hkz; simp at hkz
      · have hck := hc k hkz
        have hki : (k : Int) < (n : Int) := by omega
        clear hc
        by_cases he : v = zs[k]
        · have HM : Hid (v ∈ zs) := by rw [he]; exact List.getElem_mem hkz
          rw [← he] at hck
          clear he
          go_wp2_with fail
          go_ret
          exact ⟨⟨_, rfl, ⟨fun _ => HM.out, fun _ => Int.natCast_nonneg _⟩⟩, rfl⟩
        · have HX : Hid (v ≠ zs[k]) := he
          generalize hg : zs[k] = x at *
          have hG : Hid (zs[k] = x) := hg
          clear hg
          go_wp2_with fail
          go_round
          case rel =>
            refine ⟨k + 1, by omega, by go_num, fun j hj h1 => ?_⟩
            by_cases e : j < k
            · exact HA.out j hj e
            · have : j = k := by omega
              subst this
              rw [hG.out]; exact fun q => HX.out q.symm
          case measure => simp [intOf]; omega
    · have hk' : k = n := by omega
      subst hk'
      have HM : Hid (v ∉ zs) := fun hm => by
        obtain ⟨j, hj, e⟩ := List.getElem_of_mem hm
        exact HA.out j hj (by have := HN.out; omega) e
      clear HA
      go_wp2_with fail
      go_ret
      exact ⟨⟨_, rfl, ⟨fun h => absurd h (by omega), fun h => absurd h HM.out⟩⟩, rfl⟩

set_option maxHeartbeats 400000 in
theorem contains_any (a : Option Addr) (n cap : Nat) (zs : List Int) (v : Int) (w : World) (h : Ints w a zs) (hn : zs.length = n) (hl : n ≤ 2000000) :
    Calls Tryz.prog 19 #[.slice a n cap, .int .i64 v] w fun e w' => e = .returned (.bool (decide (v ∈ zs))) ∧ w' = w := by
  have HC : Hid (Calls Tryz.prog 36 #[.slice a n cap, .int .i64 v] w fun e w' => (∃ r : Int, e = .returned (.int .i64 r) ∧ decide (0 ≤ r) = decide (v ∈ zs)) ∧ w' = w) := index_any a n cap zs v w h hn hl
  clear h hn
  go_enter Tryz.func19, Tryz.ntmps19
  go_wp2_with fail
  refine HC.out.mono ?_
  rintro e w1 ⟨⟨r, rfl, hr⟩, hw1⟩
  subst hw1
  have HR : Hid (decide (0 ≤ r) = decide (v ∈ zs)) := hr
  clear hr HC
  go_wp2_with fail
  go_ret
  exact ⟨by rw [← HR.out]; rfl, rfl⟩

/-- the depths of a kind -/
def depL (kind : Int) : List Int := if kind = 1 ∨ kind = 4 then [1, 2, 4, 8] else if kind = 2 then [24] else if kind = 3 then [32] else []
theorem depL_len (kind : Int) : (depL kind).length ≤ 4 := by unfold depL; split; simp; split; simp; split <;> simp

theorem ints_new (w : World) (zs : List Int) (A : Array Value) (hA : A = (zs.map (fun z => Value.int .i64 z)).toArray) : Ints (w.alloc (.cells A 3)) (some ⟨w.heap.size, 0, none⟩) zs := by
  subst hA
  refine .inr ⟨w.heap.size, 0, rfl, by simp, fun i hi => ?_⟩
  rw [World.cell?_alloc_at _ _ _ _ rfl]
  simp [hi]

set_option maxHeartbeats 400000 in
theorem depthsOf_any (kind : Int) (w : World) :
    Calls Tryz.prog 20 #[.int .i64 kind] w fun e w' => (∃ ao c, e = .returned (.slice ao (depL kind).length c) ∧ Ints w' ao (depL kind)) ∧ Below w.heap.size w w' := by
  by_cases h1 : kind = 1
  · subst h1
    go_enter Tryz.func20, Tryz.ntmps20
    go_wp2_with fail
    go_ret
    exact ⟨⟨_, _, rfl, ints_new w [1, 2, 4, 8] _ rfl⟩, (Below.refl _ _).alloc (Nat.le_refl _) _⟩
  · by_cases h4 : kind = 4
    · subst h4
      go_enter Tryz.func20, Tryz.ntmps20
      go_wp2_with fail
      go_ret
      exact ⟨⟨_, _, rfl, ints_new w [1, 2, 4, 8] _ rfl⟩, (Below.refl _ _).alloc (Nat.le_refl _) _⟩
    · by_cases h2 : kind = 2
      · subst h2
        go_enter Tryz.func20, Tryz.ntmps20
        go_wp2_with fail
        go_ret
        exact ⟨⟨_, _, rfl, ints_new w [24] _ rfl⟩, (Below.refl _ _).alloc (Nat.le_refl _) _⟩
      · by_cases h3 : kind = 3
        · subst h3
          go_enter Tryz.func20, Tryz.ntmps20
          go_wp2_with fail
          go_ret
          exact ⟨⟨_, _, rfl, ints_new w [32] _ rfl⟩, (Below.refl _ _).alloc (Nat.le_refl _) _⟩
        · have HD : Hid (depL kind = []) := by show _ = _; unfold depL; rw [if_neg (by omega), if_neg h2, if_neg h3]
          go_enter Tryz.func20, Tryz.ntmps20
          go_wp2_with fail
          go_ret
          rw [HD.out]
          exact ⟨⟨_, _, rfl, .inl rfl⟩, Below.refl _ _⟩
end Go.Proofs.YteldjmocbbbinaaGreatDoor

/- A picture: what it holds, and when it is ok. -/
namespace Go.Proofs.YteldjmocbbbinaaGreatDoor
open Go.RowKit
namespace Im

/-- colours that a picture of that kind and depth can have -/
def ColOk (k d : Int) (cs : List Int) : Prop := (k ≠ 4 → cs.length = 0) ∧ (k = 4 → 1 ≤ cs.length ∧ cs.length ≤ 2 ^ d.toNat ∧ Within 16777215 cs)
/-- the greatest point -/
def most (k d : Int) (cs : List Int) : Int := if k = 4 then (cs.length : Int) - 1 else ((2 ^ d.toNat : Nat) : Int) - 1
/-- a picture that is ok -/
def Ok (k d wd hi : Int) (cs ps : List Int) : Prop := d ∈ depL k ∧ (1 ≤ wd ∧ wd ≤ 20) ∧ (1 ≤ hi ∧ hi ≤ 20) ∧ ColOk k d cs ∧ (ps.length : Int) = wd * hi ∧ Within (most k d cs) ps
open Classical in
noncomputable def okB (k d wd hi : Int) (cs ps : List Int) : Bool := decide (Ok k d wd hi cs ps)
theorem okB_yes {k d wd hi : Int} {cs ps : List Int} (h : Ok k d wd hi cs ps) : okB k d wd hi cs ps = true := @decide_eq_true _ (Classical.propDecidable _) h
theorem okB_no {k d wd hi : Int} {cs ps : List Int} (h : ¬ Ok k d wd hi cs ps) : okB k d wd hi cs ps = false := @decide_eq_false _ (Classical.propDecidable _) h
open Classical in
noncomputable def colB (k d : Int) (cs : List Int) : Bool := decide (ColOk k d cs)
theorem colB_yes {k d : Int} {cs : List Int} (h : ColOk k d cs) : colB k d cs = true := @decide_eq_true _ (Classical.propDecidable _) h
theorem colB_no {k d : Int} {cs : List Int} (h : ¬ ColOk k d cs) : colB k d cs = false := @decide_eq_false _ (Classical.propDecidable _) h

theorem dep4 {d : Int} (h : d ∈ depL 4) : d = 1 ∨ d = 2 ∨ d = 4 ∨ d = 8 := by simpa [depL] using h
theorem dep_all {k d : Int} (h : d ∈ depL k) : ∃ D : Nat, d = (D : Int) ∧ D ≤ 32 ∧ (D = 1 ∨ D = 2 ∨ D = 4 ∨ D = 8 ∨ D = 24 ∨ D = 32) := by
  unfold depL at h
  split at h
  · simp at h; exact ⟨d.toNat, by omega, by omega, by omega⟩
  · split at h
    · simp at h; exact ⟨d.toNat, by omega, by omega, by omega⟩
    · split at h
      · simp at h; exact ⟨d.toNat, by omega, by omega, by omega⟩
      · simp at h
end Im

end Go.Proofs.YteldjmocbbbinaaGreatDoor

/- The colours of a picture, as the program looks at them. -/
namespace Go.Proofs.YteldjmocbbbinaaGreatDoor
open Go.RowKit

set_option maxHeartbeats 400000 in
theorem sizeOk_any (z : Int) (w : World) :
    Calls Tryz.prog 21 #[.int .i64 z] w fun e w' => e = .returned (.bool (!beyB (z - 1) 19)) ∧ w' = w := by
  by_cases h1 : 1 ≤ z
  · have d1 : decide (1 ≤ z) = true := by simpa using h1
    by_cases h2 : z ≤ 20
    · have d2 : decide (z ≤ 20) = true := by simpa using h2
      have HB : Hid (beyB (z - 1) 19 = false) := beyB_no (by omega)
      go_enter Tryz.func21, Tryz.ntmps21
      go_wp2_with fail
      go_ret
      exact ⟨by rw [HB.out]; rfl, rfl⟩
    · have d2 : decide (z ≤ 20) = false := by simpa using h2
      have HB : Hid (beyB (z - 1) 19 = true) := beyB_yes (by omega)
      go_enter Tryz.func21, Tryz.ntmps21
      go_wp2_with fail
      go_ret
      exact ⟨by rw [HB.out]; rfl, rfl⟩
  · have d1 : decide (1 ≤ z) = false := by simpa using h1
    have HB : Hid (beyB (z - 1) 19 = true) := beyB_yes (by omega)
    go_enter Tryz.func21, Tryz.ntmps21
    go_wp2_with fail
    go_ret
    exact ⟨by rw [HB.out]; rfl, rfl⟩

set_option maxHeartbeats 1000000 in
theorem colorsOk_four (D : Nat) (wd hi : Int) (ca : Option Addr) (cn cc : Nat) (pa : Option Addr) (pn pc : Nat) (cs : List Int) (w : World) (h : Ints w ca cs) (hn : cs.length = cn) (hl : cn ≤ 1048576) (hD : D = 1 ∨ D = 2 ∨ D = 4 ∨ D = 8) :
    Calls Tryz.prog 22 #[.agg #[.int .i64 4, .int .i64 (D : Int), .int .i64 wd, .int .i64 hi, .slice ca cn cc, .slice pa pn pc]] w fun e w' => e = .returned (.bool (Im.colB 4 (D : Int) cs)) ∧ Below w.heap.size w w' := by
  have bel : Below w.heap.size w (w.alloc (.cells #[.int .i64 4, .int .i64 (D : Int), .int .i64 wd, .int .i64 hi, .slice ca cn cc, .slice pa pn pc] 25)) := (Below.refl _ _).alloc (Nat.le_refl _) _
  by_cases h1 : 1 ≤ cn
  · by_cases h2 : cn ≤ 2 ^ D
    · have HI : Hid (∀ w', Below w.heap.size w w' → Ints w' ca cs) := fun w' b => h.kept b
      have HN : Hid (cs.length = cn) := hn
      have HC : Hid (Im.colB 4 (D : Int) cs = withinB 16777215 cs) := by
        show _ = _
        by_cases g : Within 16777215 cs
        · rw [withinB_yes g]; exact Im.colB_yes ⟨fun e => absurd rfl e, fun _ => ⟨by omega, by rw [Int.toNat_natCast]; omega, g⟩⟩
        · rw [withinB_no g]; exact Im.colB_no (fun q => g (q.2 rfl).2.2)
      have HW : Hid (∀ w' : World, Ints w' ca cs → Calls Tryz.prog 23 #[.slice ca cn cc, .int .i64 16777215] w' fun e w'' => e = .returned (.bool (withinB 16777215 cs)) ∧ Below w'.heap.size w' w'') := fun w' hI => allWithin_any ca cn cc cs 16777215 w' hI HN.out (by omega)
      have d1 : decide ((1 : Int) ≤ (cn : Int)) = true := by simp; omega
      clear h hn
      generalize withinB 16777215 cs = bb at *
      rcases hD with rfl | rfl | rfl | rfl
      · have d2 : decide ((cn : Int) ≤ 2) = true := by simp; omega
        have d3 : decide ((cn : Int) ≤ IntKind.i64.wrap 2) = true := by rw [show IntKind.i64.wrap 2 = 2 from by decide]; exact d2
        go_enter Tryz.func22, Tryz.ntmps22
        go_wp2_with fail
        go_region_held3 (fun w' => w'.cell? ⟨w.heap.size, 4, none⟩ = some (.slice ca cn cc) ∧ w'.cell? ⟨w.heap.size, 1, none⟩ = some (.int .i64 1)) (go_keep) ((go_at_call 23; refine (HW.out _ (HI.out _ (((Below.refl _ _).alloc (Nat.le_refl _) _).drew))).mono ?_; rintro e w3 ⟨rfl, b3⟩; have k4 : w3.cell? ⟨w.heap.size, 4, none⟩ = some (.slice ca cn cc) := (b3.cell (p := ⟨w.heap.size, 4, none⟩) (by simp)).trans (by show (w.alloc _).cell? _ = _; rw [World.cell?_alloc_at _ _ _ _ rfl]; rfl); have k1 : w3.cell? ⟨w.heap.size, 1, none⟩ = some (.int .i64 1) := (b3.cell (p := ⟨w.heap.size, 1, none⟩) (by simp)).trans (by show (w.alloc _).cell? _ = _; rw [World.cell?_alloc_at _ _ _ _ rfl]; rfl)))
        all_goals
          have bel3 : Below w.heap.size w w3 := (((Below.refl w.heap.size w).alloc (Nat.le_refl _) _).drew).trans (b3.mono (by simp))
          clear b3
          go_wp2_with fail
          go_ret
          exact ⟨by rw [HC.out]; rfl, bel3⟩
      · have d2 : decide ((cn : Int) ≤ 4) = true := by simp; omega
        have d3 : decide ((cn : Int) ≤ IntKind.i64.wrap 4) = true := by rw [show IntKind.i64.wrap 4 = 4 from by decide]; exact d2
        go_enter Tryz.func22, Tryz.ntmps22
        go_wp2_with fail
        go_region_held3 (fun w' => w'.cell? ⟨w.heap.size, 4, none⟩ = some (.slice ca cn cc) ∧ w'.cell? ⟨w.heap.size, 1, none⟩ = some (.int .i64 2)) (go_keep) ((go_at_call 23; refine (HW.out _ (HI.out _ (((Below.refl _ _).alloc (Nat.le_refl _) _).drew))).mono ?_; rintro e w3 ⟨rfl, b3⟩; have k4 : w3.cell? ⟨w.heap.size, 4, none⟩ = some (.slice ca cn cc) := (b3.cell (p := ⟨w.heap.size, 4, none⟩) (by simp)).trans (by show (w.alloc _).cell? _ = _; rw [World.cell?_alloc_at _ _ _ _ rfl]; rfl); have k1 : w3.cell? ⟨w.heap.size, 1, none⟩ = some (.int .i64 2) := (b3.cell (p := ⟨w.heap.size, 1, none⟩) (by simp)).trans (by show (w.alloc _).cell? _ = _; rw [World.cell?_alloc_at _ _ _ _ rfl]; rfl)))
        all_goals
          have bel3 : Below w.heap.size w w3 := (((Below.refl w.heap.size w).alloc (Nat.le_refl _) _).drew).trans (b3.mono (by simp))
          clear b3
          go_wp2_with fail
          go_ret
          exact ⟨by rw [HC.out]; rfl, bel3⟩
      · have d2 : decide ((cn : Int) ≤ 16) = true := by simp; omega
        have d3 : decide ((cn : Int) ≤ IntKind.i64.wrap 16) = true := by rw [show IntKind.i64.wrap 16 = 16 from by decide]; exact d2
        go_enter Tryz.func22, Tryz.ntmps22
        go_wp2_with fail
        go_region_held3 (fun w' => w'.cell? ⟨w.heap.size, 4, none⟩ = some (.slice ca cn cc) ∧ w'.cell? ⟨w.heap.size, 1, none⟩ = some (.int .i64 4)) (go_keep) ((go_at_call 23; refine (HW.out _ (HI.out _ (((Below.refl _ _).alloc (Nat.le_refl _) _).drew))).mono ?_; rintro e w3 ⟨rfl, b3⟩; have k4 : w3.cell? ⟨w.heap.size, 4, none⟩ = some (.slice ca cn cc) := (b3.cell (p := ⟨w.heap.size, 4, none⟩) (by simp)).trans (by show (w.alloc _).cell? _ = _; rw [World.cell?_alloc_at _ _ _ _ rfl]; rfl); have k1 : w3.cell? ⟨w.heap.size, 1, none⟩ = some (.int .i64 4) := (b3.cell (p := ⟨w.heap.size, 1, none⟩) (by simp)).trans (by show (w.alloc _).cell? _ = _; rw [World.cell?_alloc_at _ _ _ _ rfl]; rfl)))
        all_goals
          have bel3 : Below w.heap.size w w3 := (((Below.refl w.heap.size w).alloc (Nat.le_refl _) _).drew).trans (b3.mono (by simp))
          clear b3
          go_wp2_with fail
          go_ret
          exact ⟨by rw [HC.out]; rfl, bel3⟩
      · have d2 : decide ((cn : Int) ≤ 256) = true := by simp; omega
        have d3 : decide ((cn : Int) ≤ IntKind.i64.wrap 256) = true := by rw [show IntKind.i64.wrap 256 = 256 from by decide]; exact d2
        go_enter Tryz.func22, Tryz.ntmps22
        go_wp2_with fail
        go_region_held3 (fun w' => w'.cell? ⟨w.heap.size, 4, none⟩ = some (.slice ca cn cc) ∧ w'.cell? ⟨w.heap.size, 1, none⟩ = some (.int .i64 8)) (go_keep) ((go_at_call 23; refine (HW.out _ (HI.out _ (((Below.refl _ _).alloc (Nat.le_refl _) _).drew))).mono ?_; rintro e w3 ⟨rfl, b3⟩; have k4 : w3.cell? ⟨w.heap.size, 4, none⟩ = some (.slice ca cn cc) := (b3.cell (p := ⟨w.heap.size, 4, none⟩) (by simp)).trans (by show (w.alloc _).cell? _ = _; rw [World.cell?_alloc_at _ _ _ _ rfl]; rfl); have k1 : w3.cell? ⟨w.heap.size, 1, none⟩ = some (.int .i64 8) := (b3.cell (p := ⟨w.heap.size, 1, none⟩) (by simp)).trans (by show (w.alloc _).cell? _ = _; rw [World.cell?_alloc_at _ _ _ _ rfl]; rfl)))
        all_goals
          have bel3 : Below w.heap.size w w3 := (((Below.refl w.heap.size w).alloc (Nat.le_refl _) _).drew).trans (b3.mono (by simp))
          clear b3
          go_wp2_with fail
          go_ret
          exact ⟨by rw [HC.out]; rfl, bel3⟩
    · have HC : Hid (Im.colB 4 (D : Int) cs = false) := Im.colB_no (fun g => h2 (by have := (g.2 rfl).2.1; rw [Int.toNat_natCast] at this; omega))
      have d1 : decide ((1 : Int) ≤ (cn : Int)) = true := by simp; omega
      rcases hD with rfl | rfl | rfl | rfl
      · have d2 : decide ((cn : Int) ≤ 2) = false := by simp; omega
        go_enter Tryz.func22, Tryz.ntmps22
        go_wp2_with fail
        go_quiet (fail)
        go_wp2_with fail
        go_ret
        exact ⟨by rw [HC.out]; rfl, below_drewN bel _⟩
      · have d2 : decide ((cn : Int) ≤ 4) = false := by simp; omega
        go_enter Tryz.func22, Tryz.ntmps22
        go_wp2_with fail
        go_quiet (fail)
        go_wp2_with fail
        go_ret
        exact ⟨by rw [HC.out]; rfl, below_drewN bel _⟩
      · have d2 : decide ((cn : Int) ≤ 16) = false := by simp; omega
        go_enter Tryz.func22, Tryz.ntmps22
        go_wp2_with fail
        go_quiet (fail)
        go_wp2_with fail
        go_ret
        exact ⟨by rw [HC.out]; rfl, below_drewN bel _⟩
      · have d2 : decide ((cn : Int) ≤ 256) = false := by simp; omega
        go_enter Tryz.func22, Tryz.ntmps22
        go_wp2_with fail
        go_quiet (fail)
        go_wp2_with fail
        go_ret
        exact ⟨by rw [HC.out]; rfl, below_drewN bel _⟩
  · have HC : Hid (Im.colB 4 (D : Int) cs = false) := Im.colB_no (fun g => h1 (by have := (g.2 rfl).1; omega))
    have d1 : decide ((1 : Int) ≤ (cn : Int)) = false := by simp; omega
    go_enter Tryz.func22, Tryz.ntmps22
    go_wp2_with fail
    go_quiet (fail)
    go_wp2_with fail
    go_ret
    exact ⟨by rw [HC.out]; rfl, below_drewN bel _⟩
end Go.Proofs.YteldjmocbbbinaaGreatDoor

/- ImageOk of the program. -/
namespace Go.Proofs.YteldjmocbbbinaaGreatDoor
open Go.RowKit

set_option maxHeartbeats 1000000 in
theorem colorsOk_other (k d wd hi : Int) (ca : Option Addr) (cn cc : Nat) (pa : Option Addr) (pn pc : Nat) (cs : List Int) (w : World) (hn : cs.length = cn) (hk : k ≠ 4) :
    Calls Tryz.prog 22 #[.agg #[.int .i64 k, .int .i64 d, .int .i64 wd, .int .i64 hi, .slice ca cn cc, .slice pa pn pc]] w fun e w' => e = .returned (.bool (Im.colB k d cs)) ∧ Below w.heap.size w w' := by
  have bel : Below w.heap.size w (w.alloc (.cells #[.int .i64 k, .int .i64 d, .int .i64 wd, .int .i64 hi, .slice ca cn cc, .slice pa pn pc] 25)) := (Below.refl _ _).alloc (Nat.le_refl _) _
  have hk' : (k == 4) = false := by simpa using hk
  by_cases h0 : cn = 0
  · have HC : Hid (Im.colB k d cs = true) := Im.colB_yes ⟨fun _ => by omega, fun e => absurd e hk⟩
    subst h0
    go_enter Tryz.func22, Tryz.ntmps22
    go_wp2_with fail
    go_ret
    exact ⟨by rw [HC.out]; rfl, bel⟩
  · have HC : Hid (Im.colB k d cs = false) := Im.colB_no (fun g => by have := g.1 hk; omega)
    have h0' : ((cn : Int) == 0) = false := by simp; omega
    go_enter Tryz.func22, Tryz.ntmps22
    go_wp2_with fail
    go_ret
    exact ⟨by rw [HC.out]; first | rfl | simp [h0'], bel⟩

theorem colorsOk_any (k d wd hi : Int) (ca : Option Addr) (cn cc : Nat) (pa : Option Addr) (pn pc : Nat) (cs : List Int) (w : World) (h : Ints w ca cs) (hn : cs.length = cn) (hl : cn ≤ 1048576) (hd : d ∈ depL k) :
    Calls Tryz.prog 22 #[.agg #[.int .i64 k, .int .i64 d, .int .i64 wd, .int .i64 hi, .slice ca cn cc, .slice pa pn pc]] w fun e w' => e = .returned (.bool (Im.colB k d cs)) ∧ Below w.heap.size w w' := by
  by_cases hk : k = 4
  · subst hk
    have h4 := Im.dep4 hd
    obtain ⟨D, rfl⟩ := Int.eq_ofNat_of_zero_le (show 0 ≤ d by omega)
    exact colorsOk_four D wd hi ca cn cc pa pn pc cs w h hn hl (by omega)
  · exact colorsOk_other k d wd hi ca cn cc pa pn pc cs w hn hk

set_option maxHeartbeats 2000000 in
set_option maxRecDepth 20000 in
theorem imageOk_a (k d wd hi : Int) (ca : Option Addr) (cn cc : Nat) (pa : Option Addr) (pn pc : Nat) (w : World) (hd : d ∉ depL k) :
    Calls Tryz.prog 7 #[.agg #[.int .i64 k, .int .i64 d, .int .i64 wd, .int .i64 hi, .slice ca cn cc, .slice pa pn pc]] w fun e w' => e = .returned (.bool false) ∧ Below w.heap.size w w' := by
  have HDS : Hid (∀ w : World, Calls Tryz.prog 20 #[.int .i64 k] w fun e w' => (∃ ao c, e = .returned (.slice ao (depL k).length c) ∧ Ints w' ao (depL k)) ∧ Below w.heap.size w w') := fun w => depthsOf_any k w
  have HCT : Hid (∀ (ao : Option Addr) (c : Nat) (w : World), Ints w ao (depL k) → Calls Tryz.prog 19 #[.slice ao (depL k).length c, .int .i64 d] w fun e w' => e = .returned (.bool false) ∧ w' = w) := by
    intro ao c w hI
    have := contains_any ao _ c (depL k) d w hI rfl (by have := depL_len k; omega)
    rw [decide_eq_false hd] at this; exact this
  clear hd
  generalize (depL k).length = L at *
  go_enter Tryz.func7, Tryz.ntmps7
  go_wp2_with fail
  first | go_region_with (first | (go_at_call 20; refine (HDS.out _).mono ?_; rintro e w2 ⟨⟨ao, c, rfl, hI⟩, b2⟩; have HI : Hid (Ints w2 ao (depL k)) := hI; clear hI; obtain ⟨k0, k1, k2, k3, k4, k5⟩ := box_kept (box_new w _ _ _ _ _ _ 25) (box_drew b2) (by simp)) | (go_at_call 19; refine (HCT.out _ _ _ HI.out).mono ?_; rintro e w3 ⟨rfl, hw3⟩; have hv3 := hw3.symm; subst hv3)) | fail
  all_goals
    have bel : Below w.heap.size w w2 := ((Below.refl w.heap.size w).alloc (Nat.le_refl _) _).trans ((box_drew b2).mono (by simp))
    clear b2
    go_wp2_with fail
    go_ret
    exact ⟨rfl, bel⟩

set_option maxHeartbeats 2000000 in
set_option maxRecDepth 20000 in
theorem imageOk_b (k d wd hi : Int) (ca : Option Addr) (cn cc : Nat) (pa : Option Addr) (pn pc : Nat) (w : World) (hd : d ∈ depL k) (hw : ¬ (1 ≤ wd ∧ wd ≤ 20)) :
    Calls Tryz.prog 7 #[.agg #[.int .i64 k, .int .i64 d, .int .i64 wd, .int .i64 hi, .slice ca cn cc, .slice pa pn pc]] w fun e w' => e = .returned (.bool false) ∧ Below w.heap.size w w' := by
  have HDS : Hid (∀ w : World, Calls Tryz.prog 20 #[.int .i64 k] w fun e w' => (∃ ao c, e = .returned (.slice ao (depL k).length c) ∧ Ints w' ao (depL k)) ∧ Below w.heap.size w w') := fun w => depthsOf_any k w
  have HCT : Hid (∀ (ao : Option Addr) (c : Nat) (w : World), Ints w ao (depL k) → Calls Tryz.prog 19 #[.slice ao (depL k).length c, .int .i64 d] w fun e w' => e = .returned (.bool true) ∧ w' = w) := by
    intro ao c w hI
    have := contains_any ao _ c (depL k) d w hI rfl (by have := depL_len k; omega)
    rw [decide_eq_true hd] at this; exact this
  have HSW : Hid (∀ w : World, Calls Tryz.prog 21 #[.int .i64 wd] w fun e w' => e = .returned (.bool false) ∧ w' = w) := by
    intro w
    have := sizeOk_any wd w
    rw [beyB_yes (by omega)] at this; exact this
  clear hd hw
  generalize (depL k).length = L at *
  go_enter Tryz.func7, Tryz.ntmps7
  go_wp2_with fail
  first | go_region_with (first | (go_at_call 20; refine (HDS.out _).mono ?_; rintro e w2 ⟨⟨ao, c, rfl, hI⟩, b2⟩; have HI : Hid (Ints w2 ao (depL k)) := hI; clear hI; obtain ⟨k0, k1, k2, k3, k4, k5⟩ := box_kept (box_new w _ _ _ _ _ _ 25) (box_drew b2) (by simp)) | (go_at_call 19; refine (HCT.out _ _ _ HI.out).mono ?_; rintro e w3 ⟨rfl, hw3⟩; have hv3 := hw3.symm; subst hv3) | (go_at_call_of 21 (Value.int IntKind.i64 wd); refine (HSW.out _).mono ?_; rintro e w4 ⟨rfl, hw4⟩; have hv4 := hw4.symm; subst hv4)) | fail
  all_goals
    have bel : Below w.heap.size w w2 := ((Below.refl w.heap.size w).alloc (Nat.le_refl _) _).trans ((box_drew b2).mono (by simp))
    clear b2
    go_wp2_with fail
    go_ret
    exact ⟨rfl, bel⟩

set_option maxHeartbeats 2000000 in
set_option maxRecDepth 20000 in
theorem imageOk_c (k d wd hi : Int) (ca : Option Addr) (cn cc : Nat) (pa : Option Addr) (pn pc : Nat) (w : World) (hd : d ∈ depL k) (hw : 1 ≤ wd ∧ wd ≤ 20) (hh : ¬ (1 ≤ hi ∧ hi ≤ 20)) :
    Calls Tryz.prog 7 #[.agg #[.int .i64 k, .int .i64 d, .int .i64 wd, .int .i64 hi, .slice ca cn cc, .slice pa pn pc]] w fun e w' => e = .returned (.bool false) ∧ Below w.heap.size w w' := by
  have HDS : Hid (∀ w : World, Calls Tryz.prog 20 #[.int .i64 k] w fun e w' => (∃ ao c, e = .returned (.slice ao (depL k).length c) ∧ Ints w' ao (depL k)) ∧ Below w.heap.size w w') := fun w => depthsOf_any k w
  have HCT : Hid (∀ (ao : Option Addr) (c : Nat) (w : World), Ints w ao (depL k) → Calls Tryz.prog 19 #[.slice ao (depL k).length c, .int .i64 d] w fun e w' => e = .returned (.bool true) ∧ w' = w) := by
    intro ao c w hI
    have := contains_any ao _ c (depL k) d w hI rfl (by have := depL_len k; omega)
    rw [decide_eq_true hd] at this; exact this
  have HSW : Hid (∀ w : World, Calls Tryz.prog 21 #[.int .i64 wd] w fun e w' => e = .returned (.bool true) ∧ w' = w) := by
    intro w
    have := sizeOk_any wd w
    rw [beyB_no (by omega)] at this; exact this
  have HSH : Hid (∀ w : World, Calls Tryz.prog 21 #[.int .i64 hi] w fun e w' => e = .returned (.bool false) ∧ w' = w) := by
    intro w
    have := sizeOk_any hi w
    rw [beyB_yes (by omega)] at this; exact this
  clear hd hw hh
  generalize (depL k).length = L at *
  go_enter Tryz.func7, Tryz.ntmps7
  go_wp2_with fail
  first | go_region_with (first | (go_at_call 20; refine (HDS.out _).mono ?_; rintro e w2 ⟨⟨ao, c, rfl, hI⟩, b2⟩; have HI : Hid (Ints w2 ao (depL k)) := hI; clear hI; obtain ⟨k0, k1, k2, k3, k4, k5⟩ := box_kept (box_new w _ _ _ _ _ _ 25) (box_drew b2) (by simp)) | (go_at_call 19; refine (HCT.out _ _ _ HI.out).mono ?_; rintro e w3 ⟨rfl, hw3⟩; have hv3 := hw3.symm; subst hv3) | (go_at_call_of 21 (Value.int IntKind.i64 wd); refine (HSW.out _).mono ?_; rintro e w4 ⟨rfl, hw4⟩; have hv4 := hw4.symm; subst hv4) | (go_at_call_of 21 (Value.int IntKind.i64 hi); refine (HSH.out _).mono ?_; rintro e w5 ⟨rfl, hw5⟩; have hv5 := hw5.symm; subst hv5)) | fail
  all_goals
    have bel : Below w.heap.size w w2 := ((Below.refl w.heap.size w).alloc (Nat.le_refl _) _).trans ((box_drew b2).mono (by simp))
    clear b2
    go_wp2_with fail
    go_ret
    exact ⟨rfl, bel⟩

end Go.Proofs.YteldjmocbbbinaaGreatDoor

/- ImageOk of the program: the colours are looked at. -/
namespace Go.Proofs.YteldjmocbbbinaaGreatDoor
open Go.RowKit

set_option maxHeartbeats 2000000 in
set_option maxRecDepth 20000 in
theorem imageOk_d (k d wd hi : Int) (ca : Option Addr) (cn cc : Nat) (pa : Option Addr) (pn pc : Nat) (w : World) (cs : List Int) (hc : Ints w ca cs) (hcn : cs.length = cn) (hcl : cn ≤ 1048576) (hd : d ∈ depL k) (hw : 1 ≤ wd ∧ wd ≤ 20) (hh : 1 ≤ hi ∧ hi ≤ 20) (hco : ¬ Im.ColOk k d cs) :
    Calls Tryz.prog 7 #[.agg #[.int .i64 k, .int .i64 d, .int .i64 wd, .int .i64 hi, .slice ca cn cc, .slice pa pn pc]] w fun e w' => e = .returned (.bool false) ∧ Below w.heap.size w w' := by
  have HDS : Hid (∀ w : World, Calls Tryz.prog 20 #[.int .i64 k] w fun e w' => (∃ ao c, e = .returned (.slice ao (depL k).length c) ∧ Ints w' ao (depL k)) ∧ Below w.heap.size w w') := fun w => depthsOf_any k w
  have HCT : Hid (∀ (ao : Option Addr) (c : Nat) (w : World), Ints w ao (depL k) → Calls Tryz.prog 19 #[.slice ao (depL k).length c, .int .i64 d] w fun e w' => e = .returned (.bool true) ∧ w' = w) := by
    intro ao c w hI
    have := contains_any ao _ c (depL k) d w hI rfl (by have := depL_len k; omega)
    rw [decide_eq_true hd] at this; exact this
  have HSW : Hid (∀ w : World, Calls Tryz.prog 21 #[.int .i64 wd] w fun e w' => e = .returned (.bool true) ∧ w' = w) := by
    intro w
    have := sizeOk_any wd w
    rw [beyB_no (by omega)] at this; exact this
  have HSH : Hid (∀ w : World, Calls Tryz.prog 21 #[.int .i64 hi] w fun e w' => e = .returned (.bool true) ∧ w' = w) := by
    intro w
    have := sizeOk_any hi w
    rw [beyB_no (by omega)] at this; exact this
  have HCO : Hid (∀ w' : World, Ints w' ca cs → Calls Tryz.prog 22 #[.agg #[.int .i64 k, .int .i64 d, .int .i64 wd, .int .i64 hi, .slice ca cn cc, .slice pa pn pc]] w' fun e w'' => e = .returned (.bool false) ∧ Below w'.heap.size w' w'') := by
    intro w' hI
    have := colorsOk_any k d wd hi ca cn cc pa pn pc cs w' hI hcn hcl hd
    rw [Im.colB_no hco] at this; exact this
  have HIC : Hid (∀ w', Below w.heap.size w w' → Ints w' ca cs) := fun w' b => hc.kept b
  clear hd hw hh hco hc hcn
  generalize (depL k).length = L at *
  go_enter Tryz.func7, Tryz.ntmps7
  go_wp2_with fail
  go_region_held3 (fun w' => w'.cell? ⟨w.heap.size, 0, none⟩ = some (.int .i64 k) ∧ w'.cell? ⟨w.heap.size, 1, none⟩ = some (.int .i64 d) ∧ w'.cell? ⟨w.heap.size, 2, none⟩ = some (.int .i64 wd) ∧ w'.cell? ⟨w.heap.size, 3, none⟩ = some (.int .i64 hi) ∧ w'.cell? ⟨w.heap.size, 4, none⟩ = some (.slice ca cn cc) ∧ w'.cell? ⟨w.heap.size, 5, none⟩ = some (.slice pa pn pc)) (go_keep) (first | (go_at_call 20; refine (HDS.out _).mono ?_; rintro e w2 ⟨⟨ao, c, rfl, hI⟩, b2⟩; have HI : Hid (Ints w2 ao (depL k)) := hI; clear hI; obtain ⟨k0, k1, k2, k3, k4, k5⟩ := box_kept (box_new w _ _ _ _ _ _ 25) (box_drew b2) (by simp); have bw2 : Below w.heap.size w w2 := ((Below.refl w.heap.size w).alloc (Nat.le_refl _) _).trans ((box_drew b2).mono (by simp))) | (go_at_call 19; refine (HCT.out _ _ _ HI.out).mono ?_; rintro e w3 ⟨rfl, hw3⟩; have hv3 := hw3.symm; subst hv3) | (go_at_call_of 21 (Value.int IntKind.i64 wd); refine (HSW.out _).mono ?_; rintro e w4 ⟨rfl, hw4⟩; have hv4 := hw4.symm; subst hv4) | (go_at_call_of 21 (Value.int IntKind.i64 hi); refine (HSH.out _).mono ?_; rintro e w5 ⟨rfl, hw5⟩; have hv5 := hw5.symm; subst hv5) | (go_at_call 22; refine (HCO.out _ (HIC.out _ bw2)).mono ?_; rintro e w6 ⟨rfl, b6⟩; obtain ⟨q0, q1, q2, q3, q4, q5⟩ := box_kept ⟨k0, k1, k2, k3, k4, k5⟩ b6 (Nat.lt_of_lt_of_le (by simp) b2.size)))
  all_goals
    have bel : Below w.heap.size w w6 := bw2.trans (b6.mono bw2.size)
    clear b6 bw2
    clear b2
    go_wp2_with fail
    go_ret
    exact ⟨rfl, bel⟩

end Go.Proofs.YteldjmocbbbinaaGreatDoor

/- ImageOk of the program: the points are looked at. -/
namespace Go.Proofs.YteldjmocbbbinaaGreatDoor
open Go.RowKit

/-- what one shift more than a power is -/
theorem pow_pred (D : Nat) : ∃ P : Nat, P + 1 = 2 ^ D := ⟨2 ^ D - 1, by have : 0 < 2 ^ D := Nat.pow_pos (by omega); omega⟩

set_option maxHeartbeats 4000000 in
set_option maxRecDepth 20000 in
theorem imageOk_e (k wd hi : Int) (D : Nat) (ca : Option Addr) (cn cc : Nat) (pa : Option Addr) (pn pc : Nat) (w : World) (cs ps : List Int) (hc : Ints w ca cs) (hcn : cs.length = cn) (hcl : cn ≤ 1048576) (hp : Ints w pa ps) (hpn : ps.length = pn) (hpl : pn ≤ 1048576)
    (hd : (D : Int) ∈ depL k) (hD : D ≤ 32) (hw : 1 ≤ wd ∧ wd ≤ 20) (hh : 1 ≤ hi ∧ hi ≤ 20) (hco : Im.ColOk k (D : Int) cs) :
    Calls Tryz.prog 7 #[.agg #[.int .i64 k, .int .i64 (D : Int), .int .i64 wd, .int .i64 hi, .slice ca cn cc, .slice pa pn pc]] w fun e w' => e = .returned (.bool (Im.okB k (D : Int) wd hi cs ps)) ∧ Below w.heap.size w w' := by
  have HDS : Hid (∀ w : World, Calls Tryz.prog 20 #[.int .i64 k] w fun e w' => (∃ ao c, e = .returned (.slice ao (depL k).length c) ∧ Ints w' ao (depL k)) ∧ Below w.heap.size w w') := fun w => depthsOf_any k w
  have HCT : Hid (∀ (ao : Option Addr) (c : Nat) (w : World), Ints w ao (depL k) → Calls Tryz.prog 19 #[.slice ao (depL k).length c, .int .i64 (D : Int)] w fun e w' => e = .returned (.bool true) ∧ w' = w) := by
    intro ao c w hI
    have := contains_any ao _ c (depL k) (D : Int) w hI rfl (by have := depL_len k; omega)
    rw [decide_eq_true hd] at this; exact this
  have HSW : Hid (∀ w : World, Calls Tryz.prog 21 #[.int .i64 wd] w fun e w' => e = .returned (.bool true) ∧ w' = w) := by
    intro w
    have := sizeOk_any wd w
    rw [beyB_no (by omega)] at this; exact this
  have HSH : Hid (∀ w : World, Calls Tryz.prog 21 #[.int .i64 hi] w fun e w' => e = .returned (.bool true) ∧ w' = w) := by
    intro w
    have := sizeOk_any hi w
    rw [beyB_no (by omega)] at this; exact this
  have HCO : Hid (∀ w' : World, Ints w' ca cs → Calls Tryz.prog 22 #[.agg #[.int .i64 k, .int .i64 (D : Int), .int .i64 wd, .int .i64 hi, .slice ca cn cc, .slice pa pn pc]] w' fun e w'' => e = .returned (.bool true) ∧ Below w'.heap.size w' w'') := by
    intro w' hI
    have := colorsOk_any k (D : Int) wd hi ca cn cc pa pn pc cs w' hI hcn hcl hd
    rw [Im.colB_yes hco] at this; exact this
  have HIC : Hid (∀ w', Below w.heap.size w w' → Ints w' ca cs) := fun w' b => hc.kept b
  have HIP : Hid (∀ w', Below w.heap.size w w' → Ints w' pa ps) := fun w' b => hp.kept b
  have HAW : Hid (∀ (m : Int) (w' : World), Ints w' pa ps → Calls Tryz.prog 23 #[.slice pa pn pc, .int .i64 m] w' fun e w'' => e = .returned (.bool (withinB m ps)) ∧ Below w'.heap.size w' w'') := fun m w' hI => allWithin_any pa pn pc ps m w' hI hpn (by omega)
  obtain ⟨P, hP⟩ := pow_pred D
  have hPb : P + 1 ≤ 4294967296 := by rw [hP]; exact Nat.le_trans (Nat.pow_le_pow_right (by omega) hD) (by decide)
  have HPP : Hid (P + 1 = 2 ^ D) := hP
  have HOK : Hid (Im.okB k (D : Int) wd hi cs ps = (decide ((pn : Int) = wd * hi) && withinB (if k = 4 then (cn : Int) - 1 else (P : Int)) ps)) := by
    show _ = _
    have hm : Im.most k (D : Int) cs = if k = 4 then (cn : Int) - 1 else (P : Int) := by
      unfold Im.most; rw [Int.toNat_natCast, hcn, ← hP]; split <;> simp
    by_cases g : (pn : Int) = wd * hi ∧ Within (if k = 4 then (cn : Int) - 1 else (P : Int)) ps
    · rw [decide_eq_true g.1, withinB_yes g.2]
      exact Im.okB_yes ⟨hd, hw, hh, hco, by rw [hpn]; exact g.1, by rw [hm]; exact g.2⟩
    · have hno : Im.okB k (D : Int) wd hi cs ps = false := Im.okB_no (fun q => g ⟨by have := q.2.2.2.2.1; rw [hpn] at this; exact this, by have := q.2.2.2.2.2; rw [hm] at this; exact this⟩)
      rw [hno]
      by_cases g1 : (pn : Int) = wd * hi
      · rw [withinB_no (fun q => g ⟨g1, q⟩)]; simp
      · rw [decide_eq_false g1]; rfl
  obtain ⟨M, hM⟩ : ∃ M, wd * hi = M := ⟨_, rfl⟩
  have hM1 : 0 ≤ M ∧ M ≤ 400 := by
    obtain ⟨x, hx⟩ := Int.eq_ofNat_of_zero_le (show 0 ≤ wd by omega)
    obtain ⟨y, hy⟩ := Int.eq_ofNat_of_zero_le (show 0 ≤ hi by omega)
    have h1 : x * y ≤ 20 * 20 := Nat.mul_le_mul (by omega) (by omega)
    have h2 : (x : Int) * (y : Int) = ((x * y : Nat) : Int) := by simp
    rw [← hM, hx, hy, h2]
    omega
  obtain ⟨hM2, hM3⟩ := hM1
  rw [hM] at HOK
  have hpow : (2 : Int) ^ D = (P : Int) + 1 := by
    have : ((2 ^ D : Nat) : Int) = (P : Int) + 1 := by rw [← hP]; simp
    rw [← this]; simp
  clear hd hco hc hcn hp hpn hP
  generalize (depL k).length = L at *
  go_enter Tryz.func7, Tryz.ntmps7
  go_wp2_with fail
  go_region_held3 (fun w' => w'.cell? ⟨w.heap.size, 0, none⟩ = some (.int .i64 k) ∧ w'.cell? ⟨w.heap.size, 1, none⟩ = some (.int .i64 (D : Int)) ∧ w'.cell? ⟨w.heap.size, 2, none⟩ = some (.int .i64 wd) ∧ w'.cell? ⟨w.heap.size, 3, none⟩ = some (.int .i64 hi) ∧ w'.cell? ⟨w.heap.size, 4, none⟩ = some (.slice ca cn cc) ∧ w'.cell? ⟨w.heap.size, 5, none⟩ = some (.slice pa pn pc)) (go_keep) (first | (go_at_call 20; refine (HDS.out _).mono ?_; rintro e w2 ⟨⟨ao, c, rfl, hI⟩, b2⟩; have HI : Hid (Ints w2 ao (depL k)) := hI; clear hI; obtain ⟨k0, k1, k2, k3, k4, k5⟩ := box_kept (box_new w _ _ _ _ _ _ 25) (box_drew b2) (by simp); have bw2 : Below w.heap.size w w2 := ((Below.refl w.heap.size w).alloc (Nat.le_refl _) _).trans ((box_drew b2).mono (by simp))) | (go_at_call 19; refine (HCT.out _ _ _ HI.out).mono ?_; rintro e w3 ⟨rfl, hw3⟩; have hv3 := hw3.symm; subst hv3) | (go_at_call_of 21 (Value.int IntKind.i64 wd); refine (HSW.out _).mono ?_; rintro e w4 ⟨rfl, hw4⟩; have hv4 := hw4.symm; subst hv4) | (go_at_call_of 21 (Value.int IntKind.i64 hi); refine (HSH.out _).mono ?_; rintro e w5 ⟨rfl, hw5⟩; have hv5 := hw5.symm; subst hv5) | (go_at_call 22; refine (HCO.out _ (HIC.out _ bw2)).mono ?_; rintro e w6 ⟨rfl, b6⟩; obtain ⟨q0, q1, q2, q3, q4, q5⟩ := box_kept ⟨k0, k1, k2, k3, k4, k5⟩ b6 (Nat.lt_of_lt_of_le (by simp) b2.size)))
  all_goals
    have bel : Below w.heap.size w w6 := bw2.trans (b6.mono bw2.size)
    clear b6 bw2 b2 k0 k1 k2 k3 k4 k5 HI HDS HCT HSW HSH HCO HIC
    have HP6 : Hid (Ints w6 pa ps) := HIP.out _ bel
    clear HIP
    by_cases hk : k = 4
    · subst hk
      by_cases hg : (pn : Int) = M
      · rw [if_pos rfl, decide_eq_true hg] at HOK
        have hg' : ((pn : Int) == M) = true := by simpa using hg
        have HA : Hid (Calls Tryz.prog 23 #[.slice pa pn pc, .int .i64 ((cn : Int) - 1)] w6 fun e w'' => e = .returned (.bool (withinB ((cn : Int) - 1) ps)) ∧ Below w6.heap.size w6 w'') := HAW.out _ w6 HP6.out
        clear hg
        go_wp2_with fail
        refine HA.out.mono ?_
        rintro e w7 ⟨rfl, b7⟩
        go_wp2_with fail
        go_ret
        exact ⟨by rw [HOK.out]; first | rfl | simp, bel.trans (b7.mono bel.size)⟩
      · rw [decide_eq_false hg] at HOK
        have hg' : ((pn : Int) == M) = false := by simpa using hg
        go_wp2_with fail
        go_ret
        exact ⟨by rw [HOK.out]; rfl, bel⟩
    · have hk' : (k == 4) = false := by simpa using hk
      by_cases hg : (pn : Int) = M
      · rw [if_neg hk, decide_eq_true hg] at HOK
        have hg' : ((pn : Int) == M) = true := by simpa using hg
        have HA : Hid (Calls Tryz.prog 23 #[.slice pa pn pc, .int .i64 (P : Int)] w6 fun e w'' => e = .returned (.bool (withinB (P : Int) ps)) ∧ Below w6.heap.size w6 w'') := HAW.out _ w6 HP6.out
        clear hg
        go_wp2_with fail
        refine HA.out.mono ?_
        rintro e w7 ⟨rfl, b7⟩
        go_wp2_with fail
        go_ret
        exact ⟨by rw [HOK.out]; first | rfl | simp, bel.trans (b7.mono bel.size)⟩
      · rw [decide_eq_false hg] at HOK
        have hg' : ((pn : Int) == M) = false := by simpa using hg
        go_wp2_with fail
        go_ret
        exact ⟨by rw [HOK.out]; rfl, bel⟩

theorem impl_imageOk (k d wd hi : Int) (ca : Option Addr) (cn cc : Nat) (pa : Option Addr) (pn pc : Nat) (w : World) (cs ps : List Int) (hc : Ints w ca cs) (hcn : cs.length = cn) (hcl : cn ≤ 1048576) (hp : Ints w pa ps) (hpn : ps.length = pn) (hpl : pn ≤ 1048576) :
    Calls Tryz.prog 7 #[.agg #[.int .i64 k, .int .i64 d, .int .i64 wd, .int .i64 hi, .slice ca cn cc, .slice pa pn pc]] w fun e w' => e = .returned (.bool (Im.okB k d wd hi cs ps)) ∧ Below w.heap.size w w' := by
  by_cases hd : d ∈ depL k
  · by_cases hw : 1 ≤ wd ∧ wd ≤ 20
    · by_cases hh : 1 ≤ hi ∧ hi ≤ 20
      · by_cases hco : Im.ColOk k d cs
        · obtain ⟨D, rfl, hD, _⟩ := Im.dep_all hd
          exact imageOk_e k wd hi D ca cn cc pa pn pc w cs ps hc hcn hcl hp hpn hpl hd hD hw hh hco
        · rw [Im.okB_no (fun g => hco g.2.2.2.1)]
          exact imageOk_d k d wd hi ca cn cc pa pn pc w cs hc hcn hcl hd hw hh hco
      · rw [Im.okB_no (fun g => hh g.2.2.1)]
        exact imageOk_c k d wd hi ca cn cc pa pn pc w hd hw hh
    · rw [Im.okB_no (fun g => hw g.2.1)]
      exact imageOk_b k d wd hi ca cn cc pa pn pc w hd hw
  · rw [Im.okB_no (fun g => hd g.1)]
    exact imageOk_a k d wd hi ca cn cc pa pn pc w hd
end Go.Proofs.YteldjmocbbbinaaGreatDoor

/- Whether a number is within limits. -/
namespace Go.Proofs.YteldjmocbbbinaaGreatDoor
open Go.RowKit

set_option maxHeartbeats 400000 in
theorem l1In_yes (n lo hi : Int) (w : World) (h1 : lo ≤ n) (h2 : n ≤ hi) :
    Calls Tryz.prog 25 #[.int .i64 n, .int .i64 lo, .int .i64 hi] w fun e w' => e = .returned (.bool true) ∧ w' = w := by
  have hd : decide (n ≤ hi) = true := by simp; omega
  go_enter Tryz.func25, Tryz.ntmps25
  go_wp2
  go_ret
  exact ⟨rfl, rfl⟩

set_option maxHeartbeats 400000 in
theorem l1In_no (n lo hi : Int) (w : World) (h : ¬ (lo ≤ n ∧ n ≤ hi)) :
    Calls Tryz.prog 25 #[.int .i64 n, .int .i64 lo, .int .i64 hi] w fun e w' => e = .returned (.bool false) ∧ w' = w := by
  by_cases h1 : lo ≤ n
  · have hd : decide (n ≤ hi) = false := by simp; omega
    clear h
    go_enter Tryz.func25, Tryz.ntmps25
    go_wp2
    go_ret
    exact ⟨rfl, rfl⟩
  · have hd : decide (lo ≤ n) = false := by simp; omega
    clear h
    go_enter Tryz.func25, Tryz.ntmps25
    go_wp2
    go_ret
    exact ⟨rfl, rfl⟩

end Go.Proofs.YteldjmocbbbinaaGreatDoor

/- ImageOk of the specification. -/
namespace Go.Proofs.YteldjmocbbbinaaGreatDoor
open Go.RowKit

/-- a depth of a kind, told -/
def depKB (k d : Int) : Bool := decide (d ∈ depL k)
theorem depKB_yes {k d : Int} (h : d ∈ depL k) : depKB k d = true := decide_eq_true h
theorem depKB_no {k d : Int} (h : d ∉ depL k) : depKB k d = false := decide_eq_false h

set_option maxHeartbeats 400000 in
theorem l8Depth_four (k d : Int) (w : World) (hk : k = 1 ∨ k = 4) :
    Calls Tryz.prog 24 #[.int .i64 k, .int .i64 d] w fun e w' => e = .returned (.bool (depKB k d)) ∧ w' = w := by
  have hL : depL k = [1, 2, 4, 8] := by unfold depL; rw [if_pos hk]
  have e1k : (k == 1) = true ∨ (k == 1) = false := by cases (k == 1) <;> simp
  by_cases h1 : d = 1
  · have HB : Hid (depKB k d = true) := depKB_yes (by rw [hL, h1]; simp)
    subst h1
    rcases hk with rfl | rfl
    all_goals
      go_enter Tryz.func24, Tryz.ntmps24
      go_wp2_with fail
      go_ret
      exact ⟨by rw [HB.out]; rfl, rfl⟩
  · by_cases h2 : d = 2
    · have HB : Hid (depKB k d = true) := depKB_yes (by rw [hL, h2]; simp)
      subst h2
      rcases hk with rfl | rfl
      all_goals
        go_enter Tryz.func24, Tryz.ntmps24
        go_wp2_with fail
        go_ret
        exact ⟨by rw [HB.out]; rfl, rfl⟩
    · by_cases h4 : d = 4
      · have HB : Hid (depKB k d = true) := depKB_yes (by rw [hL, h4]; simp)
        subst h4
        rcases hk with rfl | rfl
        all_goals
          go_enter Tryz.func24, Tryz.ntmps24
          go_wp2_with fail
          go_ret
          exact ⟨by rw [HB.out]; rfl, rfl⟩
      · have e1 : (d == 1) = false := by simpa using h1
        have e2 : (d == 2) = false := by simpa using h2
        have e4 : (d == 4) = false := by simpa using h4
        by_cases h8 : d = 8
        · have HB : Hid (depKB k d = true) := depKB_yes (by rw [hL, h8]; simp)
          subst h8
          rcases hk with rfl | rfl
          all_goals
            go_enter Tryz.func24, Tryz.ntmps24
            go_wp2_with fail
            go_ret
            exact ⟨by rw [HB.out]; rfl, rfl⟩
        · have e8 : (d == 8) = false := by simpa using h8
          have HB : Hid (depKB k d = false) := depKB_no (by rw [hL]; simp; omega)
          rcases hk with rfl | rfl
          all_goals
            go_enter Tryz.func24, Tryz.ntmps24
            go_wp2_with fail
            go_ret
            exact ⟨by rw [HB.out]; rfl, rfl⟩

set_option maxHeartbeats 400000 in
theorem l8Depth_any (k d : Int) (w : World) :
    Calls Tryz.prog 24 #[.int .i64 k, .int .i64 d] w fun e w' => e = .returned (.bool (depKB k d)) ∧ w' = w := by
  by_cases hk : k = 1 ∨ k = 4
  · exact l8Depth_four k d w hk
  · have k1 : (k == 1) = false := by simp; omega
    have k4 : (k == 4) = false := by simp; omega
    by_cases h2 : k = 2
    · have hL : depL k = [24] := by unfold depL; rw [if_neg hk, if_pos h2]
      subst h2
      by_cases hd : d = 24
      · have HB : Hid (depKB 2 d = true) := depKB_yes (by rw [hL, hd]; simp)
        subst hd
        go_enter Tryz.func24, Tryz.ntmps24
        go_wp2_with fail
        go_ret
        exact ⟨by rw [HB.out]; rfl, rfl⟩
      · have HB : Hid (depKB 2 d = false) := depKB_no (by rw [hL]; simpa using hd)
        have e1 : (d == 24) = false := by simpa using hd
        go_enter Tryz.func24, Tryz.ntmps24
        go_wp2_with fail
        go_ret
        exact ⟨by rw [HB.out]; first | rfl | simp [e1], rfl⟩
    · have k2 : (k == 2) = false := by simpa using h2
      by_cases h3 : k = 3
      · have hL : depL k = [32] := by unfold depL; rw [if_neg hk, if_neg h2, if_pos h3]
        subst h3
        by_cases hd : d = 32
        · have HB : Hid (depKB 3 d = true) := depKB_yes (by rw [hL, hd]; simp)
          subst hd
          go_enter Tryz.func24, Tryz.ntmps24
          go_wp2_with fail
          go_ret
          exact ⟨by rw [HB.out]; rfl, rfl⟩
        · have HB : Hid (depKB 3 d = false) := depKB_no (by rw [hL]; simpa using hd)
          have e1 : (d == 32) = false := by simpa using hd
          go_enter Tryz.func24, Tryz.ntmps24
          go_wp2_with fail
          go_ret
          exact ⟨by rw [HB.out]; first | rfl | simp [e1], rfl⟩
      · have k3 : (k == 3) = false := by simpa using h3
        have HB : Hid (depKB k d = false) := depKB_no (by unfold depL; rw [if_neg hk, if_neg h2, if_neg h3]; simp)
        go_enter Tryz.func24, Tryz.ntmps24
        go_wp2_with fail
        go_ret
        exact ⟨by rw [HB.out]; rfl, rfl⟩
end Go.Proofs.YteldjmocbbbinaaGreatDoor

/- The colours of a picture, as the specification looks at them; ImageOk of the specification. -/
namespace Go.Proofs.YteldjmocbbbinaaGreatDoor
open Go.RowKit

set_option maxHeartbeats 1000000 in
set_option maxRecDepth 20000 in
theorem l8Colors_any (k wd hi : Int) (D : Nat) (ca : Option Addr) (cn cc : Nat) (pa : Option Addr) (pn pc : Nat) (cs : List Int) (w : World) (h : Ints w ca cs) (hn : cs.length = cn) (hl : cn ≤ 1048576) (hD : D ≤ 32) :
    Calls Tryz.prog 26 #[.agg #[.int .i64 k, .int .i64 D, .int .i64 wd, .int .i64 hi, .slice ca cn cc, .slice pa pn pc]] w fun e w' => e = .returned (.bool (Im.colB k D cs)) ∧ Below w.heap.size w w' := by
  have bel : Below w.heap.size w (w.alloc (.cells #[.int .i64 k, .int .i64 (D : Int), .int .i64 wd, .int .i64 hi, .slice ca cn cc, .slice pa pn pc] 25)) := (Below.refl _ _).alloc (Nat.le_refl _) _
  have HI : Hid (Ints (w.alloc (.cells #[.int .i64 k, .int .i64 (D : Int), .int .i64 wd, .int .i64 hi, .slice ca cn cc, .slice pa pn pc] 25)) ca cs) := h.kept bel
  have HN : Hid (cs.length = cn) := hn
  have hzg : cn ≤ cs.length := by omega
  have HB : Hid (Below w.heap.size w (w.alloc (.cells #[.int .i64 k, .int .i64 (D : Int), .int .i64 wd, .int .i64 hi, .slice ca cn cc, .slice pa pn pc] 25))) := bel
  clear h hn bel
  go_enter Tryz.func26, Tryz.ntmps26
  go_wp2_with fail
  go_loop [3] (fun i => ∃ j : Nat, j ≤ cn ∧ i = .int .i64 j ∧ ∀ q (hq : q < cs.length), q < j → 0 ≤ cs[q] ∧ cs[q] ≤ 16777215) (fun i => cn - (intOf i).toNat)
  case atStart => exact ⟨0, Nat.zero_le _, rfl, fun j hj h0 => absurd h0 (by omega)⟩
  case round =>
    obtain ⟨j, hj, rfl, hall⟩ := hrel
    have HA : Hid (∀ q (hq : q < cs.length), q < j → 0 ≤ cs[q] ∧ cs[q] ≤ 16777215) := hall
    clear hall
    by_cases hlt : j < cn
    · have hjz : j < cs.length := by omega
      rcases HI.out with h | ⟨b, off, rfl, hbB, hc⟩
      · rw [h] at hjz; simp at hjz
      · have hck := hc j hjz
        have hji : (j : Int) < (cn : Int) := by omega
        clear hc
        obtain ⟨x, hx⟩ : ∃ x, x = cs[j] := ⟨_, rfl⟩
        rw [← hx] at hck
        have HX : Hid (x = cs[j]) := hx
        clear hx
        by_cases he : 0 ≤ x ∧ x ≤ 16777215
        · have HE : Hid (0 ≤ x ∧ x ≤ 16777215) := he
          clear he
          go_wp2_with fail
          refine (l1In_yes _ _ _ _ HE.out.1 HE.out.2).mono ?_
          rintro e w1 ⟨rfl, hw1⟩
          subst hw1
          go_wp2_with fail
          go_round
          case rel =>
            refine ⟨j + 1, by omega, by go_num, fun q hq h1 => ?_⟩
            by_cases e : q < j
            · exact HA.out q hq e
            · have : q = j := by omega
              subst this
              rw [← HX.out]; exact HE.out
          case measure => simp [intOf]; omega
        · have HC : Hid (Im.colB k (D : Int) cs = false) := Im.colB_no (fun g => by
            by_cases hk : k = 4
            · have := (g.2 hk).2.2 cs[j] (List.getElem_mem hjz)
              rw [← HX.out] at this
              exact he this
            · have := g.1 hk; omega)
          have HE : Hid (¬ (0 ≤ x ∧ x ≤ 16777215)) := he
          clear he
          go_wp2_with fail
          refine (l1In_no _ _ _ _ HE.out).mono ?_
          rintro e w1 ⟨rfl, hw1⟩
          have hw1' : Below w.heap.size w w1 := by rw [hw1]; exact HB.out
          clear hw1
          go_wp2_with fail
          go_ret
          exact ⟨by rw [HC.out]; rfl, hw1'⟩
    · have hW : Within 16777215 cs := by
        intro z hz
        obtain ⟨q, hq, rfl⟩ := List.getElem_of_mem hz
        exact HA.out q hq (by have := HN.out; omega)
      have hlt' : ¬ (j : Int) < (cn : Int) := by omega
      clear HA
      by_cases hk : k = 4
      · subst hk
        obtain ⟨Q, hQ⟩ : ∃ Q, Q = 2 ^ D := ⟨_, rfl⟩
        have hQb : Q ≤ 4294967296 := by rw [hQ]; exact Nat.le_trans (Nat.pow_le_pow_right (by omega) hD) (by decide)
        have HP : Hid (∀ w : World, Calls Tryz.prog 27 #[.int .i64 (D : Int)] w fun e w' => e = .returned (.int .i64 (Q : Int)) ∧ w' = w) := by
          intro w; rw [hQ]; exact l1Pow_any D w (by omega)
        by_cases hin : 1 ≤ cn ∧ cn ≤ Q
        · have HC : Hid (Im.colB 4 (D : Int) cs = true) := Im.colB_yes ⟨fun e => absurd rfl e, fun _ => ⟨by have := HN.out; omega, by rw [Int.toNat_natCast, ← hQ]; have := HN.out; omega, hW⟩⟩
          have h1 : (1 : Int) ≤ (cn : Int) := by omega
          have h2 : (cn : Int) ≤ (Q : Int) := by omega
          clear hW hQ hin
          go_wp2_with fail
          go_region_held3 (fun w' => w'.cell? ⟨w.heap.size, 4, none⟩ = some (.slice ca cn cc) ∧ w'.cell? ⟨w.heap.size, 1, none⟩ = some (.int .i64 (D : Int))) (go_keep) (first | (go_at_call 25; refine (l1In_yes _ _ _ _ h1 h2).mono ?_; rintro e w' ⟨rfl, rfl⟩) | (go_at_call 27; refine (HP.out _).mono ?_; rintro e w' ⟨rfl, rfl⟩))
          all_goals
            go_wp2_with fail
            go_ret
            exact ⟨by rw [HC.out]; rfl, HB.out.drew⟩
        · have HC : Hid (Im.colB 4 (D : Int) cs = false) := Im.colB_no (fun g => hin (by
            have := g.2 rfl
            rw [Int.toNat_natCast, ← hQ] at this
            have h9 := HN.out
            omega))
          have h1 : ¬ ((1 : Int) ≤ (cn : Int) ∧ (cn : Int) ≤ (Q : Int)) := by omega
          clear hW hQ hin
          go_wp2_with fail
          go_region_held3 (fun w' => w'.cell? ⟨w.heap.size, 4, none⟩ = some (.slice ca cn cc) ∧ w'.cell? ⟨w.heap.size, 1, none⟩ = some (.int .i64 (D : Int))) (go_keep) (first | (go_at_call 25; refine (l1In_no _ _ _ _ h1).mono ?_; rintro e w' ⟨rfl, rfl⟩) | (go_at_call 27; refine (HP.out _).mono ?_; rintro e w' ⟨rfl, rfl⟩))
          all_goals
            go_wp2_with fail
            go_ret
            exact ⟨by rw [HC.out]; rfl, HB.out.drew⟩
      · have hk' : (k == 4) = false := by simpa using hk
        by_cases h0 : cn = 0
        · have HC : Hid (Im.colB k (D : Int) cs = true) := Im.colB_yes ⟨fun _ => by have := HN.out; omega, fun e => absurd e hk⟩
          have h0' : ((cn : Int) == 0) = true := by simp; omega
          clear hW
          go_wp2_with fail
          go_ret
          exact ⟨by rw [HC.out]; first | rfl | simp [h0'], (Below.refl _ _).alloc (Nat.le_refl _) _⟩
        · have HC : Hid (Im.colB k (D : Int) cs = false) := Im.colB_no (fun g => by have := g.1 hk; have := HN.out; omega)
          have h0' : ((cn : Int) == 0) = false := by simp; omega
          clear hW
          go_wp2_with fail
          go_ret
          exact ⟨by rw [HC.out]; first | rfl | simp [h0'], (Below.refl _ _).alloc (Nat.le_refl _) _⟩
end Go.Proofs.YteldjmocbbbinaaGreatDoor

/- ImageOk of the specification, for every picture. -/
namespace Go.Proofs.YteldjmocbbbinaaGreatDoor
open Go.RowKit

set_option maxHeartbeats 4000000 in
set_option maxRecDepth 20000 in
theorem specOk_e (k wd hi M : Int) (D P : Nat) (ca : Option Addr) (cn cc : Nat) (pa : Option Addr) (pn pc : Nat) (w : World) (cs ps : List Int) (hc : Ints w ca cs) (hcn : cs.length = cn) (hcl : cn ≤ 1048576) (hp : Ints w pa ps) (hpn : ps.length = pn)
    (hd : (D : Int) ∈ depL k) (hD : D ≤ 32) (hw : 1 ≤ wd ∧ wd ≤ 20) (hh : 1 ≤ hi ∧ hi ≤ 20) (hM : wd * hi = M) (hM2 : 0 ≤ M) (hM3 : M ≤ 400) (hpm : (pn : Int) = M) (hco : Im.ColOk k (D : Int) cs) (hP : P + 1 = 2 ^ D) :
    Calls Tryz.prog 8 #[.agg #[.int .i64 k, .int .i64 (D : Int), .int .i64 wd, .int .i64 hi, .slice ca cn cc, .slice pa pn pc]] w fun e w' => e = .returned (.bool (withinB (if k = 4 then (cn : Int) - 1 else (P : Int)) ps)) ∧ Below w.heap.size w w' := by
  have HDP : Hid (∀ w : World, Calls Tryz.prog 24 #[.int .i64 k, .int .i64 (D : Int)] w fun e w' => e = .returned (.bool true) ∧ w' = w) := by
    intro w; have := l8Depth_any k (D : Int) w; rw [depKB_yes hd] at this; exact this
  have HCO : Hid (∀ w' : World, Ints w' ca cs → Calls Tryz.prog 26 #[.agg #[.int .i64 k, .int .i64 (D : Int), .int .i64 wd, .int .i64 hi, .slice ca cn cc, .slice pa pn pc]] w' fun e w'' => e = .returned (.bool true) ∧ Below w'.heap.size w' w'') := by
    intro w' hI
    have := l8Colors_any k wd hi D ca cn cc pa pn pc cs w' hI hcn hcl hD
    rw [Im.colB_yes hco] at this; exact this
  have HPW : Hid (∀ w : World, Calls Tryz.prog 27 #[.int .i64 (D : Int)] w fun e w' => e = .returned (.int .i64 ((P : Int) + 1)) ∧ w' = w) := by
    intro w
    have := l1Pow_any D w (by omega)
    rw [← hP] at this; exact this
  have hPb : P + 1 ≤ 4294967296 := by rw [hP]; exact Nat.le_trans (Nat.pow_le_pow_right (by omega) hD) (by decide)
  obtain ⟨mo, hmo⟩ : ∃ mo : Int, mo = if k = 4 then (cn : Int) - 1 else (P : Int) := ⟨_, rfl⟩
  have HMO : Hid (mo = if k = 4 then (cn : Int) - 1 else (P : Int)) := hmo
  rw [← hmo]
  have HIC : Hid (∀ w', Below w.heap.size w w' → Ints w' ca cs) := fun w' b => hc.kept b
  have HIP : Hid (∀ w', Below w.heap.size w w' → Ints w' pa ps) := fun w' b => hp.kept b
  have HPN : Hid (ps.length = pn) := hpn
  have hzg : pn ≤ ps.length := by omega
  have hne : ((pn : Int) == M) = true := by simpa using hpm
  have HPM : Hid ((pn : Int) = M) := hpm
  clear hd hco hc hp hmo hP hcn hpn hpm
  have hB0 : Below w.heap.size w (w.alloc (.cells #[.int .i64 k, .int .i64 (D : Int), .int .i64 wd, .int .i64 hi, .slice ca cn cc, .slice pa pn pc] 25)) := (Below.refl _ _).alloc (Nat.le_refl _) _
  go_enter Tryz.func8, Tryz.ntmps8
  go_wp2_with fail
  refine (HDP.out _).mono ?_
  rintro e w1 ⟨rfl, hw1⟩
  subst hw1
  go_wp2_with fail
  refine (l1In_yes _ _ _ _ hw.1 hw.2).mono ?_
  rintro e w1 ⟨rfl, hw1⟩
  subst hw1
  go_wp2_with fail
  refine (l1In_yes _ _ _ _ hh.1 hh.2).mono ?_
  rintro e w1 ⟨rfl, hw1⟩
  subst hw1
  go_wp2_with fail
  refine (HCO.out _ (HIC.out _ hB0)).mono ?_
  rintro e w2 ⟨rfl, b2⟩
  have bel2 : Below w.heap.size w w2 := hB0.trans (b2.mono (by simp))
  obtain ⟨k0, k1, k2, k3, k4, k5⟩ := box_kept (box_new w _ _ _ _ _ _ 25) b2 (by simp)
  have HP2 : Hid (Ints w2 pa ps) := HIP.out _ bel2
  clear b2 hB0 HCO HIC HIP HDP
  go_wp2_with fail
  refine (HPW.out _).mono ?_
  rintro e w3 ⟨rfl, hw3⟩
  have hv3 := hw3.symm
  subst hv3
  by_cases hk : k = 4
  · have hmo : mo = (cn : Int) - 1 := by rw [HMO.out, if_pos hk]
    subst hk
    have HMM : Hid (mo = (cn : Int) - 1) := hmo
    clear hmo
    · go_wp2_with fail
      go_loop [4] (fun i => ∃ j : Nat, j ≤ pn ∧ i = .int .i64 j ∧ ∀ q (hq : q < ps.length), q < j → 0 ≤ ps[q] ∧ ps[q] ≤ mo) (fun i => pn - (intOf i).toNat)
      case atStart => exact ⟨0, Nat.zero_le _, rfl, fun j hj h0 => absurd h0 (by omega)⟩
      case round =>
        obtain ⟨j, hj, rfl, hall⟩ := hrel
        have HA : Hid (∀ q (hq : q < ps.length), q < j → 0 ≤ ps[q] ∧ ps[q] ≤ mo) := hall
        clear hall
        by_cases hlt : j < pn
        · have hjz : j < ps.length := by omega
          rcases HP2.out with h | ⟨b, off, rfl, hbB, hcc⟩
          · rw [h] at hjz; simp at hjz
          · have hck := hcc j hjz
            have hji : (j : Int) < (pn : Int) := by omega
            clear hcc
            obtain ⟨x, hx⟩ : ∃ x, x = ps[j] := ⟨_, rfl⟩
            rw [← hx] at hck
            have HX : Hid (x = ps[j]) := hx
            clear hx
            by_cases he : 0 ≤ x ∧ x ≤ mo
            · have HE : Hid (0 ≤ x ∧ x ≤ mo) := he
              clear he
              go_wp2_with fail
              refine (l1In_yes _ _ _ _ HE.out.1 (by have := HE.out.2; have := HMM.out; omega)).mono ?_
              rintro e w4 ⟨rfl, hw4⟩
              subst hw4
              go_wp2_with fail
              go_round
              case rel =>
                refine ⟨j + 1, by omega, by go_num, fun q hq h1 => ?_⟩
                by_cases e : q < j
                · exact HA.out q hq e
                · have : q = j := by omega
                  subst this
                  rw [← HX.out]; exact HE.out
              case measure => simp [intOf]; omega
            · have HC : Hid (withinB mo ps = false) := withinB_no (fun g => he (by have := g ps[j] (List.getElem_mem hjz); rw [← HX.out] at this; exact this))
              have HE : Hid (¬ (0 ≤ x ∧ x ≤ mo)) := he
              clear he
              go_wp2_with fail
              refine (l1In_no _ _ _ _ (by have := HE.out; have := HMM.out; omega)).mono ?_
              rintro e w4 ⟨rfl, hw4⟩
              have bel4 : Below w.heap.size w w4 := by rw [hw4]; exact bel2
              clear hw4
              go_wp2_with fail
              go_ret
              exact ⟨by rw [HC.out]; rfl, bel4⟩
        · have HC : Hid (withinB mo ps = true) := withinB_yes (fun z hz => by
            obtain ⟨q, hq, rfl⟩ := List.getElem_of_mem hz
            exact HA.out q hq (by have := HPN.out; omega))
          have hlt' : ¬ (j : Int) < (pn : Int) := by omega
          clear HA
          go_wp2_with fail
          go_ret
          exact ⟨by rw [HC.out]; rfl, bel2⟩
  · have hk' : (k == 4) = false := by simpa using hk
    have hmo : mo = (P : Int) := by rw [HMO.out, if_neg hk]
    have HMM : Hid (mo = (P : Int)) := hmo
    clear hmo
    · go_wp2_with fail
      go_loop [4] (fun i => ∃ j : Nat, j ≤ pn ∧ i = .int .i64 j ∧ ∀ q (hq : q < ps.length), q < j → 0 ≤ ps[q] ∧ ps[q] ≤ mo) (fun i => pn - (intOf i).toNat)
      case atStart => exact ⟨0, Nat.zero_le _, rfl, fun j hj h0 => absurd h0 (by omega)⟩
      case round =>
        obtain ⟨j, hj, rfl, hall⟩ := hrel
        have HA : Hid (∀ q (hq : q < ps.length), q < j → 0 ≤ ps[q] ∧ ps[q] ≤ mo) := hall
        clear hall
        by_cases hlt : j < pn
        · have hjz : j < ps.length := by omega
          rcases HP2.out with h | ⟨b, off, rfl, hbB, hcc⟩
          · rw [h] at hjz; simp at hjz
          · have hck := hcc j hjz
            have hji : (j : Int) < (pn : Int) := by omega
            clear hcc
            obtain ⟨x, hx⟩ : ∃ x, x = ps[j] := ⟨_, rfl⟩
            rw [← hx] at hck
            have HX : Hid (x = ps[j]) := hx
            clear hx
            by_cases he : 0 ≤ x ∧ x ≤ mo
            · have HE : Hid (0 ≤ x ∧ x ≤ mo) := he
              clear he
              go_wp2_with fail
              refine (l1In_yes _ _ _ _ HE.out.1 (by have := HE.out.2; have := HMM.out; omega)).mono ?_
              rintro e w4 ⟨rfl, hw4⟩
              subst hw4
              go_wp2_with fail
              go_round
              case rel =>
                refine ⟨j + 1, by omega, by go_num, fun q hq h1 => ?_⟩
                by_cases e : q < j
                · exact HA.out q hq e
                · have : q = j := by omega
                  subst this
                  rw [← HX.out]; exact HE.out
              case measure => simp [intOf]; omega
            · have HC : Hid (withinB mo ps = false) := withinB_no (fun g => he (by have := g ps[j] (List.getElem_mem hjz); rw [← HX.out] at this; exact this))
              have HE : Hid (¬ (0 ≤ x ∧ x ≤ mo)) := he
              clear he
              go_wp2_with fail
              refine (l1In_no _ _ _ _ (by have := HE.out; have := HMM.out; omega)).mono ?_
              rintro e w4 ⟨rfl, hw4⟩
              have bel4 : Below w.heap.size w w4 := by rw [hw4]; exact bel2
              clear hw4
              go_wp2_with fail
              go_ret
              exact ⟨by rw [HC.out]; rfl, bel4⟩
        · have HC : Hid (withinB mo ps = true) := withinB_yes (fun z hz => by
            obtain ⟨q, hq, rfl⟩ := List.getElem_of_mem hz
            exact HA.out q hq (by have := HPN.out; omega))
          have hlt' : ¬ (j : Int) < (pn : Int) := by omega
          clear HA
          go_wp2_with fail
          go_ret
          exact ⟨by rw [HC.out]; rfl, bel2⟩

set_option maxHeartbeats 1000000 in
theorem specOk_a (k d wd hi : Int) (ca : Option Addr) (cn cc : Nat) (pa : Option Addr) (pn pc : Nat) (w : World) (hd : d ∉ depL k) :
    Calls Tryz.prog 8 #[.agg #[.int .i64 k, .int .i64 d, .int .i64 wd, .int .i64 hi, .slice ca cn cc, .slice pa pn pc]] w fun e w' => e = .returned (.bool false) ∧ Below w.heap.size w w' := by
  have HDP : Hid (∀ w : World, Calls Tryz.prog 24 #[.int .i64 k, .int .i64 d] w fun e w' => e = .returned (.bool false) ∧ w' = w) := by
    intro w; have := l8Depth_any k d w; rw [depKB_no hd] at this; exact this
  clear hd
  go_enter Tryz.func8, Tryz.ntmps8
  go_wp2_with fail
  refine (HDP.out _).mono ?_
  rintro e w1 ⟨rfl, hw1⟩
  subst hw1
  go_wp2_with fail
  go_ret
  exact ⟨rfl, (Below.refl _ _).alloc (Nat.le_refl _) _⟩

set_option maxHeartbeats 1000000 in
theorem specOk_b (k d wd hi : Int) (ca : Option Addr) (cn cc : Nat) (pa : Option Addr) (pn pc : Nat) (w : World) (hd : d ∈ depL k) (hw : ¬ (1 ≤ wd ∧ wd ≤ 20)) :
    Calls Tryz.prog 8 #[.agg #[.int .i64 k, .int .i64 d, .int .i64 wd, .int .i64 hi, .slice ca cn cc, .slice pa pn pc]] w fun e w' => e = .returned (.bool false) ∧ Below w.heap.size w w' := by
  have HDP : Hid (∀ w : World, Calls Tryz.prog 24 #[.int .i64 k, .int .i64 d] w fun e w' => e = .returned (.bool true) ∧ w' = w) := by
    intro w; have := l8Depth_any k d w; rw [depKB_yes hd] at this; exact this
  clear hd
  go_enter Tryz.func8, Tryz.ntmps8
  go_wp2_with fail
  refine (HDP.out _).mono ?_
  rintro e w1 ⟨rfl, hw1⟩
  subst hw1
  go_wp2_with fail
  refine (l1In_no _ _ _ _ hw).mono ?_
  rintro e w1 ⟨rfl, hw1⟩
  subst hw1
  go_wp2_with fail
  go_ret
  exact ⟨rfl, (Below.refl _ _).alloc (Nat.le_refl _) _⟩

set_option maxHeartbeats 1000000 in
theorem specOk_c (k d wd hi : Int) (ca : Option Addr) (cn cc : Nat) (pa : Option Addr) (pn pc : Nat) (w : World) (hd : d ∈ depL k) (hw : 1 ≤ wd ∧ wd ≤ 20) (hh : ¬ (1 ≤ hi ∧ hi ≤ 20)) :
    Calls Tryz.prog 8 #[.agg #[.int .i64 k, .int .i64 d, .int .i64 wd, .int .i64 hi, .slice ca cn cc, .slice pa pn pc]] w fun e w' => e = .returned (.bool false) ∧ Below w.heap.size w w' := by
  have HDP : Hid (∀ w : World, Calls Tryz.prog 24 #[.int .i64 k, .int .i64 d] w fun e w' => e = .returned (.bool true) ∧ w' = w) := by
    intro w; have := l8Depth_any k d w; rw [depKB_yes hd] at this; exact this
  clear hd
  go_enter Tryz.func8, Tryz.ntmps8
  go_wp2_with fail
  refine (HDP.out _).mono ?_
  rintro e w1 ⟨rfl, hw1⟩
  subst hw1
  go_wp2_with fail
  refine (l1In_yes _ _ _ _ hw.1 hw.2).mono ?_
  rintro e w1 ⟨rfl, hw1⟩
  subst hw1
  go_wp2_with fail
  refine (l1In_no _ _ _ _ hh).mono ?_
  rintro e w1 ⟨rfl, hw1⟩
  subst hw1
  go_wp2_with fail
  go_ret
  exact ⟨rfl, (Below.refl _ _).alloc (Nat.le_refl _) _⟩

set_option maxHeartbeats 1000000 in
theorem specOk_m (k d wd hi : Int) (ca : Option Addr) (cn cc : Nat) (pa : Option Addr) (pn pc : Nat) (w : World) (M : Int) (hd : d ∈ depL k) (hw : 1 ≤ wd ∧ wd ≤ 20) (hh : 1 ≤ hi ∧ hi ≤ 20) (hM : wd * hi = M) (hM2 : 0 ≤ M) (hM3 : M ≤ 400) (hpm : ¬ (pn : Int) = M) :
    Calls Tryz.prog 8 #[.agg #[.int .i64 k, .int .i64 d, .int .i64 wd, .int .i64 hi, .slice ca cn cc, .slice pa pn pc]] w fun e w' => e = .returned (.bool false) ∧ Below w.heap.size w w' := by
  have HDP : Hid (∀ w : World, Calls Tryz.prog 24 #[.int .i64 k, .int .i64 d] w fun e w' => e = .returned (.bool true) ∧ w' = w) := by
    intro w; have := l8Depth_any k d w; rw [depKB_yes hd] at this; exact this
  clear hd
  have hne : ((pn : Int) == M) = false := by simpa using hpm
  go_enter Tryz.func8, Tryz.ntmps8
  go_wp2_with fail
  refine (HDP.out _).mono ?_
  rintro e w1 ⟨rfl, hw1⟩
  subst hw1
  go_wp2_with fail
  refine (l1In_yes _ _ _ _ hw.1 hw.2).mono ?_
  rintro e w1 ⟨rfl, hw1⟩
  subst hw1
  go_wp2_with fail
  refine (l1In_yes _ _ _ _ hh.1 hh.2).mono ?_
  rintro e w1 ⟨rfl, hw1⟩
  subst hw1
  go_wp2_with fail
  go_ret
  exact ⟨rfl, (Below.refl _ _).alloc (Nat.le_refl _) _⟩

set_option maxHeartbeats 1000000 in
theorem specOk_d (k d wd hi : Int) (ca : Option Addr) (cn cc : Nat) (pa : Option Addr) (pn pc : Nat) (w : World) (M : Int) (cs : List Int) (hc : Ints w ca cs) (hcn : cs.length = cn) (hcl : cn ≤ 1048576) (hd : d ∈ depL k) (hw : 1 ≤ wd ∧ wd ≤ 20) (hh : 1 ≤ hi ∧ hi ≤ 20) (hM : wd * hi = M) (hM2 : 0 ≤ M) (hM3 : M ≤ 400) (hpm : (pn : Int) = M) (hco : ¬ Im.ColOk k d cs) :
    Calls Tryz.prog 8 #[.agg #[.int .i64 k, .int .i64 d, .int .i64 wd, .int .i64 hi, .slice ca cn cc, .slice pa pn pc]] w fun e w' => e = .returned (.bool false) ∧ Below w.heap.size w w' := by
  have HCO : Hid (∀ w' : World, Ints w' ca cs → Calls Tryz.prog 26 #[.agg #[.int .i64 k, .int .i64 d, .int .i64 wd, .int .i64 hi, .slice ca cn cc, .slice pa pn pc]] w' fun e w'' => e = .returned (.bool false) ∧ Below w'.heap.size w' w'') := by
    intro w' hI
    obtain ⟨D, rfl, hD, _⟩ := Im.dep_all hd
    have := l8Colors_any k wd hi D ca cn cc pa pn pc cs w' hI hcn hcl hD
    rw [Im.colB_no hco] at this; exact this
  have HDP : Hid (∀ w : World, Calls Tryz.prog 24 #[.int .i64 k, .int .i64 d] w fun e w' => e = .returned (.bool true) ∧ w' = w) := by
    intro w; have := l8Depth_any k d w; rw [depKB_yes hd] at this; exact this
  clear hd
  have HIC : Hid (∀ w', Below w.heap.size w w' → Ints w' ca cs) := fun w' b => hc.kept b
  have hne : ((pn : Int) == M) = true := by simpa using hpm
  have hB0 : Below w.heap.size w (w.alloc (.cells #[.int .i64 k, .int .i64 d, .int .i64 wd, .int .i64 hi, .slice ca cn cc, .slice pa pn pc] 25)) := (Below.refl _ _).alloc (Nat.le_refl _) _
  clear hc hcn hco
  go_enter Tryz.func8, Tryz.ntmps8
  go_wp2_with fail
  refine (HDP.out _).mono ?_
  rintro e w1 ⟨rfl, hw1⟩
  subst hw1
  go_wp2_with fail
  refine (l1In_yes _ _ _ _ hw.1 hw.2).mono ?_
  rintro e w1 ⟨rfl, hw1⟩
  subst hw1
  go_wp2_with fail
  refine (l1In_yes _ _ _ _ hh.1 hh.2).mono ?_
  rintro e w1 ⟨rfl, hw1⟩
  subst hw1
  go_wp2_with fail
  refine (HCO.out _ (HIC.out _ hB0)).mono ?_
  rintro e w2 ⟨rfl, b2⟩
  have bel2 : Below w.heap.size w w2 := hB0.trans (b2.mono (by simp))
  clear b2 hB0
  go_wp2_with fail
  go_ret
  exact ⟨rfl, bel2⟩

theorem spec_imageOk (k d wd hi : Int) (ca : Option Addr) (cn cc : Nat) (pa : Option Addr) (pn pc : Nat) (w : World) (cs ps : List Int) (hc : Ints w ca cs) (hcn : cs.length = cn) (hcl : cn ≤ 1048576) (hp : Ints w pa ps) (hpn : ps.length = pn) :
    Calls Tryz.prog 8 #[.agg #[.int .i64 k, .int .i64 d, .int .i64 wd, .int .i64 hi, .slice ca cn cc, .slice pa pn pc]] w fun e w' => e = .returned (.bool (Im.okB k d wd hi cs ps)) ∧ Below w.heap.size w w' := by
  by_cases hd : d ∈ depL k
  · by_cases hw : 1 ≤ wd ∧ wd ≤ 20
    · by_cases hh : 1 ≤ hi ∧ hi ≤ 20
      · obtain ⟨M, hM⟩ : ∃ M, wd * hi = M := ⟨_, rfl⟩
        have hM1 : 0 ≤ M ∧ M ≤ 400 := by
          obtain ⟨x, hx⟩ := Int.eq_ofNat_of_zero_le (show 0 ≤ wd by omega)
          obtain ⟨y, hy⟩ := Int.eq_ofNat_of_zero_le (show 0 ≤ hi by omega)
          have h1 : x * y ≤ 20 * 20 := Nat.mul_le_mul (by omega) (by omega)
          have h2 : (x : Int) * (y : Int) = ((x * y : Nat) : Int) := by simp
          rw [← hM, hx, hy, h2]
          omega
        by_cases hpm : (pn : Int) = M
        · by_cases hco : Im.ColOk k d cs
          · obtain ⟨D, rfl, hD, _⟩ := Im.dep_all hd
            obtain ⟨P, hP⟩ : ∃ P : Nat, P + 1 = 2 ^ D := ⟨2 ^ D - 1, by have : 0 < 2 ^ D := Nat.pow_pos (by omega); omega⟩
            have hm : Im.most k (D : Int) cs = if k = 4 then (cn : Int) - 1 else (P : Int) := by
              unfold Im.most; rw [Int.toNat_natCast, hcn, ← hP]; split <;> simp
            have he : Im.okB k (D : Int) wd hi cs ps = withinB (if k = 4 then (cn : Int) - 1 else (P : Int)) ps := by
              by_cases g : Within (if k = 4 then (cn : Int) - 1 else (P : Int)) ps
              · rw [withinB_yes g]; exact Im.okB_yes ⟨hd, hw, hh, hco, by rw [hpn, hM]; exact hpm, by rw [hm]; exact g⟩
              · rw [withinB_no g]; exact Im.okB_no (fun q => g (by have := q.2.2.2.2.2; rw [hm] at this; exact this))
            rw [he]
            exact specOk_e k wd hi M D P ca cn cc pa pn pc w cs ps hc hcn hcl hp hpn hd hD hw hh hM hM1.1 hM1.2 hpm hco hP
          · rw [Im.okB_no (fun g => hco g.2.2.2.1)]
            exact specOk_d k d wd hi ca cn cc pa pn pc w M cs hc hcn hcl hd hw hh hM hM1.1 hM1.2 hpm hco
        · rw [Im.okB_no (fun g => hpm (by have := g.2.2.2.2.1; rw [hpn, hM] at this; exact this))]
          exact specOk_m k d wd hi ca cn cc pa pn pc w M hd hw hh hM hM1.1 hM1.2 hpm
      · rw [Im.okB_no (fun g => hh g.2.2.1)]
        exact specOk_c k d wd hi ca cn cc pa pn pc w hd hw hh
    · rw [Im.okB_no (fun g => hw g.2.1)]
      exact specOk_b k d wd hi ca cn cc pa pn pc w hd hw
  · rw [Im.okB_no (fun g => hd g.1)]
    exact specOk_a k d wd hi ca cn cc pa pn pc w hd
end Go.Proofs.YteldjmocbbbinaaGreatDoor

/- A point of a picture: whether it is there, and which it is. -/
namespace Go.Proofs.YteldjmocbbbinaaGreatDoor
open Go.RowKit

theorem method_size (k d wd hi : Int) (ca : Option Addr) (cn cc : Nat) (pa : Option Addr) (pn pc : Nat) (w : World) : (method 553 52 (.agg #[.int .i64 k, .int .i64 d, .int .i64 wd, .int .i64 hi, .slice ca cn cc, .slice pa pn pc]) "loop.example/intarsia/impl.size").run Tryz.prog w = .ok (369, .agg #[.int .i64 k, .int .i64 d, .int .i64 wd, .int .i64 hi, .slice ca cn cc, .slice pa pn pc]) w := by kernel_rfl

set_option maxHeartbeats 400000 in
theorem size_any (k d wd hi : Int) (ca : Option Addr) (cn cc : Nat) (pa : Option Addr) (pn pc : Nat) (w : World) :
    Calls Tryz.prog 369 #[.agg #[.int .i64 k, .int .i64 d, .int .i64 wd, .int .i64 hi, .slice ca cn cc, .slice pa pn pc]] w fun e w' => e = .returned (.tuple #[.int .i64 wd, .int .i64 hi]) ∧ Below w.heap.size w w' := by
  go_enter Tryz.func369, Tryz.ntmps369
  go_wp2_with fail
  go_quiet (fail)
  go_wp2_with fail
  go_ret2
  exact ⟨rfl, below_drewN ((Below.refl _ _).alloc (Nat.le_refl _) _) _⟩

/-- the number of a point in its picture -/
structure Spot (wd hi x y : Int) (pn : Nat) (I X Y Wd : Nat) : Prop where
  x : x = (X : Int)
  y : y = (Y : Int)
  wd : wd = (Wd : Int)
  i : I = Y * Wd + X
  lt : I < pn
  small : I ≤ 400 ∧ X ≤ 20 ∧ Y ≤ 20 ∧ Wd ≤ 20 ∧ Y * Wd ≤ 400

set_option maxHeartbeats 1000000 in
theorem at_any (k d wd hi x y : Int) (ca : Option Addr) (cn cc : Nat) (pa : Option Addr) (pn pc : Nat) (ps : List Int) (w : World) (I X Y Wd : Nat) (h : Spot wd hi x y pn I X Y Wd) (hp : Ints w pa ps) (hpn : ps.length = pn) :
    Calls Tryz.prog 368 #[.agg #[.int .i64 k, .int .i64 d, .int .i64 wd, .int .i64 hi, .slice ca cn cc, .slice pa pn pc], .int .i64 x, .int .i64 y] w fun e w' => e = .returned (.int .i64 (ps.getD I 0)) ∧ Below w.heap.size w w' := by
  obtain ⟨rfl, rfl, rfl, hi', hlt, hs1, hs2, hs3, hs4, hs5⟩ := h
  have bel : Below w.heap.size w (w.alloc (.cells #[.int .i64 k, .int .i64 d, .int .i64 (Wd : Int), .int .i64 hi, .slice ca cn cc, .slice pa pn pc] 52)) := (Below.refl _ _).alloc (Nat.le_refl _) _
  have hIl : I < ps.length := by omega
  obtain ⟨v, hv⟩ : ∃ v, v = ps.getD I 0 := ⟨_, rfl⟩
  rw [← hv]
  rcases hp.kept bel with g | ⟨b, off, rfl, hbB, hc⟩
  · rw [g] at hIl; simp at hIl
  · have hck := hc I hIl
    have hv' : ps[I] = v := by rw [hv, List.getD_eq_getElem?_getD, List.getElem?_eq_getElem hIl]; rfl
    rw [hv'] at hck
    obtain ⟨P, hP⟩ : ∃ P, P = Y * Wd := ⟨_, rfl⟩
    have hPi : (Y : Int) * (Wd : Int) = (P : Int) := by rw [hP]; simp
    have hIi : (P : Int) + (X : Int) = (I : Int) := by omega
    have hPb : P ≤ 400 := by omega
    have hII : (I : Int) < (pn : Int) := by omega
    clear hc hv hv' hi' hP hp hs5
    go_enter Tryz.func368, Tryz.ntmps368
    go_wp2_with fail
    go_ret
    exact ⟨rfl, bel⟩
end Go.Proofs.YteldjmocbbbinaaGreatDoor

/- What a picture as it is answers, for views over it: for the walks of the program. -/
namespace Go.Proofs.YteldjmocbbbinaaGreatDoor
open Go.RowKit

theorem plain_ns (k d : Int) (Wd Hi : Nat) (ca : Option Addr) (cn cc : Nat) (pa : Option Addr) (pn pc : Nat) (w : World) : (nilAhead 553 52 (.agg #[.int .i64 k, .int .i64 d, .int .i64 (Wd : Int), .int .i64 (Hi : Int), .slice ca cn cc, .slice pa pn pc]) "loop.example/intarsia/impl.size").run Tryz.prog w = .ok (some false) w := by kernel_rfl
theorem plain_ma (k d : Int) (Wd Hi : Nat) (ca : Option Addr) (cn cc : Nat) (pa : Option Addr) (pn pc : Nat) (w : World) : (method 553 52 (.agg #[.int .i64 k, .int .i64 d, .int .i64 (Wd : Int), .int .i64 (Hi : Int), .slice ca cn cc, .slice pa pn pc]) "loop.example/intarsia/impl.at").run Tryz.prog w = .ok (368, .agg #[.int .i64 k, .int .i64 d, .int .i64 (Wd : Int), .int .i64 (Hi : Int), .slice ca cn cc, .slice pa pn pc]) w := by kernel_rfl
theorem plain_na (k d : Int) (Wd Hi : Nat) (ca : Option Addr) (cn cc : Nat) (pa : Option Addr) (pn pc : Nat) (w : World) : (nilAhead 553 52 (.agg #[.int .i64 k, .int .i64 d, .int .i64 (Wd : Int), .int .i64 (Hi : Int), .slice ca cn cc, .slice pa pn pc]) "loop.example/intarsia/impl.at").run Tryz.prog w = .ok (some false) w := by kernel_rfl
theorem heap_alloc2_new (w : World) (o o' : Obj) : ((w.alloc o).alloc o').heap[w.heap.size + 1]? = some o' := by
  have := heap_alloc_new (w.alloc o) o'; rw [World.size_alloc] at this; exact this
theorem Pair2.lower {w : World} {lo lo' : Nat} {x y : Option Addr} {cs ps : List Int} (h : Pair2 w lo x cs y ps) (hl : lo' ≤ lo) : Pair2 w lo' x cs y ps := by
  obtain ⟨m, h1, h2, h3, h4⟩ := h
  exact ⟨m, Nat.le_trans hl h1, h2.lower hl, h3, h4⟩
end Go.Proofs.YteldjmocbbbinaaGreatDoor

/- A picture of the same kind without points: l8Blank of the specification. -/
namespace Go.Proofs.YteldjmocbbbinaaGreatDoor
open Go.RowKit

/-- six cells of a block that is known whole, which can be written -/
theorem box6 {w : World} {B : Nat} {v0 v1 v2 v3 v4 v5 : Value} {T : TypeId} (h : w.heap[B]? = some (.cells #[v0, v1, v2, v3, v4, v5] T (0, 0))) :
    (w.cell? ⟨B, 0, none⟩ = some v0 ∧ w.cell? ⟨B, 1, none⟩ = some v1 ∧ w.cell? ⟨B, 2, none⟩ = some v2 ∧ w.cell? ⟨B, 3, none⟩ = some v3 ∧ w.cell? ⟨B, 4, none⟩ = some v4 ∧ w.cell? ⟨B, 5, none⟩ = some v5) ∧ (w.frozen? ⟨B, 0, none⟩ = false ∧ w.frozen? ⟨B, 1, none⟩ = false ∧ w.frozen? ⟨B, 2, none⟩ = false ∧ w.frozen? ⟨B, 3, none⟩ = false ∧ w.frozen? ⟨B, 4, none⟩ = false ∧ w.frozen? ⟨B, 5, none⟩ = false) := by
  refine ⟨⟨?_, ?_, ?_, ?_, ?_, ?_⟩, ?_, ?_, ?_, ?_, ?_, ?_⟩ <;> simp [World.cell?, World.frozen?, h]

end Go.Proofs.YteldjmocbbbinaaGreatDoor

/- A picture that is drawn: its box in memory, beside the reader. -/
namespace Go.Proofs.YteldjmocbbbinaaGreatDoor
open Go.RowKit

/-- some picture, its two lists new -/
def PicOut (lo : Nat) (e : Ending) (w' : World) : Prop := ∃ (k d wd hi : Nat) (a : Option Addr) (n c : Nat) (cs : List Int) (b : Option Addr) (m cc : Nat) (ps : List Int), e = .returned (.agg #[.int .i64 k, .int .i64 d, .int .i64 wd, .int .i64 hi, .slice a n c, .slice b m cc]) ∧ OwnI w' lo (.slice a n c) n cs ∧ OwnI w' lo (.slice b m cc) m ps ∧ m = wd * hi ∧ 1 ≤ wd ∧ wd ≤ 20 ∧ 1 ≤ hi ∧ hi ≤ 20 ∧ n ≤ 256 ∧ 1 ≤ k ∧ k ≤ 4 ∧ d ≤ 32

/-- what a drawing of a picture keeps: the reader, the result's box, the picture's own box behind it -/
structure LI (w wc : World) (B M q : Nat) (k d wd hi : Int) (v4 v5 : Value) : Prop where
  rd : RdAt wc B q
  only : Only B w wc
  res : wc.heap[w.heap.size]? = some (.cells #[.int .i64 0, .int .i64 0, .int .i64 0, .int .i64 0, .slice none 0 0, .slice none 0 0] 25 (0, 0))
  box : wc.heap[M]? = some (.cells #[.int .i64 k, .int .i64 d, .int .i64 wd, .int .i64 hi, v4, v5] 25 (0, 0))
  lt : B < w.heap.size
  hM : w.heap.size < M

theorem lt_of_block {w : World} {b : Nat} {o : Obj} (h : w.heap[b]? = some o) : b < w.heap.size := (Array.getElem?_eq_some_iff.1 h).1

theorem LI.pick {w wc w' : World} {B M q : Nat} {k d wd hi : Int} {v4 v5 : Value} (h : LI w wc B M q k d wd hi v4 v5) (hr : RdAt w' B (q + 1)) (ho : Only B wc w') : LI w w' B M (q + 1) k d wd hi v4 v5 :=
  ⟨hr, h.only.trans ho, (ho.rest _ (lt_of_block h.res) (by have := h.lt; have := h.hM; omega)).trans h.res, (ho.rest _ (lt_of_block h.box) (by have := h.lt; have := h.hM; omega)).trans h.box, h.lt, h.hM⟩

theorem LI.alloc {w wc : World} {B M q : Nat} {k d wd hi : Int} {v4 v5 : Value} (h : LI w wc B M q k d wd hi v4 v5) (o : Obj) : LI w (wc.alloc o) B M q k d wd hi v4 v5 :=
  ⟨h.rd.alloc o, h.only.alloc h.rd.lt o, (heap_alloc_old _ _ (lt_of_block h.res)).trans h.res, (heap_alloc_old _ _ (lt_of_block h.box)).trans h.box, h.lt, h.hM⟩

theorem setCell_block {w : World} {g i : Nat} {cur : Array Value} {t : TypeId} {fr : Nat × Nat} (h : w.heap[g]? = some (.cells cur t fr)) (v : Value) : (w.setCell ⟨g, i, none⟩ v).heap[g]? = some (.cells (cur.setIfInBounds i v) t fr) := by
  rw [setCell_eq_setRow w g i cur t fr v h]; exact setRow_heap _ _ _ _ _ _ h

theorem Only.setM {B M i : Nat} {w a : World} {v : Value} (h : Only B w a) (hB : B < w.heap.size) (hM : w.heap.size ≤ M) : Only B w (a.setCell ⟨M, i, none⟩ v) :=
  h.grown hB ((Below.refl _ _).setCell (p := ⟨M, i, none⟩) hM v)
theorem RdAt.set {B M i q : Nat} {a : World} {v : Value} (h : RdAt a B q) (hM : B < M) : RdAt (a.setCell ⟨M, i, none⟩ v) B q :=
  h.kept ((Below.refl _ _).setCell (p := ⟨M, i, none⟩) hM v)

theorem LI.setd {w wc : World} {B M q : Nat} {k d wd hi : Int} {v4 v5 : Value} (h : LI w wc B M q k d wd hi v4 v5) (x : Int) : LI w (wc.setCell ⟨M, 1, none⟩ (.int .i64 x)) B M q k x wd hi v4 v5 :=
  ⟨h.rd.set (by have := h.lt; have := h.hM; omega), h.only.setM h.lt (by have := h.hM; omega), (Below.heap_setCell wc ⟨M, 1, none⟩ _ _ (by have := h.hM; show w.heap.size ≠ M; omega)).trans h.res, setCell_block h.box _, h.lt, h.hM⟩
theorem LI.setw {w wc : World} {B M q : Nat} {k d wd hi : Int} {v4 v5 : Value} (h : LI w wc B M q k d wd hi v4 v5) (x : Int) : LI w (wc.setCell ⟨M, 2, none⟩ (.int .i64 x)) B M q k d x hi v4 v5 :=
  ⟨h.rd.set (by have := h.lt; have := h.hM; omega), h.only.setM h.lt (by have := h.hM; omega), (Below.heap_setCell wc ⟨M, 2, none⟩ _ _ (by have := h.hM; show w.heap.size ≠ M; omega)).trans h.res, setCell_block h.box _, h.lt, h.hM⟩
theorem LI.seth {w wc : World} {B M q : Nat} {k d wd hi : Int} {v4 v5 : Value} (h : LI w wc B M q k d wd hi v4 v5) (x : Int) : LI w (wc.setCell ⟨M, 3, none⟩ (.int .i64 x)) B M q k d wd x v4 v5 :=
  ⟨h.rd.set (by have := h.lt; have := h.hM; omega), h.only.setM h.lt (by have := h.hM; omega), (Below.heap_setCell wc ⟨M, 3, none⟩ _ _ (by have := h.hM; show w.heap.size ≠ M; omega)).trans h.res, setCell_block h.box _, h.lt, h.hM⟩
theorem LI.set4 {w wc : World} {B M q : Nat} {k d wd hi : Int} {v4 v5 : Value} (h : LI w wc B M q k d wd hi v4 v5) (x : Value) : LI w (wc.setCell ⟨M, 4, none⟩ x) B M q k d wd hi x v5 :=
  ⟨h.rd.set (by have := h.lt; have := h.hM; omega), h.only.setM h.lt (by have := h.hM; omega), (Below.heap_setCell wc ⟨M, 4, none⟩ _ _ (by have := h.hM; show w.heap.size ≠ M; omega)).trans h.res, setCell_block h.box _, h.lt, h.hM⟩
theorem LI.set5 {w wc : World} {B M q : Nat} {k d wd hi : Int} {v4 v5 : Value} (h : LI w wc B M q k d wd hi v4 v5) (x : Value) : LI w (wc.setCell ⟨M, 5, none⟩ x) B M q k d wd hi v4 x :=
  ⟨h.rd.set (by have := h.lt; have := h.hM; omega), h.only.setM h.lt (by have := h.hM; omega), (Below.heap_setCell wc ⟨M, 5, none⟩ _ _ (by have := h.hM; show w.heap.size ≠ M; omega)).trans h.res, setCell_block h.box _, h.lt, h.hM⟩

theorem LI.below {w wc w' : World} {B M q : Nat} {k d wd hi : Int} {v4 v5 : Value} (h : LI w wc B M q k d wd hi v4 v5) (hb : Below (M + 1) wc w') : LI w w' B M q k d wd hi v4 v5 :=
  ⟨h.rd.kept (hb.mono (by have := h.lt; have := h.hM; omega)), h.only.grown h.lt (hb.mono (by have := h.hM; omega)), (hb.block _ (by have := h.hM; omega)).trans h.res, (hb.block _ (by omega)).trans h.box, h.lt, h.hM⟩
theorem LI.drew {w wc : World} {B M q : Nat} {k d wd hi : Int} {v4 v5 : Value} (h : LI w wc B M q k d wd hi v4 v5) : LI w wc.drew B M q k d wd hi v4 v5 :=
  ⟨h.rd.drew, ⟨h.only.below.drew, h.only.rest⟩, h.res, h.box, h.lt, h.hM⟩

theorem OwnI.set {w : World} {lo n M i : Nat} {v x : Value} {l : List Int} (h : OwnI w lo v n l) (hM : M < lo) : OwnI (w.setCell ⟨M, i, none⟩ x) lo v n l :=
  h.same (fun k _ hk => Below.heap_setCell w ⟨M, i, none⟩ _ _ (by show k ≠ M; omega))
theorem OwnI.old {w : World} {lo n : Nat} {v : Value} {l : List Int} (h : OwnI w lo v n l) (o : Obj) : OwnI (w.alloc o) lo v n l :=
  h.same (fun _ hk _ => heap_alloc_old w o hk)

theorem OwnI.row {w : World} {lo n M : Nat} {v : Value} {l : List Int} (h : OwnI w lo v n l) (hM : M < lo) (cs : Array Value) : OwnI (w.setRow M cs) lo v n l :=
  h.same (fun k _ hk => setRow_other w M k cs (by omega))

theorem ints_one (w : World) (x : Int) : Ints (w.alloc (.cells #[.int .i64 x] 3)) (some ⟨w.heap.size, 0, none⟩) [x] := by
  have hh := heap_alloc_new w (.cells #[.int .i64 x] 3)
  refine .inr ⟨w.heap.size, 0, rfl, by simp, fun i hi => ?_⟩
  have : i = 0 := by simp at hi; omega
  subst this
  simp only [World.cell?, Nat.add_zero, hh]
  rfl

/-- the colours, while they are drawn -/
structure CX (w wr : World) (B M q : Nat) (k d wd hi : Int) (v4 : Value) (n : Nat) (cs : List Int) : Prop where
  li : LI w wr B M q k d wd hi v4 (.slice none 0 0)
  own : OwnI wr (M + 1) v4 n cs
theorem CX.drew {w wr : World} {B M q n : Nat} {k d wd hi : Int} {v4 : Value} {cs : List Int} (h : CX w wr B M q k d wd hi v4 n cs) : CX w wr.drew B M q k d wd hi v4 n cs := ⟨h.li.drew, h.own⟩
theorem CX.pick {w wr w' : World} {B M q n : Nat} {k d wd hi : Int} {v4 : Value} {cs : List Int} (h : CX w wr B M q k d wd hi v4 n cs) (hr : RdAt w' B (q + 1)) (ho : Only B wr w') : CX w w' B M (q + 1) k d wd hi v4 n cs :=
  ⟨h.li.pick hr ho, h.own.only ho (by have := h.li.lt; have := h.li.hM; omega)⟩
theorem CX.alloc {w wr : World} {B M q n : Nat} {k d wd hi : Int} {v4 : Value} {cs : List Int} (h : CX w wr B M q k d wd hi v4 n cs) (o : Obj) : CX w (wr.alloc o) B M q k d wd hi v4 n cs := ⟨h.li.alloc o, h.own.old o⟩
theorem CX.grow {w wr w4 : World} {B M q n : Nat} {k d wd hi : Int} {v4 : Value} {cs : List Int} (h : CX w wr B M q k d wd hi v4 n cs) (hG : wr.grownBy w4 v4.ownBlock) : LI w w4 B M q k d wd hi v4 (.slice none 0 0) :=
  h.li.below ((Below.refl (M + 1) wr).grown hG (lt_of_block h.li.box) (fun c hc => (World.ownsRow.lt h.own c hc).1))

/-- the points, while they are drawn: what the loop found beside them is as it was -/
structure PX (w wc wr : World) (B M q : Nat) (k d wd hi : Int) (v4 v5 : Value) (n : Nat) (ps : List Int) : Prop where
  li : LI w wr B M q k d wd hi v4 v5
  own : OwnI wr wc.heap.size v5 n ps
  keep : ∀ j, j < wc.heap.size → M < j → wr.heap[j]? = wc.heap[j]?
  size : wc.heap.size ≤ wr.heap.size
  hc : M < wc.heap.size
theorem PX.pick {w wc wr w' : World} {B M q n : Nat} {k d wd hi : Int} {v4 v5 : Value} {ps : List Int} (h : PX w wc wr B M q k d wd hi v4 v5 n ps) (hr : RdAt w' B (q + 1)) (ho : Only B wr w') : PX w wc w' B M (q + 1) k d wd hi v4 v5 n ps :=
  ⟨h.li.pick hr ho, h.own.only ho (by have := h.li.lt; have := h.li.hM; have := h.hc; omega), fun j hj hM => (ho.rest j (Nat.lt_of_lt_of_le hj h.size) (by have := h.li.lt; have := h.li.hM; omega)).trans (h.keep j hj hM), Nat.le_trans h.size ho.below.size, h.hc⟩
theorem PX.push {w wc wr w4 : World} {B M q n cy : Nat} {k d wd hi : Int} {v4 v5 : Value} {ps : List Int} {y : Option Addr} {o : Obj} {x : Int} (h : PX w wc wr B M q k d wd hi v4 v5 n ps) (hO : OwnI w4 wc.heap.size (.slice y (n + 1) cy) (n + 1) (ps ++ [x])) (hG : (wr.alloc o).grownBy w4 v5.ownBlock) :
    LI w w4 B M q k d wd hi v4 v5 ∧ PX w wc (w4.setCell ⟨M, 5, none⟩ (.slice y (n + 1) cy)) B M q k d wd hi v4 (.slice y (n + 1) cy) (n + 1) (ps ++ [x]) := by
  have hown := (h.own.old o)
  have hlt := World.ownsRow.lt hown
  have b0 : Below wc.heap.size (wr.alloc o) w4 := (Below.refl _ _).grown hG (Nat.le_trans h.size (by simp)) (fun c hc => (hlt c hc).1)
  have l4 : LI w w4 B M q k d wd hi v4 v5 := (h.li.alloc o).below (b0.mono h.hc)
  refine ⟨l4, l4.set5 _, hO.set h.hc, fun j hj hM => ?_, ?_, h.hc⟩
  · rw [Below.heap_setCell w4 ⟨M, 5, none⟩ _ _ (by show j ≠ M; omega), b0.block j hj, heap_alloc_old wr o (Nat.lt_of_lt_of_le hj h.size)]
    exact h.keep j hj hM
  · have := b0.size; have := h.size; simp at *; omega
end Go.Proofs.YteldjmocbbbinaaGreatDoor

/- A copy of a picture: l14Copy. -/
namespace Go.Proofs.YteldjmocbbbinaaGreatDoor
open Go.RowKit

/-- two lists of one's own, the second one made when the first one stood -/
def Two2 (w' : World) (lo : Nat) (v4 : Value) (n : Nat) (cs : List Int) (v5 : Value) (m : Nat) (ps : List Int) : Prop :=
  ∃ wm : World, OwnI wm lo v4 n cs ∧ OwnI w' wm.heap.size v5 m ps ∧ lo ≤ wm.heap.size ∧ wm.heap.size ≤ w'.heap.size ∧ ∀ j, j < wm.heap.size → lo ≤ j → w'.heap[j]? = wm.heap[j]?
def CopyOut (lo : Nat) (k d wd hi : Int) (n : Nat) (cs : List Int) (m : Nat) (ps : List Int) (e : Ending) (w' : World) : Prop :=
  ∃ x cx y cy, e = .returned (.agg #[.int .i64 k, .int .i64 d, .int .i64 wd, .int .i64 hi, .slice x n cx, .slice y m cy]) ∧ Two2 w' lo (.slice x n cx) n cs (.slice y m cy) m ps

set_option maxHeartbeats 2000000 in
set_option maxRecDepth 20000 in
theorem l14Copy_any (k d wd hi : Int) (ca : Option Addr) (cn cc : Nat) (pa : Option Addr) (pn pc : Nat) (cs ps : List Int) (w : World) (hc : Ints w ca cs) (hcn : cs.length = cn) (hcl : cn ≤ 1048576) (hp : Ints w pa ps) (hpn : ps.length = pn) (hpl : pn ≤ 1048576) :
    Calls Tryz.prog 61 #[.agg #[.int .i64 k, .int .i64 d, .int .i64 wd, .int .i64 hi, .slice ca cn cc, .slice pa pn pc]] w fun e w' => CopyOut (w.heap.size + 2) k d wd hi cn cs pn ps e w' ∧ Below w.heap.size w w' := by
  obtain ⟨W0, hW0⟩ : ∃ W0, W0 = ((w.alloc (.cells #[.int .i64 k, .int .i64 d, .int .i64 wd, .int .i64 hi, .slice ca cn cc, .slice pa pn pc] 25)).alloc (.cells #[.int .i64 0, .int .i64 0, .int .i64 0, .int .i64 0, .slice none 0 0, .slice none 0 0] 25)) := ⟨_, rfl⟩
  have hB0 : Below w.heap.size w W0 := by rw [hW0]; exact ((Below.refl _ _).alloc (Nat.le_refl _) _).alloc (by simp) _
  have hs0 : W0.heap.size = w.heap.size + 2 := by rw [hW0]; simp
  have HZ : Hid (W0.heap[w.heap.size + 1]? = some (.cells #[.int .i64 0, .int .i64 0, .int .i64 0, .int .i64 0, .slice none 0 0, .slice none 0 0] 25 (0, 0))) := by rw [hW0]; exact heap_alloc2_new _ _ _
  have HM : Hid (W0.heap[w.heap.size]? = some (.cells #[.int .i64 k, .int .i64 d, .int .i64 wd, .int .i64 hi, .slice ca cn cc, .slice pa pn pc] 25 (0, 0))) := by
    rw [hW0]; exact (heap_alloc_old _ _ (by simp)).trans (heap_alloc_new _ _)
  have HI : Hid (Ints (W0.alloc (.cells #[] 3)) ca cs) := (hc.kept hB0).kept ((Below.refl _ _).alloc (Nat.le_refl _) _)
  have HE : Hid (OwnI (W0.alloc (.cells #[] 3)) W0.heap.size (.slice (some ⟨W0.heap.size, 0, none⟩) 0 0) 0 []) := ownI_none W0
  have HPI : Hid (∀ w', Below w.heap.size w w' → Ints w' pa ps) := fun w' b => hp.kept b
  have HCN : Hid (cs.length = cn ∧ ps.length = pn) := ⟨hcn, hpn⟩
  have HB : Hid (Below w.heap.size w W0) := hB0
  have HS0 : Hid (W0.heap.size = w.heap.size + 2) := hs0
  have hlt0 : w.heap.size + 1 < W0.heap.size := by omega
  clear hs0 hc hcn hB0 hp hpn
  go_enter Tryz.func61, Tryz.ntmps61
  go_upto_region 1 with fail
  rw [← hW0]
  clear hW0
  obtain ⟨⟨z0, z1, z2, z3, z4, z5⟩, y0, y1, y2, y3, y4, y5⟩ := box6 ((heap_alloc_old W0 (.cells #[] 3) (show w.heap.size < W0.heap.size by omega)).trans HM.out)
  go_wp2_with (at_builtin; refine wpList_append_ints (by rfl) _ _ (by rfl) W0.heap.size _ 0 [] (by rfl) (show OwnI _ _ _ _ _ from HE.out) ca cn cc cs (by rfl) (show Ints _ _ _ from HI.out) HCN.out.1 (by omega) (by simp) ?_)
  intro x cx w2 hO2 hG2
  have hb2 : Below W0.heap.size W0 w2 := ((Below.refl _ W0).alloc (Nat.le_refl _) _).grown hG2 (by simp) (fun c hc => by have hc2 : some W0.heap.size = some c := hc; cases hc2; exact Nat.le_refl _)
  have hM2 : w2.heap[w.heap.size]? = some (.cells #[.int .i64 k, .int .i64 d, .int .i64 wd, .int .i64 hi, .slice ca cn cc, .slice pa pn pc] 25 (0, 0)) := (hb2.block _ (by omega)).trans HM.out
  have HZ2 : Hid (w2.heap[w.heap.size + 1]? = some (.cells #[.int .i64 0, .int .i64 0, .int .i64 0, .int .i64 0, .slice none 0 0, .slice none 0 0] 25 (0, 0))) := (hb2.block _ (by omega)).trans HZ.out
  obtain ⟨W3, hW3⟩ : ∃ W3, W3 = w2.setCell ⟨w.heap.size, 4, none⟩ (.slice x cn cx) := ⟨_, rfl⟩
  have HM3 : Hid (W3.heap[w.heap.size]? = some (.cells #[.int .i64 k, .int .i64 d, .int .i64 wd, .int .i64 hi, .slice x cn cx, .slice pa pn pc] 25 (0, 0))) := by rw [hW3]; exact setCell_block hM2 _
  have HZ3 : Hid (W3.heap[w.heap.size + 1]? = some (.cells #[.int .i64 0, .int .i64 0, .int .i64 0, .int .i64 0, .slice none 0 0, .slice none 0 0] 25 (0, 0))) := by
    rw [hW3]; exact (Below.heap_setCell w2 ⟨w.heap.size, 4, none⟩ _ _ (by show w.heap.size + 1 ≠ w.heap.size; omega)).trans HZ2.out
  have HO3 : Hid (OwnI W3 (w.heap.size + 2) (.slice x cn cx) cn cs) := by
    rw [hW3, ← HS0.out]; exact OwnI.set (M := w.heap.size) (show OwnI w2 W0.heap.size (.slice x cn cx) cn cs from hO2) (by omega)
  have HB3 : Hid (Below w.heap.size w W3) := by
    rw [hW3]; exact (HB.out.trans (hb2.mono HB.out.size)).setCell (p := ⟨w.heap.size, 4, none⟩) (Nat.le_refl _) _
  have hs3 : w.heap.size + 2 ≤ W3.heap.size := by rw [hW3]; have := hb2.size; simp; omega
  clear z0 z1 z2 z3 z4 z5 y0 y1 y2 y3 y4 y5 hO2 hG2 hb2 HZ2 HM HE HI
  obtain ⟨⟨z0, z1, z2, z3, z4, z5⟩, y0, y1, y2, y3, y4, y5⟩ := box6 hM2
  go_upto_region 2 with fail
  clear z0 z1 z2 z3 z4 z5 y0 y1 y2 y3 y4 y5
  rw [← hW3]
  clear hW3 hM2
  have HI4 : Hid (Ints (W3.alloc (.cells #[] 3)) pa ps) := HPI.out _ (HB3.out.alloc HB3.out.size _)
  have HE4 : Hid (OwnI (W3.alloc (.cells #[] 3)) W3.heap.size (.slice (some ⟨W3.heap.size, 0, none⟩) 0 0) 0 []) := ownI_none W3
  obtain ⟨⟨z0, z1, z2, z3, z4, z5⟩, y0, y1, y2, y3, y4, y5⟩ := box6 ((heap_alloc_old W3 (.cells #[] 3) (show w.heap.size < W3.heap.size by omega)).trans HM3.out)
  go_wp2_with (at_builtin; refine wpList_append_ints (by rfl) _ _ (by rfl) W3.heap.size _ 0 [] (by rfl) (show OwnI _ _ _ _ _ from HE4.out) pa pn pc ps (by rfl) (show Ints _ _ _ from HI4.out) HCN.out.2 (by omega) (by simp) ?_)
  intro y cy w5 hO5 hG5
  have hb5 : Below W3.heap.size W3 w5 := ((Below.refl _ W3).alloc (Nat.le_refl _) _).grown hG5 (by simp) (fun c hc => by have hc2 : some W3.heap.size = some c := hc; cases hc2; exact Nat.le_refl _)
  have hM5 : w5.heap[w.heap.size]? = some (.cells #[.int .i64 k, .int .i64 d, .int .i64 wd, .int .i64 hi, .slice x cn cx, .slice pa pn pc] 25 (0, 0)) := (hb5.block _ (by omega)).trans HM3.out
  have hZ5 : w5.heap[w.heap.size + 1]? = some (.cells #[.int .i64 0, .int .i64 0, .int .i64 0, .int .i64 0, .slice none 0 0, .slice none 0 0] 25 (0, 0)) := (hb5.block _ (by omega)).trans HZ3.out
  clear z0 z1 z2 z3 z4 z5 y0 y1 y2 y3 y4 y5 HI4 HE4 hG5
  obtain ⟨⟨z0, z1, z2, z3, z4, z5⟩, y0, y1, y2, y3, y4, y5⟩ := box6 hM5
  have HO5 : Hid (OwnI w5 W3.heap.size (.slice y pn cy) pn ps) := hO5
  have HB5 : Hid (Below W3.heap.size W3 w5) := hb5
  obtain ⟨W6, hW6⟩ : ∃ W6, W6 = w5.setCell ⟨w.heap.size, 5, none⟩ (.slice y pn cy) := ⟨_, rfl⟩
  have HM6 : Hid (W6.heap[w.heap.size]? = some (.cells #[.int .i64 k, .int .i64 d, .int .i64 wd, .int .i64 hi, .slice x cn cx, .slice y pn cy] 25 (0, 0))) := by rw [hW6]; exact setCell_block hM5 _
  have hZ6 : W6.heap[w.heap.size + 1]? = some (.cells #[.int .i64 0, .int .i64 0, .int .i64 0, .int .i64 0, .slice none 0 0, .slice none 0 0] 25 (0, 0)) := by
    rw [hW6]; exact (Below.heap_setCell w5 ⟨w.heap.size, 5, none⟩ _ _ (by show w.heap.size + 1 ≠ w.heap.size; omega)).trans hZ5
  have HB6 : Hid (Below w.heap.size w W6) := by
    rw [hW6]; exact (HB3.out.trans (hb5.mono HB3.out.size)).setCell (p := ⟨w.heap.size, 5, none⟩) (Nat.le_refl _) _
  have HT6 : Hid (OwnI W6 W3.heap.size (.slice y pn cy) pn ps ∧ W3.heap.size ≤ W6.heap.size ∧ ∀ j, j < W3.heap.size → w.heap.size + 2 ≤ j → W6.heap[j]? = W3.heap[j]?) := by
    rw [hW6]
    refine ⟨OwnI.set (M := w.heap.size) HO5.out (by omega), by have := hb5.size; simpa using this, fun j hj h2 => ?_⟩
    exact (Below.heap_setCell w5 ⟨w.heap.size, 5, none⟩ _ _ (by show j ≠ w.heap.size; omega)).trans (hb5.block _ hj)
  clear hO5 hb5 hM5 hZ5
  go_upto_region 3 with fail
  clear z0 z1 z2 z3 z4 z5 y0 y1 y2 y3 y4 y5
  rw [← hW6]
  clear hW6
  obtain ⟨⟨z0, z1, z2, z3, z4, z5⟩, y0, y1, y2, y3, y4, y5⟩ := box6 HM6.out
  have hI6 : (Tryz.prog.info? 25).map (·.size) = some (#[Value.int .i64 k, .int .i64 d, .int .i64 wd, .int .i64 hi, .slice x cn cx, .slice y pn cy]).size := by kernel_rfl
  have h16 : (#[Value.int .i64 k, .int .i64 d, .int .i64 wd, .int .i64 hi, .slice x cn cx, .slice y pn cy]).all (·.oneCell') = true := by simp [Value.oneCell']
  go_wp2_with (refine wpList_store_row rfl 25 (.tmp 2) (.tmp 13) rfl (w.heap.size + 1) #[.int .i64 k, .int .i64 d, .int .i64 wd, .int .i64 hi, .slice x cn cx, .slice y pn cy] rfl rfl 25 #[.int .i64 0, .int .i64 0, .int .i64 0, .int .i64 0, .slice none 0 0, .slice none 0 0] hZ6 hI6 rfl h16 ?_)
  have hs2 := setRow_heap W6 (w.heap.size + 1) _ #[.int .i64 k, .int .i64 d, .int .i64 wd, .int .i64 hi, .slice x cn cx, .slice y pn cy] _ _ hZ6
  refine bodyPost_ret_by (results_cell_row (p := 2) (ty := 25) (by kernel_rfl) _ _ (w.heap.size + 1) 25 _ (0, 0) _ rfl hs2 Tryz.underlying25 rfl (by kernel_rfl)) rfl ⟨⟨x, cx, y, cy, rfl, W3, HO3.out, OwnI.row (M := w.heap.size + 1) HT6.out.1 (by omega) _, hs3, by have := HT6.out.2.1; simpa using this, fun j hj h2 => (setRow_other W6 (w.heap.size + 1) j _ (by omega)).trans (HT6.out.2.2 j hj h2)⟩, ?_⟩
  exact HB6.out.trans ((below_setRow _ _ _).mono (by omega))
end Go.Proofs.YteldjmocbbbinaaGreatDoor

/- One int appended to a row of the call's own. -/
namespace Go.Proofs.YteldjmocbbbinaaGreatDoor
open Go.RowKit

/-- the world behind an append: only v's own row has turned, and new blocks came -/
structure Grew (base : Nat) (w0 w' : World) (v : Value) (g : Nat) : Prop where
  os : w'.os = w0.os
  tape : w'.tape = w0.tape
  output : w'.output = w0.output
  size : w0.heap.size ≤ w'.heap.size
  own : ∀ k, v.ownBlock = some k → base ≤ k ∧ k < w0.heap.size
  block : ∀ k, k < w0.heap.size → some k ≠ v.ownBlock → w'.heap[k]? = w0.heap[k]?
  at_ : v.ownBlock = some g ∨ w0.heap.size ≤ g
  lt : g < w'.heap.size

theorem Grew.below {base g B : Nat} {w0 w' W : World} {v : Value} (h : Grew base w0 w' v g) (hb : Below B W w0) (hB : B ≤ base) (hs : B ≤ w0.heap.size) : Below B W w' :=
  hb.trans ⟨h.os, h.tape, h.output, h.size, fun k hk => h.block k (by omega) (fun e => by have := (h.own k e.symm).1; omega)⟩
theorem Grew.cell {base g : Nat} {w0 w' : World} {v : Value} (h : Grew base w0 w' v g) {a : Addr} (ha : a.block < w0.heap.size) (hf : v.ownBlock ≠ some a.block) : w'.cell? a = w0.cell? a :=
  World.cell?_of_block (w := w0) (h.block a.block ha (fun e => hf e.symm))
theorem Grew.far {base g b cap n : Nat} {w0 w' : World} {v : Value} (h : Grew base w0 w' v g) (hb : b < w0.heap.size) (hf : v.ownBlock ≠ some b) : (Value.slice (some ⟨g, 0, none⟩) n cap).ownBlock ≠ some b := by
  show some g ≠ some b
  intro e
  cases e
  rcases h.at_ with e | e
  · exact hf e
  · omega

theorem Grew.of {base g e size n : Nat} {w0 w' : World} {v : Value} {xs : List Value} {o : Obj} (hown : w0.ownsRow base e size v n xs) (hg : (w0.alloc o).grownBy w' v.ownBlock) (hat : v.ownBlock = some g ∨ g = (w0.alloc o).heap.size) (hlt : g < w'.heap.size) : Grew base w0 w' v g := by
  have hs := hg.size
  rw [World.size_alloc] at hs
  refine ⟨hg.os, hg.tape, hg.output, by omega, fun k hk => World.ownsRow.lt hown k hk, fun k hk hne => ?_, ?_, hlt⟩
  · rw [hg.block k (by rw [World.size_alloc]; omega) hne]; exact Below.heap_alloc _ _ _ hk
  · rcases hat with e | e
    · exact .inl e
    · rw [World.size_alloc] at e; exact .inr (by omega)

theorem wpList_app1 {ops : Array Oper} {rest : List Oper} {o : Oper} {a : Act} {Q : Exit → Act → World → Prop} (w0 : World) (hgd : o.guard = none) (s x : Operand)
    (ho : o.op = .call { callee := .builtin .append, args := #[s, x], argTypes := #[23, 23] })
    (base : Nat) (v : Value) (n : Nat) (l : List Int) (z : Int) (hs : a.eval s = v) (hown : OwnI w0 base v n l) (hx : a.eval x = .slice (some ⟨w0.heap.size, 0, none⟩) 1 1) (hn : n ≤ 2000000) (hb : base ≤ w0.heap.size)
    (h : ∀ g cap w', OwnI w' base (.slice (some ⟨g, 0, none⟩) (n + 1) cap) (n + 1) (l ++ [z]) → Grew base w0 w' v g → wpList Tryz.prog ops Q rest (a.put o.dst (.slice (some ⟨g, 0, none⟩) (n + 1) cap)) w') :
    wpList Tryz.prog ops Q (o :: rest) a (w0.alloc (.cells #[.int .i64 z] 3)) := by
  obtain ⟨i0, hi0, hz0, hz1, hz2⟩ := info_parts info_int
  refine wpList_append_lies _ hgd s x _ ho base 3 i0 (.int .i64 0) 1 8 Tryz.underlying23 hi0 hz0 hz1 hz2 rfl (by decide) v n (intsV l) hs (World.ownsRow.alloc (show World.ownsRow _ _ _ _ _ _ _ from hown) _) ⟨w0.heap.size, 0, none⟩ 1 1 [.int .i64 z] hx rfl (World.news_of_block (heap_alloc_new _ _)) (fun u hu => by simp at hu; subst hu; rfl) (by decide) (by unfold maxLen; omega) (by omega) (by rw [World.size_alloc]; omega) _ rfl ?_
  intro g cap w' hown' hg hat hlt
  exact h g cap w' (OwnI.more hown') (Grew.of hown hg hat hlt)

theorem OwnI.alloc {w : World} {B n : Nat} {v : Value} {l : List Int} (h : OwnI w B v n l) (o : Obj) : OwnI (w.alloc o) B v n l := World.ownsRow.alloc (show World.ownsRow _ _ _ _ _ _ _ from h) o
theorem OwnI.far {w : World} {B n : Nat} {v : Value} {l : List Int} (h : OwnI w B v n l) {b : Nat} (hb : w.heap.size ≤ b) : v.ownBlock ≠ some b := fun e => by have := (World.ownsRow.lt h b e).2; omega
/-- the same at a step of a region that draws its order -/
theorem step_app1 {ops : Array Oper} {o : Oper} {a : Act} {K : Act → World → Prop} {Q : Exit → Act → World → Prop} {E : Prop} (w0 : World) (hgd : o.guard = none) (s x : Operand)
    (ho : o.op = .call { callee := .builtin .append, args := #[s, x], argTypes := #[23, 23] })
    (base : Nat) (v : Value) (n : Nat) (l : List Int) (z : Int) (hs : a.eval s = v) (hown : OwnI w0 base v n l) (hx : a.eval x = .slice (some ⟨w0.heap.size, 0, none⟩) 1 1) (hn : n ≤ 2000000) (hb : base ≤ w0.heap.size)
    (h : ∀ g cap w', OwnI w' base (.slice (some ⟨g, 0, none⟩) (n + 1) cap) (n + 1) (l ++ [z]) → Grew base w0 w' v g → K (a.put o.dst (.slice (some ⟨g, 0, none⟩) (n + 1) cap)) w') :
    if Region.wanted o (yielded ops a.tmps) = true then Oper.wp Tryz.prog o a (w0.alloc (.cells #[.int .i64 z] 3)) K Q else E := by
  obtain ⟨i0, hi0, hz0, hz1, hz2⟩ := info_parts info_int
  refine step_append_lies _ hgd s x _ ho base 3 i0 (.int .i64 0) 1 8 Tryz.underlying23 hi0 hz0 hz1 hz2 rfl (by decide) v n (intsV l) hs (World.ownsRow.alloc (show World.ownsRow _ _ _ _ _ _ _ from hown) _) ⟨w0.heap.size, 0, none⟩ 1 1 [.int .i64 z] hx rfl (World.news_of_block (heap_alloc_new _ _)) (fun u hu => by simp at hu; subst hu; rfl) (by decide) (by unfold maxLen; omega) (by omega) (by rw [World.size_alloc]; omega) _ rfl ?_
  intro g cap w' hown' hg hat hlt
  exact h g cap w' (OwnI.more hown') (Grew.of hown hg hat hlt)
end Go.Proofs.YteldjmocbbbinaaGreatDoor

/- A picture that is spoilt: its box, its two lists, beside the reader. -/
namespace Go.Proofs.YteldjmocbbbinaaGreatDoor
open Go.RowKit

/-- the slice's cells read as the list, in a block from lo on -/
def IntsFrom (w : World) (lo : Nat) (a : Option Addr) (zs : List Int) : Prop :=
  zs = [] ∨ ∃ b off, a = some ⟨b, off, none⟩ ∧ lo ≤ b ∧ b < w.heap.size ∧ ∀ i (h : i < zs.length), w.cell? ⟨b, off + i, none⟩ = some (.int .i64 zs[i])
theorem IntsFrom.ints {w : World} {lo : Nat} {a : Option Addr} {zs : List Int} (h : IntsFrom w lo a zs) : Ints w a zs := by
  rcases h with e | ⟨b, off, rfl, _, h2, h3⟩
  · exact .inl e
  · exact .inr ⟨b, off, rfl, h2, h3⟩
theorem IntsFrom.row {w : World} {lo M : Nat} {a : Option Addr} {zs : List Int} (h : IntsFrom w lo a zs) (hM : M < lo) (cs : Array Value) : IntsFrom (w.setRow M cs) lo a zs := by
  rcases h with e | ⟨b, off, rfl, h1, h2, h3⟩
  · exact .inl e
  · refine .inr ⟨b, off, rfl, h1, by simpa using h2, fun i hi => ?_⟩
    rw [World.cell?_of_block (w := w) (a := ⟨b, off + i, none⟩) (setRow_other w M b cs (by omega))]; exact h3 i hi
theorem IntsFrom.set {w : World} {lo M i : Nat} {a : Option Addr} {zs : List Int} {v : Value} (h : IntsFrom w lo a zs) (hM : ∀ b off, a = some ⟨b, off, none⟩ → b ≠ M) : IntsFrom (w.setCell ⟨M, i, none⟩ v) lo a zs := by
  rcases h with e | ⟨b, off, rfl, h1, h2, h3⟩
  · exact .inl e
  · refine .inr ⟨b, off, rfl, h1, by simpa using h2, fun j hj => ?_⟩
    rw [World.cell?_of_block (w := w) (a := ⟨b, off + j, none⟩) (Below.heap_setCell w ⟨M, i, none⟩ v b (hM b off rfl))]; exact h3 j hj
theorem IntsFrom.only {w w' : World} {lo B : Nat} {a : Option Addr} {zs : List Int} (h : IntsFrom w lo a zs) (ho : Only B w w') (hB : B < lo) : IntsFrom w' lo a zs := by
  rcases h with e | ⟨b, off, rfl, h1, h2, h3⟩
  · exact .inl e
  · exact .inr ⟨b, off, rfl, h1, Nat.lt_of_lt_of_le h2 ho.below.size, fun i hi => (ho.cell b (off + i) h2 (by omega)).trans (h3 i hi)⟩
theorem OwnI.from {w : World} {lo n c : Nat} {a : Option Addr} {zs : List Int} (h : OwnI w lo (.slice a n c) n zs) : IntsFrom w lo a zs := by
  obtain ⟨ao, cap, e, hO⟩ := h.owns
  cases e
  rcases hO with e | ⟨b, rfl, h1, h2, h3⟩
  · exact .inl e
  · exact .inr ⟨b, 0, rfl, h1, h2, fun i hi => by rw [Nat.zero_add]; exact (h3 i hi).1⟩
theorem OwnI.tail {w : World} {lo n c : Nat} {a : Option Addr} {zs : List Int} (h : OwnI w lo (.slice a (n + 1) c) (n + 1) zs) : ∃ g, a = some ⟨g, 0, none⟩ ∧ IntsFrom w lo (some ⟨g, 1, none⟩) zs.tail ∧ n + 1 ≤ c := by
  have hl := h.len
  have hc : n + 1 ≤ c := by
    rcases h.2 with ⟨e, h0⟩ | ⟨g, cap', cur, e, _, _, h1, _⟩
    · omega
    · cases e; exact h1
  rcases h.from with e | ⟨b, off, rfl, h1, h2, h3⟩
  · rw [e] at hl; simp at hl
  · obtain ⟨ao, cap, e, hO⟩ := h.owns
    cases e
    rcases hO with e | ⟨g, e, _, _, _⟩
    · rw [e] at hl; simp at hl
    · cases e
      refine ⟨b, rfl, .inr ⟨b, 1, rfl, h1, h2, fun i hi => ?_⟩, hc⟩
      rw [List.length_tail] at hi
      have := h3 (i + 1) (by omega)
      rw [show 1 + i = 0 + (i + 1) by omega, this]
      simp

theorem OwnI.cap {w : World} {lo n c : Nat} {a : Option Addr} {zs : List Int} (h : OwnI w lo (.slice a n c) n zs) : n ≤ c := by
  rcases h.2 with ⟨e, h0⟩ | ⟨g, cap', cur, e, _, _, h1, _⟩
  · cases e; omega
  · cases e; exact h1

/-- some picture -/
def AnyOut (lo : Nat) (e : Ending) (w' : World) : Prop := ∃ (k d wd hi : Int) (a : Option Addr) (n c : Nat) (cs : List Int) (b : Option Addr) (m cc : Nat) (ps : List Int),
  e = .returned (.agg #[.int .i64 k, .int .i64 d, .int .i64 wd, .int .i64 hi, .slice a n c, .slice b m cc]) ∧ IntsFrom w' lo a cs ∧ cs.length = n ∧ n ≤ 1000 ∧ n ≤ c ∧ IntsFrom w' lo b ps ∧ ps.length = m ∧ m ≤ 1000 ∧ m ≤ cc ∧
  0 ≤ k ∧ k ≤ 100 ∧ 0 ≤ d ∧ d ≤ 100 ∧ 0 ≤ wd ∧ wd ≤ 100 ∧ 0 ≤ hi ∧ hi ≤ 100

/-- what the spoiling of a picture keeps -/
structure SX (w wc : World) (B X q : Nat) (k d wd hi : Int) (v4 : Value) (n : Nat) (cs : List Int) (v5 : Value) (m : Nat) (ps : List Int) : Prop where
  rd : RdAt wc B q
  only : Only B w wc
  res : wc.heap[w.heap.size + 1]? = some (.cells #[.int .i64 0, .int .i64 0, .int .i64 0, .int .i64 0, .slice none 0 0, .slice none 0 0] 25 (0, 0))
  box : wc.heap[X]? = some (.cells #[.int .i64 k, .int .i64 d, .int .i64 wd, .int .i64 hi, v4, v5] 25 (0, 0))
  lt : B < w.heap.size
  hX : w.heap.size + 2 ≤ X
  o4 : OwnI wc (w.heap.size + 2) v4 n cs
  o5 : OwnI wc (w.heap.size + 2) v5 m ps
  f4 : v4.ownBlock ≠ some X
  f5 : v5.ownBlock ≠ some X
  ne : ∀ g, v4.ownBlock = some g → v5.ownBlock ≠ some g

theorem SX.pick {w wc w' : World} {B X q n m : Nat} {k d wd hi : Int} {v4 v5 : Value} {cs ps : List Int} (h : SX w wc B X q k d wd hi v4 n cs v5 m ps) (hr : RdAt w' B (q + 1)) (ho : Only B wc w') : SX w w' B X (q + 1) k d wd hi v4 n cs v5 m ps :=
  { h with rd := hr, only := h.only.trans ho, res := (ho.rest _ (lt_of_block h.res) (by have := h.lt; omega)).trans h.res, box := (ho.rest _ (lt_of_block h.box) (by have := h.lt; have := h.hX; omega)).trans h.box, o4 := h.o4.only ho (by have := h.lt; omega), o5 := h.o5.only ho (by have := h.lt; omega) }
theorem SX.alloc {w wc : World} {B X q n m : Nat} {k d wd hi : Int} {v4 v5 : Value} {cs ps : List Int} (h : SX w wc B X q k d wd hi v4 n cs v5 m ps) (o : Obj) : SX w (wc.alloc o) B X q k d wd hi v4 n cs v5 m ps :=
  { h with rd := h.rd.alloc o, only := h.only.alloc h.rd.lt o, res := (heap_alloc_old _ _ (lt_of_block h.res)).trans h.res, box := (heap_alloc_old _ _ (lt_of_block h.box)).trans h.box, o4 := h.o4.old o, o5 := h.o5.old o }
theorem SX.drew {w wc : World} {B X q n m : Nat} {k d wd hi : Int} {v4 v5 : Value} {cs ps : List Int} (h : SX w wc B X q k d wd hi v4 n cs v5 m ps) : SX w wc.drew B X q k d wd hi v4 n cs v5 m ps :=
  { h with rd := h.rd.drew, only := ⟨h.only.below.drew, h.only.rest⟩, res := h.res, box := h.box, o4 := h.o4, o5 := h.o5 }

theorem OwnI.far_set {w : World} {lo n M i : Nat} {v x : Value} {l : List Int} (h : OwnI w lo v n l) (hf : v.ownBlock ≠ some M) : OwnI (w.setCell ⟨M, i, none⟩ x) lo v n l := by
  refine World.ownsRow.kept (show World.ownsRow _ _ _ _ _ _ _ from h) (row := some M) ⟨rfl, rfl, rfl, by simp, fun k _ hk => Below.heap_setCell w ⟨M, i, none⟩ x k (fun e => hk (by rw [e]))⟩ (.inr hf)

/-- the picture as it is handed back: any numbers, lists that lie somewhere -/
structure FX (w wc : World) (B X q : Nat) (k d wd hi : Int) (a : Option Addr) (n c : Nat) (cs : List Int) (b : Option Addr) (m cc : Nat) (ps : List Int) : Prop where
  rd : RdAt wc B q
  only : Only B w wc
  res : wc.heap[w.heap.size + 1]? = some (.cells #[.int .i64 0, .int .i64 0, .int .i64 0, .int .i64 0, .slice none 0 0, .slice none 0 0] 25 (0, 0))
  box : wc.heap[X]? = some (.cells #[.int .i64 k, .int .i64 d, .int .i64 wd, .int .i64 hi, .slice a n c, .slice b m cc] 25 (0, 0))
  lt : B < w.heap.size
  i4 : IntsFrom wc (w.heap.size + 2) a cs
  i5 : IntsFrom wc (w.heap.size + 2) b ps
  l4 : cs.length = n ∧ n ≤ 1000 ∧ n ≤ c
  l5 : ps.length = m ∧ m ≤ 1000 ∧ m ≤ cc
  bd : 0 ≤ k ∧ k ≤ 100 ∧ 0 ≤ d ∧ d ≤ 100 ∧ 0 ≤ wd ∧ wd ≤ 100 ∧ 0 ≤ hi ∧ hi ≤ 100

theorem SX.fx {w wc : World} {B X q n m c cc : Nat} {k d wd hi : Int} {a b : Option Addr} {cs ps : List Int} (h : SX w wc B X q k d wd hi (.slice a n c) n cs (.slice b m cc) m ps) (hn : n ≤ 1000) (hm : m ≤ 1000) (bd : 0 ≤ k ∧ k ≤ 100 ∧ 0 ≤ d ∧ d ≤ 100 ∧ 0 ≤ wd ∧ wd ≤ 100 ∧ 0 ≤ hi ∧ hi ≤ 100) : FX w wc B X q k d wd hi a n c cs b m cc ps :=
  ⟨h.rd, h.only, h.res, h.box, h.lt, h.o4.from, h.o5.from, ⟨h.o4.len, hn, h.o4.cap⟩, ⟨h.o5.len, hm, h.o5.cap⟩, bd⟩

/-- a number of the picture is another one -/
theorem SX.setn {w wc : World} {B X q n m : Nat} {k d wd hi k' d' wd' hi' : Int} {v4 v5 : Value} {cs ps : List Int} (h : SX w wc B X q k d wd hi v4 n cs v5 m ps) (i : Nat) (x : Value) (e : (#[Value.int .i64 k, .int .i64 d, .int .i64 wd, .int .i64 hi, v4, v5]).setIfInBounds i x = #[.int .i64 k', .int .i64 d', .int .i64 wd', .int .i64 hi', v4, v5]) : SX w (wc.setCell ⟨X, i, none⟩ x) B X q k' d' wd' hi' v4 n cs v5 m ps :=
  { h with rd := h.rd.set (by have := h.lt; have := h.hX; omega), only := h.only.setM h.lt (by have := h.hX; omega), res := (Below.heap_setCell wc ⟨X, i, none⟩ _ _ (by have := h.hX; show w.heap.size + 1 ≠ X; omega)).trans h.res, box := by rw [← e]; exact setCell_block h.box _, o4 := h.o4.far_set h.f4, o5 := h.o5.far_set h.f5 }

/-- the points' list is another one, that lies where it lies -/
theorem SX.tail {w wc : World} {B X q n m c cc : Nat} {k d wd hi : Int} {a b : Option Addr} {cs ps : List Int} (h : SX w wc B X q k d wd hi (.slice a n c) n cs (.slice b (m + 1) cc) (m + 1) ps) (hn : n ≤ 1000) (hm : m ≤ 1000) (bd : 0 ≤ k ∧ k ≤ 100 ∧ 0 ≤ d ∧ d ≤ 100 ∧ 0 ≤ wd ∧ wd ≤ 100 ∧ 0 ≤ hi ∧ hi ≤ 100) :
    ∃ g, b = some ⟨g, 0, none⟩ ∧ m + 1 ≤ cc ∧ FX w (wc.setCell ⟨X, 5, none⟩ (.slice (if cc = 1 then some ⟨g, 0, none⟩ else some ⟨g, 1, none⟩) m (cc - 1))) B X q k d wd hi a n c cs (if cc = 1 then some ⟨g, 0, none⟩ else some ⟨g, 1, none⟩) m (cc - 1) ps.tail := by
  obtain ⟨g, rfl, hI, hc⟩ := h.o5.tail
  have hgX : g ≠ X := fun e => h.f5 (by rw [e]; rfl)
  have h4X : ∀ b off, a = some ⟨b, off, none⟩ → b ≠ X := fun b off e eX => h.f4 (by rw [e, eX]; rfl)
  refine ⟨g, rfl, hc, ⟨h.rd.set (by have := h.lt; have := h.hX; omega), h.only.setM h.lt (by have := h.hX; omega), (Below.heap_setCell wc ⟨X, 5, none⟩ _ _ (by have := h.hX; show w.heap.size + 1 ≠ X; omega)).trans h.res, setCell_block h.box _, h.lt, h.o4.from.set h4X, ?_, ⟨h.o4.len, hn, h.o4.cap⟩, ⟨by rw [List.length_tail, h.o5.len]; omega, hm, by omega⟩, bd⟩⟩
  by_cases h1 : cc = 1
  · exact .inl (List.eq_nil_of_length_eq_zero (by rw [List.length_tail, h.o5.len]; omega))
  · rw [if_neg h1]; exact hI.set (fun b off e => by cases e; exact hgX)

/-- one colour more -/
theorem SX.more {w wc w4 : World} {B X q n m g cy : Nat} {k d wd hi : Int} {v4 v5 : Value} {cs ps : List Int} {x : Int} (h : SX w wc B X q k d wd hi v4 n cs v5 m ps) (hO : OwnI w4 (w.heap.size + 2) (.slice (some ⟨g, 0, none⟩) (n + 1) cy) (n + 1) (cs ++ [x])) (hG : Grew (w.heap.size + 2) wc w4 v4 g) :
    w4.heap[X]? = some (.cells #[.int .i64 k, .int .i64 d, .int .i64 wd, .int .i64 hi, v4, v5] 25 (0, 0)) ∧
    SX w (w4.setCell ⟨X, 4, none⟩ (.slice (some ⟨g, 0, none⟩) (n + 1) cy)) B X q k d wd hi (.slice (some ⟨g, 0, none⟩) (n + 1) cy) (n + 1) (cs ++ [x]) v5 m ps := by
  have hbl : ∀ j, j < wc.heap.size → v4.ownBlock ≠ some j → w4.heap[j]? = wc.heap[j]? := fun j hj hne => hG.block j hj (fun e => hne e.symm)
  have hsz := lt_of_block h.box
  have hb : w4.heap[X]? = some (.cells #[.int .i64 k, .int .i64 d, .int .i64 wd, .int .i64 hi, v4, v5] 25 (0, 0)) := (hbl X hsz h.f4).trans h.box
  have hlow : ∀ j, j < w.heap.size + 2 → v4.ownBlock ≠ some j := fun j hj e => by have := (hG.own j e).1; omega
  have b4 : Below (w.heap.size + 2) wc w4 := ⟨hG.os, hG.tape, hG.output, hG.size, fun j hj => hbl j (by have := h.hX; omega) (hlow j hj)⟩
  have f4' : (Value.slice (some ⟨g, 0, none⟩) (n + 1) cy).ownBlock ≠ some X := hG.far hsz h.f4
  have o5' : OwnI w4 (w.heap.size + 2) v5 m ps := by
    refine World.ownsRow.kept (show World.ownsRow _ _ _ _ _ _ _ from h.o5) (row := v4.ownBlock) ⟨hG.os, hG.tape, hG.output, hG.size, fun j hj hne => hG.block j hj hne⟩ ?_
    rcases hv : v4.ownBlock with _ | g4
    · rcases h5 : v5.ownBlock with _ | g5
      · exact .inl rfl
      · exact .inr (by simp)
    · exact .inr (h.ne g4 hv)
  refine ⟨hb, ?_⟩
  refine ⟨(h.rd.kept (b4.mono (by have := h.lt; omega))).set (by have := h.lt; have := h.hX; omega), (h.only.grown h.lt (b4.mono (by omega))).setM h.lt (by have := h.hX; omega), ?_, setCell_block hb _, h.lt, h.hX, hO.far_set f4', o5'.far_set h.f5, f4', h.f5, ?_⟩
  · rw [Below.heap_setCell w4 ⟨X, 4, none⟩ _ _ (by have := h.hX; show w.heap.size + 1 ≠ X; omega), b4.block _ (by omega)]; exact h.res
  · intro g' e
    have e' : some g = some g' := e
    cases e'
    intro h5
    rcases hG.at_ with e4 | hge
    · exact h.ne g e4 h5
    · have := (World.ownsRow.lt (show World.ownsRow _ _ _ _ _ _ _ from h.o5) g h5).2; omega

/-- a point is another one -/
theorem SX.put {w wc : World} {B X q n m g cc j : Nat} {k d wd hi : Int} {v4 : Value} {cs ps : List Int} {x : Int} (h : SX w wc B X q k d wd hi v4 n cs (.slice (some ⟨g, 0, none⟩) m cc) m ps) :
    SX w (wc.setCell ⟨g, j, none⟩ (.int .i64 x)) B X q k d wd hi v4 n cs (.slice (some ⟨g, 0, none⟩) m cc) m (ps.set j x) := by
  have hg2 := (World.ownsRow.lt (show World.ownsRow _ _ _ _ _ _ _ from h.o5) g rfl).1
  have hgX : g ≠ X := fun e => h.f5 (by rw [e]; rfl)
  have hs := (World.ownsRow.stored (show World.ownsRow _ _ _ _ _ _ _ from h.o5) j (.int .i64 x)).1
  have e : (intsV ps).set j (.int .i64 x) = intsV (ps.set j x) := by simp [intsV, List.map_set]
  rw [e] at hs
  refine { h with rd := h.rd.set (by have := h.lt; omega), only := h.only.setM h.lt (by omega), res := (Below.heap_setCell wc ⟨g, j, none⟩ _ _ (by show w.heap.size + 1 ≠ g; omega)).trans h.res, box := (Below.heap_setCell wc ⟨g, j, none⟩ _ _ (by show X ≠ g; omega)).trans h.box, o4 := h.o4.far_set (fun e => h.ne g e rfl), o5 := hs }
end Go.Proofs.YteldjmocbbbinaaGreatDoor

/- Lists of ints that stay, and one that is copied into a row of its own. -/
namespace Go.Proofs.YteldjmocbbbinaaGreatDoor
open Go.RowKit

theorem Own.kept {w w' : World} {b n : Nat} {f : Nat → Int} (h : Own w b n f) (hb : Below w.heap.size w w') : Own w' b n f :=
  ⟨Nat.lt_of_lt_of_le h.1 hb.size, fun i hi => ⟨(hb.cell (p := ⟨b, i, none⟩) h.1).trans (h.2 i hi).1, (hb.frozen (p := ⟨b, i, none⟩) h.1).trans (h.2 i hi).2⟩⟩

end Go.Proofs.YteldjmocbbbinaaGreatDoor

/- A list that an answer owns: marks laid into it and found. -/
namespace Go.Proofs.YteldjmocbbbinaaGreatDoor
open Go.RowKit

def marks (M : Nat) : List Int := (List.range M).map fun i : Nat => (i : Int) + 1
theorem own_of {w : World} {b M : Nat} {l : List Int} (hM : l.length = M) (hb : b < w.heap.size) (hc : ∀ i (h : i < l.length), w.cell? ⟨b, i, none⟩ = some (.int .i64 l[i]) ∧ w.frozen? ⟨b, i, none⟩ = false) : Own w b M (fun i => l.getD i 0) := by
  refine ⟨hb, fun i hi => ?_⟩
  have h := hc i (by omega)
  have e : l.getD i 0 = l[i]'(by omega) := by rw [List.getD_eq_getElem?_getD, List.getElem?_eq_getElem (by omega)]; rfl
  show w.cell? ⟨b, i, none⟩ = some (.int .i64 (l.getD i 0)) ∧ _
  rw [e]
  exact h
end Go.Proofs.YteldjmocbbbinaaGreatDoor

/- Marks laid into a picture's lists, from a number on, and found again. -/
namespace Go.Proofs.YteldjmocbbbinaaGreatDoor
open Go.RowKit

/-- blocks outside of a stretch lie as they lay -/
structure Outside (lo hi : Nat) (w w' : World) : Prop where
  os : w'.os = w.os
  tape : w'.tape = w.tape
  output : w'.output = w.output
  size : w.heap.size ≤ w'.heap.size
  rest : ∀ k, k < w.heap.size → (k < lo ∨ hi ≤ k) → w'.heap[k]? = w.heap[k]?
theorem Outside.trans {lo hi : Nat} {a b c : World} (h : Outside lo hi a b) (g : Outside lo hi b c) : Outside lo hi a c :=
  ⟨g.os.trans h.os, g.tape.trans h.tape, g.output.trans h.output, Nat.le_trans h.size g.size, fun k hk ho => (g.rest k (Nat.lt_of_lt_of_le hk h.size) ho).trans (h.rest k hk ho)⟩
theorem Outside.of_below {lo hi : Nat} {a b : World} (h : Below a.heap.size a b) : Outside lo hi a b := ⟨h.os, h.tape, h.output, h.size, fun k hk _ => h.block k hk⟩
theorem Outside.below {lo hi n : Nat} {a b : World} (h : Outside lo hi a b) (hn : n ≤ lo) (hs : n ≤ a.heap.size) : Below n a b := ⟨h.os, h.tape, h.output, h.size, fun k hk => h.rest k (by omega) (.inl (by omega))⟩

theorem Outside.wide {lo hi lo' hi' : Nat} {a b : World} (h : Outside lo hi a b) (h1 : lo' ≤ lo) (h2 : hi ≤ hi') : Outside lo' hi' a b := ⟨h.os, h.tape, h.output, h.size, fun k hk ho => h.rest k hk (by omega)⟩

/-- a list of the call's own in blocks of a stretch -/
def OwnsIn (w : World) (lo hi : Nat) (a : Option Addr) (l : List Int) : Prop :=
  l = [] ∨ ∃ b, a = some ⟨b, 0, none⟩ ∧ lo ≤ b ∧ b < hi ∧ Own w b l.length (fun i => l.getD i 0)
theorem Owns.inn {w : World} {lo : Nat} {a : Option Addr} {l : List Int} (h : Owns w lo a l) : OwnsIn w lo w.heap.size a l := by
  rcases h with e | ⟨b, rfl, h1, h2, h3⟩
  · exact .inl e
  · exact .inr ⟨b, rfl, h1, h2, own_of rfl h2 h3⟩
theorem OwnsIn.ints {w : World} {lo hi : Nat} {a : Option Addr} {l : List Int} (h : OwnsIn w lo hi a l) : Ints w a l := by
  rcases h with e | ⟨b, rfl, h1, h2, h3⟩
  · exact .inl e
  · refine .inr ⟨b, 0, rfl, h3.1, fun i hi => ?_⟩
    have := (h3.2 i hi).1
    rw [Nat.zero_add]
    simpa [List.getElem?_eq_getElem hi] using this
theorem OwnsIn.out {w w' : World} {lo hi lo' hi' : Nat} {a : Option Addr} {l : List Int} (h : OwnsIn w lo hi a l) (g : Outside lo' hi' w w') (ho : hi ≤ lo' ∨ hi' ≤ lo) : OwnsIn w' lo hi a l := by
  rcases h with e | ⟨b, rfl, h1, h2, h3⟩
  · exact .inl e
  · have hb := g.rest b h3.1 (by omega)
    exact .inr ⟨b, rfl, h1, h2, Nat.lt_of_lt_of_le h3.1 g.size, fun i hi => ⟨(World.cell?_of_block (w := w) (a := ⟨b, i, none⟩) hb).trans (h3.2 i hi).1, (World.frozen?_of_block (w := w) (a := ⟨b, i, none⟩) hb).trans (h3.2 i hi).2⟩⟩
theorem OwnsIn.kept {w w' : World} {lo hi : Nat} {a : Option Addr} {l : List Int} (h : OwnsIn w lo hi a l) (g : Below w.heap.size w w') : OwnsIn w' lo hi a l := h.out (Outside.of_below (lo := 0) (hi := 0) g) (by omega)
theorem Ints.out {w0 w w' : World} {lo hi : Nat} {a : Option Addr} {l : List Int} (h0 : Ints w0 a l) (h : Ints w a l) (g : Outside lo hi w w') (hl : w0.heap.size ≤ lo) : Ints w' a l := by
  rcases h0 with e | ⟨b, off, rfl, hb, _⟩
  · exact .inl e
  · rcases h with e | ⟨c, off', e, hc, hcell⟩
    · exact .inl e
    · cases e
      exact .inr ⟨b, off, rfl, Nat.lt_of_lt_of_le hc g.size, fun i hi => (World.cell?_of_block (w := w) (a := ⟨b, off + i, none⟩) (g.rest b hc (by omega))).trans (hcell i hi)⟩

end Go.Proofs.YteldjmocbbbinaaGreatDoor

/- For the laws over pictures that are made: boxes that stay, and a copy that is its own. -/
namespace Go.Proofs.YteldjmocbbbinaaGreatDoor
open Go.RowKit

/-- six cells of a block -/
def Bx (w : World) (B : Nat) (v0 v1 v2 v3 v4 v5 : Value) : Prop := B < w.heap.size ∧ w.cell? ⟨B, 0, none⟩ = some v0 ∧ w.cell? ⟨B, 1, none⟩ = some v1 ∧ w.cell? ⟨B, 2, none⟩ = some v2 ∧ w.cell? ⟨B, 3, none⟩ = some v3 ∧ w.cell? ⟨B, 4, none⟩ = some v4 ∧ w.cell? ⟨B, 5, none⟩ = some v5
theorem bx_new (w : World) (v0 v1 v2 v3 v4 v5 : Value) (T : TypeId) : Bx (w.alloc (.cells #[v0, v1, v2, v3, v4, v5] T)) w.heap.size v0 v1 v2 v3 v4 v5 := ⟨by simp, box_new w v0 v1 v2 v3 v4 v5 T⟩
theorem Bx.kept {w w' : World} {B : Nat} {v0 v1 v2 v3 v4 v5 : Value} (h : Bx w B v0 v1 v2 v3 v4 v5) (b : Below w.heap.size w w') : Bx w' B v0 v1 v2 v3 v4 v5 := ⟨Nat.lt_of_lt_of_le h.1 b.size, box_kept h.2 b h.1⟩
theorem Bx.out {w w' : World} {B lo hi : Nat} {v0 v1 v2 v3 v4 v5 : Value} (h : Bx w B v0 v1 v2 v3 v4 v5) (o : Outside lo hi w w') (hB : B < lo ∨ hi ≤ B) : Bx w' B v0 v1 v2 v3 v4 v5 := by
  have hb := o.rest B h.1 hB
  exact ⟨Nat.lt_of_lt_of_le h.1 o.size, (World.cell?_of_block (w := w) (a := ⟨B, 0, none⟩) hb).trans h.2.1, (World.cell?_of_block (w := w) (a := ⟨B, 1, none⟩) hb).trans h.2.2.1, (World.cell?_of_block (w := w) (a := ⟨B, 2, none⟩) hb).trans h.2.2.2.1, (World.cell?_of_block (w := w) (a := ⟨B, 3, none⟩) hb).trans h.2.2.2.2.1, (World.cell?_of_block (w := w) (a := ⟨B, 4, none⟩) hb).trans h.2.2.2.2.2.1, (World.cell?_of_block (w := w) (a := ⟨B, 5, none⟩) hb).trans h.2.2.2.2.2.2⟩

/-- two lists of the call's own in blocks of a stretch, apart -/
def Two (w : World) (lo hi : Nat) (x : Option Addr) (cs : List Int) (y : Option Addr) (ps : List Int) : Prop := ∃ mid, lo ≤ mid ∧ mid ≤ hi ∧ hi ≤ w.heap.size ∧ OwnsIn w lo mid x cs ∧ OwnsIn w mid hi y ps
theorem Two.kept {w w' : World} {lo hi : Nat} {x y : Option Addr} {cs ps : List Int} (h : Two w lo hi x cs y ps) (b : Below w.heap.size w w') : Two w' lo hi x cs y ps := by
  obtain ⟨m, h1, h2, h3, h4, h5⟩ := h
  exact ⟨m, h1, h2, Nat.le_trans h3 b.size, h4.kept b, h5.kept b⟩
theorem Two.out {w w' : World} {lo hi lo' hi' : Nat} {x y : Option Addr} {cs ps : List Int} (h : Two w lo hi x cs y ps) (o : Outside lo' hi' w w') (ho : hi ≤ lo' ∨ hi' ≤ lo) : Two w' lo hi x cs y ps := by
  obtain ⟨m, h1, h2, h3, h4, h5⟩ := h
  exact ⟨m, h1, h2, Nat.le_trans h3 o.size, h4.out o (by omega), h5.out o (by omega)⟩
theorem Two.ints {w : World} {lo hi : Nat} {x y : Option Addr} {cs ps : List Int} (h : Two w lo hi x cs y ps) : Ints w x cs ∧ Ints w y ps := by
  obtain ⟨m, h1, h2, h3, h4, h5⟩ := h
  exact ⟨h4.ints, h5.ints⟩
theorem Pair2.two {w : World} {lo : Nat} {x y : Option Addr} {cs ps : List Int} (h : Pair2 w lo x cs y ps) (hlo : lo ≤ w.heap.size) : Two w lo w.heap.size x cs y ps := by
  obtain ⟨m, h1, h2, h3, h4⟩ := h
  by_cases hm : m ≤ w.heap.size
  · refine ⟨m, h1, hm, Nat.le_refl _, ?_, h4.inn⟩
    rcases h3 with e | ⟨b, rfl, hb⟩
    · exact .inl e
    · rcases h2 with e | ⟨b', e, h5, h6, h7⟩
      · exact .inl e
      · cases e; exact .inr ⟨b, rfl, h5, hb, own_of rfl h6 h7⟩
  · have hps : ps = [] := by
      rcases h4 with e | ⟨b, rfl, hb, hb2, _⟩
      · exact e
      · omega
    exact ⟨w.heap.size, hlo, Nat.le_refl _, Nat.le_refl _, h2.inn, .inl hps⟩

end Go.Proofs.YteldjmocbbbinaaGreatDoor

/- What each format can hold: both sides. -/
namespace Go.Proofs.YteldjmocbbbinaaGreatDoor
open Go.RowKit

/-- the number of a kind in a TGA -/
def Tg.sort (k d : Int) : Int := if k = 4 ∧ d = 8 then 1 else if k = 2 ∨ k = 3 then 2 else if k = 1 ∧ d = 8 then 3 else 0
set_option maxHeartbeats 1000000 in
theorem tgaSort_any (k d : Int) (w : World) :
    Calls Tryz.prog 74 #[.int .i64 k, .int .i64 d] w fun e w' => e = .returned (.int .i64 (Tg.sort k d)) ∧ w' = w := by
  by_cases h4 : k = 4
  · subst h4
    by_cases h8 : d = 8
    · subst h8
      have HV : Hid (Tg.sort 4 8 = 1) := rfl
      go_enter Tryz.func74, Tryz.ntmps74
      go_wp2_with fail
      go_ret
      exact ⟨ret_int (by rw [HV.out]), rfl⟩
    · have f1 : (d == 8) = false := by rw [beq_eq_false_iff_ne]; exact h8
      have f2 : decide (d = 8) = false := by simpa using h8
      have HV : Hid (Tg.sort 4 d = 0) := by show _ = _; unfold Tg.sort; simp [h8]
      go_enter Tryz.func74, Tryz.ntmps74
      go_wp2_with fail
      go_ret
      exact ⟨ret_int (by rw [HV.out]), rfl⟩
  · by_cases h2 : k = 2
    · subst h2
      have HV : Hid (Tg.sort 2 d = 2) := by show _ = _; unfold Tg.sort; simp
      go_enter Tryz.func74, Tryz.ntmps74
      go_wp2_with fail
      go_ret
      exact ⟨ret_int (by rw [HV.out]), rfl⟩
    · by_cases h3 : k = 3
      · subst h3
        have HV : Hid (Tg.sort 3 d = 2) := by show _ = _; unfold Tg.sort; simp
        go_enter Tryz.func74, Tryz.ntmps74
        go_wp2_with fail
        go_ret
        exact ⟨ret_int (by rw [HV.out]), rfl⟩
      · by_cases h1 : k = 1
        · subst h1
          by_cases h8 : d = 8
          · subst h8
            have HV : Hid (Tg.sort 1 8 = 3) := rfl
            go_enter Tryz.func74, Tryz.ntmps74
            go_wp2_with fail
            go_ret
            exact ⟨ret_int (by rw [HV.out]), rfl⟩
          · have f1 : (d == 8) = false := by rw [beq_eq_false_iff_ne]; exact h8
            have f2 : decide (d = 8) = false := by simpa using h8
            have HV : Hid (Tg.sort 1 d = 0) := by show _ = _; unfold Tg.sort; simp [h8]
            go_enter Tryz.func74, Tryz.ntmps74
            go_wp2_with fail
            go_ret
            exact ⟨ret_int (by rw [HV.out]), rfl⟩
        · have g1 : (k == 4) = false := by rw [beq_eq_false_iff_ne]; exact h4
          have g2 : (k == 2) = false := by rw [beq_eq_false_iff_ne]; exact h2
          have g3 : (k == 3) = false := by rw [beq_eq_false_iff_ne]; exact h3
          have g4 : (k == 1) = false := by rw [beq_eq_false_iff_ne]; exact h1
          have HV : Hid (Tg.sort k d = 0) := by show _ = _; unfold Tg.sort; simp [h1, h2, h3, h4]
          go_enter Tryz.func74, Tryz.ntmps74
          go_wp2_with fail
          go_ret
          exact ⟨ret_int (by rw [HV.out]), rfl⟩
set_option maxHeartbeats 1000000 in
theorem l11Tga_any (k d wd hi : Int) (ca : Option Addr) (cn cc : Nat) (pa : Option Addr) (pn pc : Nat) (w : World) :
    Calls Tryz.prog 17 #[.agg #[.int .i64 k, .int .i64 d, .int .i64 wd, .int .i64 hi, .slice ca cn cc, .slice pa pn pc]] w fun e w' => e = .returned (.int .i64 (Tg.sort k d)) ∧ Below w.heap.size w w' := by
  by_cases h4 : k = 4
  · subst h4
    by_cases h8 : d = 8
    · subst h8
      have HV : Hid (Tg.sort 4 8 = 1) := rfl
      go_enter Tryz.func17, Tryz.ntmps17
      go_wp2_with fail
      go_ret
      exact ⟨ret_int (by rw [HV.out]), (Below.refl _ _).alloc (Nat.le_refl _) _⟩
    · have f1 : (d == 8) = false := by rw [beq_eq_false_iff_ne]; exact h8
      have f2 : decide (d = 8) = false := by simpa using h8
      have HV : Hid (Tg.sort 4 d = 0) := by show _ = _; unfold Tg.sort; simp [h8]
      go_enter Tryz.func17, Tryz.ntmps17
      go_wp2_with fail
      go_ret
      exact ⟨ret_int (by rw [HV.out]), (Below.refl _ _).alloc (Nat.le_refl _) _⟩
  · by_cases h2 : k = 2
    · subst h2
      have HV : Hid (Tg.sort 2 d = 2) := by show _ = _; unfold Tg.sort; simp
      go_enter Tryz.func17, Tryz.ntmps17
      go_wp2_with fail
      go_ret
      exact ⟨ret_int (by rw [HV.out]), (Below.refl _ _).alloc (Nat.le_refl _) _⟩
    · by_cases h3 : k = 3
      · subst h3
        have HV : Hid (Tg.sort 3 d = 2) := by show _ = _; unfold Tg.sort; simp
        go_enter Tryz.func17, Tryz.ntmps17
        go_wp2_with fail
        go_ret
        exact ⟨ret_int (by rw [HV.out]), (Below.refl _ _).alloc (Nat.le_refl _) _⟩
      · by_cases h1 : k = 1
        · subst h1
          by_cases h8 : d = 8
          · subst h8
            have HV : Hid (Tg.sort 1 8 = 3) := rfl
            go_enter Tryz.func17, Tryz.ntmps17
            go_wp2_with fail
            go_ret
            exact ⟨ret_int (by rw [HV.out]), (Below.refl _ _).alloc (Nat.le_refl _) _⟩
          · have f1 : (d == 8) = false := by rw [beq_eq_false_iff_ne]; exact h8
            have f2 : decide (d = 8) = false := by simpa using h8
            have HV : Hid (Tg.sort 1 d = 0) := by show _ = _; unfold Tg.sort; simp [h8]
            go_enter Tryz.func17, Tryz.ntmps17
            go_wp2_with fail
            go_ret
            exact ⟨ret_int (by rw [HV.out]), (Below.refl _ _).alloc (Nat.le_refl _) _⟩
        · have g1 : (k == 4) = false := by rw [beq_eq_false_iff_ne]; exact h4
          have g2 : (k == 2) = false := by rw [beq_eq_false_iff_ne]; exact h2
          have g3 : (k == 3) = false := by rw [beq_eq_false_iff_ne]; exact h3
          have g4 : (k == 1) = false := by rw [beq_eq_false_iff_ne]; exact h1
          have HV : Hid (Tg.sort k d = 0) := by show _ = _; unfold Tg.sort; simp [h1, h2, h3, h4]
          go_enter Tryz.func17, Tryz.ntmps17
          go_wp2_with fail
          go_ret
          exact ⟨ret_int (by rw [HV.out]), (Below.refl _ _).alloc (Nat.le_refl _) _⟩

set_option maxHeartbeats 1000000 in
theorem tgaHolds_any (k d wd hi : Int) (ca : Option Addr) (cn cc : Nat) (pa : Option Addr) (pn pc : Nat) (ok : Bool) (w : World)
    (hO : ∀ w', Below w.heap.size w w' → Calls Tryz.prog 7 #[.agg #[.int .i64 k, .int .i64 d, .int .i64 wd, .int .i64 hi, .slice ca cn cc, .slice pa pn pc]] w' fun e w'' => e = .returned (.bool ok) ∧ Below w'.heap.size w' w'') :
    Calls Tryz.prog 51 #[.agg #[.int .i64 k, .int .i64 d, .int .i64 wd, .int .i64 hi, .slice ca cn cc, .slice pa pn pc]] w fun e w' => e = .returned (.bool (ok && (Tg.sort k d != 0))) ∧ Below w.heap.size w w' := by
  have hB0 : Below w.heap.size w (w.alloc (.cells #[.int .i64 k, .int .i64 d, .int .i64 wd, .int .i64 hi, .slice ca cn cc, .slice pa pn pc] 25)) := (Below.refl _ _).alloc (Nat.le_refl _) _
  have A0 := bx_new w (.int .i64 k) (.int .i64 d) (.int .i64 wd) (.int .i64 hi) (.slice ca cn cc) (.slice pa pn pc) 25
  have HO : Hid (∀ w', Below w.heap.size w w' → Calls Tryz.prog 7 #[.agg #[.int .i64 k, .int .i64 d, .int .i64 wd, .int .i64 hi, .slice ca cn cc, .slice pa pn pc]] w' fun e w'' => e = .returned (.bool ok) ∧ Below w'.heap.size w' w'') := hO
  have HS : Hid (∀ w' : World, Calls Tryz.prog 74 #[.int .i64 k, .int .i64 d] w' fun e w'' => e = .returned (.int .i64 (Tg.sort k d)) ∧ w'' = w') := fun w' => tgaSort_any k d w'
  clear hO
  generalize Tg.sort k d = srt at *
  have HA : Hid (Bx (w.alloc (.cells #[.int .i64 k, .int .i64 d, .int .i64 wd, .int .i64 hi, .slice ca cn cc, .slice pa pn pc] 25)) w.heap.size (.int .i64 k) (.int .i64 d) (.int .i64 wd) (.int .i64 hi) (.slice ca cn cc) (.slice pa pn pc)) := A0
  clear A0
  go_enter Tryz.func51, Tryz.ntmps51
  go_wp2_with fail
  refine (HO.out _ hB0).mono ?_
  rintro e w1 ⟨rfl, b1⟩
  have bel1 := hB0.trans (b1.mono hB0.size)
  obtain ⟨_, a0, a1, a2, a3, a4, a5⟩ := HA.out.kept b1
  clear b1 hB0 HA HO
  cases ok with
  | false =>
    go_wp2_with fail
    go_ret
    exact ⟨rfl, bel1⟩
  | true =>
    go_wp2_with fail
    refine (HS.out _).mono ?_
    rintro e w2 ⟨rfl, rfl⟩
    go_wp2_with fail
    go_ret
    exact ⟨by simp, bel1⟩

def Bm.hold (k d : Int) : Bool := decide (k = 2) || (decide (k = 4) && decide (d = 8))

set_option maxHeartbeats 1000000 in
theorem bmpHolds_any (k d wd hi : Int) (ca : Option Addr) (cn cc : Nat) (pa : Option Addr) (pn pc : Nat) (ok : Bool) (w : World)
    (hO : ∀ w', Below w.heap.size w w' → Calls Tryz.prog 7 #[.agg #[.int .i64 k, .int .i64 d, .int .i64 wd, .int .i64 hi, .slice ca cn cc, .slice pa pn pc]] w' fun e w'' => e = .returned (.bool ok) ∧ Below w'.heap.size w' w'') :
    Calls Tryz.prog 48 #[.agg #[.int .i64 k, .int .i64 d, .int .i64 wd, .int .i64 hi, .slice ca cn cc, .slice pa pn pc]] w fun e w' => e = .returned (.bool (ok && Bm.hold k d)) ∧ Below w.heap.size w w' := by
  have hB0 : Below w.heap.size w (w.alloc (.cells #[.int .i64 k, .int .i64 d, .int .i64 wd, .int .i64 hi, .slice ca cn cc, .slice pa pn pc] 25)) := (Below.refl _ _).alloc (Nat.le_refl _) _
  have HA : Hid (Bx (w.alloc (.cells #[.int .i64 k, .int .i64 d, .int .i64 wd, .int .i64 hi, .slice ca cn cc, .slice pa pn pc] 25)) w.heap.size (.int .i64 k) (.int .i64 d) (.int .i64 wd) (.int .i64 hi) (.slice ca cn cc) (.slice pa pn pc)) := bx_new w _ _ _ _ _ _ 25
  have HO : Hid (∀ w', Below w.heap.size w w' → Calls Tryz.prog 7 #[.agg #[.int .i64 k, .int .i64 d, .int .i64 wd, .int .i64 hi, .slice ca cn cc, .slice pa pn pc]] w' fun e w'' => e = .returned (.bool ok) ∧ Below w'.heap.size w' w'') := hO
  clear hO
  go_enter Tryz.func48, Tryz.ntmps48
  go_wp2_with fail
  refine (HO.out _ hB0).mono ?_
  rintro e w1 ⟨rfl, b1⟩
  have bel1 := hB0.trans (b1.mono hB0.size)
  obtain ⟨_, a0, a1, a2, a3, a4, a5⟩ := HA.out.kept b1
  clear b1 hB0 HA HO
  cases ok with
  | false =>
    go_wp2_with fail
    go_ret
    exact ⟨rfl, bel1⟩
  | true =>
    by_cases h2 : k = 2
    · have HE : Hid ((true && Bm.hold k d) = true) := by show _ = _; unfold Bm.hold; simp [h2]
      have h2b : (k == 2) = true := by simp [h2]
      have h2d : decide (k = 2) = true := by simp [h2]
      subst h2
      go_wp2_with fail
      go_ret
      exact ⟨by rw [HE.out]; rfl, bel1⟩
    · by_cases h4 : k = 4
      · by_cases h8 : d = 8
        · have HE : Hid ((true && Bm.hold k d) = true) := by show _ = _; unfold Bm.hold; simp [h4, h8]
          subst h4
          subst h8
          go_wp2_with fail
          go_ret
          exact ⟨by rw [HE.out]; rfl, bel1⟩
        · have HE : Hid ((true && Bm.hold k d) = false) := by show _ = _; unfold Bm.hold; simp [h4, h8]
          subst h4
          have h8b : (d == 8) = false := beq_eq_false_iff_ne.2 h8
          go_wp2_with fail
          go_ret
          exact ⟨by rw [HE.out]; rfl, bel1⟩
      · have h2b : (k == 2) = false := beq_eq_false_iff_ne.2 h2
        have h4b : (k == 4) = false := beq_eq_false_iff_ne.2 h4
        have HE : Hid ((true && Bm.hold k d) = false) := by show _ = _; unfold Bm.hold; simp [h4, h2]
        go_wp2_with fail
        go_ret
        exact ⟨by rw [HE.out]; rfl, bel1⟩

def Bm.rep (k d : Int) (runs : Bool) : Bool := (decide (k = 2) && !runs) || (decide (k = 4) && decide (d = 8))
set_option maxHeartbeats 1000000 in
theorem l11Rep_any (k d wd hi : Int) (ca : Option Addr) (cn cc : Nat) (pa : Option Addr) (pn pc : Nat) (runs : Bool) (w : World) :
    Calls Tryz.prog 16 #[.agg #[.int .i64 k, .int .i64 d, .int .i64 wd, .int .i64 hi, .slice ca cn cc, .slice pa pn pc], .bool runs] w fun e w' => e = .returned (.bool (Bm.rep k d runs)) ∧ Below w.heap.size w w' := by
  have hB0 : Below w.heap.size w (w.alloc (.cells #[.int .i64 k, .int .i64 d, .int .i64 wd, .int .i64 hi, .slice ca cn cc, .slice pa pn pc] 25)) := (Below.refl _ _).alloc (Nat.le_refl _) _
  obtain ⟨_, a0, a1, a2, a3, a4, a5⟩ := bx_new w (.int .i64 k) (.int .i64 d) (.int .i64 wd) (.int .i64 hi) (.slice ca cn cc) (.slice pa pn pc) 25
  by_cases h2 : k = 2
  · have h24 : ¬ k = 4 := by omega
    cases runs with
    | false =>
      have HE : Hid (Bm.rep k d false = true) := by show _ = _; unfold Bm.rep; simp [h2]
      subst h2
      go_enter Tryz.func16, Tryz.ntmps16
      go_wp2_with fail
      go_ret
      exact ⟨by rw [HE.out]; rfl, hB0⟩
    | true =>
      have HE : Hid (Bm.rep k d true = false) := by show _ = _; unfold Bm.rep; simp [h24]
      subst h2
      go_enter Tryz.func16, Tryz.ntmps16
      go_wp2_with fail
      go_ret
      exact ⟨by rw [HE.out]; rfl, hB0⟩
  · have h2b : (k == 2) = false := beq_eq_false_iff_ne.2 h2
    by_cases h4 : k = 4
    · by_cases h8 : d = 8
      · have HE : Hid (Bm.rep k d runs = true) := by show _ = _; unfold Bm.rep; simp [h4, h8]
        subst h4
        subst h8
        go_enter Tryz.func16, Tryz.ntmps16
        go_wp2_with fail
        go_ret
        exact ⟨by rw [HE.out]; rfl, hB0⟩
      · have HE : Hid (Bm.rep k d runs = false) := by show _ = _; unfold Bm.rep; simp [h4, h8]
        have h8b : (d == 8) = false := beq_eq_false_iff_ne.2 h8
        subst h4
        go_enter Tryz.func16, Tryz.ntmps16
        go_wp2_with fail
        go_ret
        exact ⟨by rw [HE.out]; rfl, hB0⟩
    · have HE : Hid (Bm.rep k d runs = false) := by show _ = _; unfold Bm.rep; simp [h4, h2]
      have h4b : (k == 4) = false := beq_eq_false_iff_ne.2 h4
      go_enter Tryz.func16, Tryz.ntmps16
      go_wp2_with fail
      go_ret
      exact ⟨by rw [HE.out]; rfl, hB0⟩

def Pn.sort (k d : Int) : Int := if k = 1 then (if d = 1 then 1 else 2) else if k = 2 then 3 else 0
set_option maxHeartbeats 1000000 in
theorem pnmSort_any (k d : Int) (w : World) : Calls Tryz.prog 77 #[.int .i64 k, .int .i64 d] w fun e w' => e = .returned (.int .i64 (Pn.sort k d)) ∧ w' = w := by
  by_cases h1 : k = 1
  · subst h1
    by_cases hd : d = 1
    · subst hd
      have HV : Hid (Pn.sort 1 1 = 1) := rfl
      go_enter Tryz.func77, Tryz.ntmps77
      go_wp2_with fail
      go_ret
      exact ⟨ret_int (by rw [HV.out]), rfl⟩
    · have f1 : (d == 1) = false := by rw [beq_eq_false_iff_ne]; exact hd
      have f2 : decide (d = 1) = false := by simpa using hd
      have HV : Hid (Pn.sort 1 d = 2) := by show _ = _; unfold Pn.sort; simp [hd]
      go_enter Tryz.func77, Tryz.ntmps77
      go_wp2_with fail
      go_ret
      exact ⟨ret_int (by rw [HV.out]), rfl⟩
  · by_cases h2 : k = 2
    · subst h2
      have HV : Hid (Pn.sort 2 d = 3) := by show _ = _; unfold Pn.sort; simp
      go_enter Tryz.func77, Tryz.ntmps77
      go_wp2_with fail
      go_ret
      exact ⟨ret_int (by rw [HV.out]), rfl⟩
    · have g1 : (k == 1) = false := by rw [beq_eq_false_iff_ne]; exact h1
      have g2 : (k == 2) = false := by rw [beq_eq_false_iff_ne]; exact h2
      have HV : Hid (Pn.sort k d = 0) := by show _ = _; unfold Pn.sort; simp [h1, h2]
      go_enter Tryz.func77, Tryz.ntmps77
      go_wp2_with fail
      go_ret
      exact ⟨ret_int (by rw [HV.out]), rfl⟩
set_option maxHeartbeats 1000000 in
theorem pnmHolds_any (k d wd hi : Int) (ca : Option Addr) (cn cc : Nat) (pa : Option Addr) (pn pc : Nat) (ok : Bool) (w : World)
    (hO : ∀ w', Below w.heap.size w w' → Calls Tryz.prog 7 #[.agg #[.int .i64 k, .int .i64 d, .int .i64 wd, .int .i64 hi, .slice ca cn cc, .slice pa pn pc]] w' fun e w'' => e = .returned (.bool ok) ∧ Below w'.heap.size w' w'') :
    Calls Tryz.prog 54 #[.agg #[.int .i64 k, .int .i64 d, .int .i64 wd, .int .i64 hi, .slice ca cn cc, .slice pa pn pc]] w fun e w' => e = .returned (.bool (ok && (Pn.sort k d != 0))) ∧ Below w.heap.size w w' := by
  have hB0 : Below w.heap.size w (w.alloc (.cells #[.int .i64 k, .int .i64 d, .int .i64 wd, .int .i64 hi, .slice ca cn cc, .slice pa pn pc] 25)) := (Below.refl _ _).alloc (Nat.le_refl _) _
  have A0 := bx_new w (.int .i64 k) (.int .i64 d) (.int .i64 wd) (.int .i64 hi) (.slice ca cn cc) (.slice pa pn pc) 25
  have HO : Hid (∀ w', Below w.heap.size w w' → Calls Tryz.prog 7 #[.agg #[.int .i64 k, .int .i64 d, .int .i64 wd, .int .i64 hi, .slice ca cn cc, .slice pa pn pc]] w' fun e w'' => e = .returned (.bool ok) ∧ Below w'.heap.size w' w'') := hO
  have HS : Hid (∀ w' : World, Calls Tryz.prog 77 #[.int .i64 k, .int .i64 d] w' fun e w'' => e = .returned (.int .i64 (Pn.sort k d)) ∧ w'' = w') := fun w' => pnmSort_any k d w'
  clear hO
  generalize Pn.sort k d = srt at *
  have HA : Hid (Bx (w.alloc (.cells #[.int .i64 k, .int .i64 d, .int .i64 wd, .int .i64 hi, .slice ca cn cc, .slice pa pn pc] 25)) w.heap.size (.int .i64 k) (.int .i64 d) (.int .i64 wd) (.int .i64 hi) (.slice ca cn cc) (.slice pa pn pc)) := A0
  clear A0
  go_enter Tryz.func54, Tryz.ntmps54
  go_wp2_with fail
  refine (HO.out _ hB0).mono ?_
  rintro e w1 ⟨rfl, b1⟩
  have bel1 := hB0.trans (b1.mono hB0.size)
  obtain ⟨_, a0, a1, a2, a3, a4, a5⟩ := HA.out.kept b1
  clear b1 hB0 HA HO
  cases ok with
  | false =>
    go_wp2_with fail
    go_ret
    exact ⟨rfl, bel1⟩
  | true =>
    go_wp2_with fail
    refine (HS.out _).mono ?_
    rintro e w2 ⟨rfl, rfl⟩
    go_wp2_with fail
    go_ret
    exact ⟨by simp, bel1⟩

def Pn.rep (k : Int) : Bool := decide (k = 1) || decide (k = 2)
set_option maxHeartbeats 1000000 in
theorem l12Rep_any (k d wd hi : Int) (ca : Option Addr) (cn cc : Nat) (pa : Option Addr) (pn pc : Nat) (w : World) :
    Calls Tryz.prog 18 #[.agg #[.int .i64 k, .int .i64 d, .int .i64 wd, .int .i64 hi, .slice ca cn cc, .slice pa pn pc]] w fun e w' => e = .returned (.bool (Pn.rep k)) ∧ Below w.heap.size w w' := by
  have hB0 : Below w.heap.size w (w.alloc (.cells #[.int .i64 k, .int .i64 d, .int .i64 wd, .int .i64 hi, .slice ca cn cc, .slice pa pn pc] 25)) := (Below.refl _ _).alloc (Nat.le_refl _) _
  obtain ⟨_, a0, a1, a2, a3, a4, a5⟩ := bx_new w (.int .i64 k) (.int .i64 d) (.int .i64 wd) (.int .i64 hi) (.slice ca cn cc) (.slice pa pn pc) 25
  by_cases h1 : k = 1
  · have HE : Hid (Pn.rep k = true) := by show _ = _; unfold Pn.rep; simp [h1]
    subst h1
    go_enter Tryz.func18, Tryz.ntmps18
    go_wp2_with fail
    go_ret
    exact ⟨by rw [HE.out]; rfl, hB0⟩
  · have g1 : (k == 1) = false := by rw [beq_eq_false_iff_ne]; exact h1
    by_cases h2 : k = 2
    · have HE : Hid (Pn.rep k = true) := by show _ = _; unfold Pn.rep; simp [h2]
      subst h2
      go_enter Tryz.func18, Tryz.ntmps18
      go_wp2_with fail
      go_ret
      exact ⟨by rw [HE.out]; rfl, hB0⟩
    · have HE : Hid (Pn.rep k = false) := by show _ = _; unfold Pn.rep; simp [h1, h2]
      have g2 : (k == 2) = false := by rw [beq_eq_false_iff_ne]; exact h2
      go_enter Tryz.func18, Tryz.ntmps18
      go_wp2_with fail
      go_ret
      exact ⟨by rw [HE.out]; rfl, hB0⟩
end Go.Proofs.YteldjmocbbbinaaGreatDoor

/- All formats, as the program lists them; each with how it begins. -/
namespace Go.Proofs.YteldjmocbbbinaaGreatDoor
open Go.RowKit

/-- texts in a row -/
def Strs (w : World) (a : Option Addr) (l : List ByteArray) : Prop :=
  l = [] ∨ ∃ b off, a = some ⟨b, off, none⟩ ∧ b < w.heap.size ∧ ∀ i (h : i < l.length), w.cell? ⟨b, off + i, none⟩ = some (.string l[i])
theorem Strs.below {w w' : World} {a : Option Addr} {l : List ByteArray} (h : Strs w a l) (hb : Below w.heap.size w w') : Strs w' a l := by
  rcases h with h | ⟨b, off, rfl, hbB, hc⟩
  · exact .inl h
  · exact .inr ⟨b, off, rfl, Nat.lt_of_lt_of_le hbB hb.size, fun i hi => (hb.cell (p := ⟨b, off + i, none⟩) hbB).trans (hc i hi)⟩
/-- a list of texts in a box -/
def Signs (w : World) (b : Nat) (l : List ByteArray) : Prop := b < w.heap.size ∧ ∃ (a : Option Addr) (c : Nat), w.cell? ⟨b, 0, none⟩ = some (.slice a l.length c) ∧ Strs w a l
theorem Signs.below {w w' : World} {b : Nat} {l : List ByteArray} (h : Signs w b l) (hb : Below w.heap.size w w') : Signs w' b l := by
  obtain ⟨h1, a, c, h2, h3⟩ := h
  exact ⟨Nat.lt_of_lt_of_le h1 hb.size, a, c, (hb.cell (p := ⟨b, 0, none⟩) h1).trans h2, h3.below hb⟩
theorem strs_new (w : World) (l : List ByteArray) : Strs (w.alloc (.cells (l.map Value.string).toArray 9)) (some ⟨w.heap.size, 0, none⟩) l := by
  refine .inr ⟨w.heap.size, 0, rfl, by simp, fun i hi => ?_⟩
  rw [Nat.zero_add, World.cell?_alloc_at _ _ _ _ rfl]
  simp [hi]
theorem signs_box (w : World) (a : Option Addr) (c : Nat) (l : List ByteArray) (h : Strs w a l) : Signs (w.alloc (.cells #[.slice a l.length c] 80)) w.heap.size l :=
  ⟨by simp, a, c, by rw [World.cell?_alloc_at _ _ _ _ rfl]; rfl, h.below ((Below.refl _ _).alloc (Nat.le_refl _) _)⟩
def fmtSigns (h : Nat) : List ByteArray :=
  if h = 0 then [⟨#[137, 80, 78, 71, 13, 10, 26, 10]⟩]
  else if h = 1 then [⟨#[71, 73, 70, 56, 55, 97]⟩, ⟨#[71, 73, 70, 56, 57, 97]⟩]
  else if h = 2 then [⟨#[66, 77]⟩]
  else if h = 3 then []
  else [⟨#[80, 49]⟩, ⟨#[80, 50]⟩, ⟨#[80, 51]⟩, ⟨#[80, 52]⟩, ⟨#[80, 53]⟩, ⟨#[80, 54]⟩]
def fmtWays (h : Nat) : Int := if h = 0 then 30 else 2
def fmtHolds (h : Nat) : FuncId := if h = 0 then 7 else if h = 1 then 45 else if h = 2 then 48 else if h = 3 then 51 else 54
def fmtPut (h : Nat) : FuncId := if h = 0 then 43 else if h = 1 then 46 else if h = 2 then 49 else if h = 3 then 52 else 55
def fmtGet (h : Nat) : FuncId := if h = 0 then 44 else if h = 1 then 47 else if h = 2 then 50 else if h = 3 then 53 else 56
/-- the list of formats, in a row -/
def FmtRow (w : World) (b : Nat) : Prop := b < w.heap.size ∧ ∀ h, h < 5 → ∃ (nm : ByteArray) (bx : Nat),
  w.cell? ⟨b, h * 7, none⟩ = some (.int .i64 ((h : Int) + 1)) ∧ w.cell? ⟨b, h * 7 + 1, none⟩ = some (.string nm) ∧ w.cell? ⟨b, h * 7 + 2, none⟩ = some (.int .i64 (fmtWays h)) ∧
  w.cell? ⟨b, h * 7 + 3, none⟩ = some (.func (.func 62) #[] #[.pointer (some ⟨bx, 0, none⟩)]) ∧ w.cell? ⟨b, h * 7 + 4, none⟩ = some (.func (.func (fmtHolds h)) #[] #[]) ∧
  w.cell? ⟨b, h * 7 + 5, none⟩ = some (.func (.func (fmtPut h)) #[] #[]) ∧ w.cell? ⟨b, h * 7 + 6, none⟩ = some (.func (.func (fmtGet h)) #[] #[]) ∧ Signs w bx (fmtSigns h)
theorem FmtRow.below {w w' : World} {b : Nat} (h : FmtRow w b) (hb : Below w.heap.size w w') : FmtRow w' b := by
  obtain ⟨h1, h2⟩ := h
  refine ⟨Nat.lt_of_lt_of_le h1 hb.size, fun i hi => ?_⟩
  obtain ⟨nm, bx, c0, c1, c2, c3, c4, c5, c6, s⟩ := h2 i hi
  have hc : ∀ o, w'.cell? ⟨b, o, none⟩ = w.cell? ⟨b, o, none⟩ := fun o => hb.cell (p := ⟨b, o, none⟩) h1
  exact ⟨nm, bx, (hc _).trans c0, (hc _).trans c1, (hc _).trans c2, (hc _).trans c3, (hc _).trans c4, (hc _).trans c5, (hc _).trans c6, s.below hb⟩
set_option maxHeartbeats 1000000 in
theorem beginsWith_any (a : Option Addr) (n c : Nat) (w : World) : Calls Tryz.prog 42 #[.slice a n c] w fun e w' => e = .returned (.func (.func 62) #[] #[.pointer (some ⟨w.heap.size, 0, none⟩)]) ∧ w' = w.alloc (.cells #[.slice a n c] 80) := by
  go_enter Tryz.func42, Tryz.ntmps42
  go_wp2_with fail
  go_ret
  exact ⟨rfl, rfl⟩
set_option linter.unusedVariables false in
set_option linter.unusedVariables false in
set_option maxHeartbeats 4000000 in
set_option maxRecDepth 20000 in
theorem formats_any (w : World) : Calls Tryz.prog 32 #[] w fun e w' => (∃ b, e = .returned (.slice (some ⟨b, 0, none⟩) 5 5) ∧ FmtRow w' b) ∧ Below w.heap.size w w' := by
  have HBW : Hid (∀ a n c w, Calls Tryz.prog 42 #[.slice a n c] w fun e w' => e = .returned (.func (.func 62) #[] #[.pointer (some ⟨w.heap.size, 0, none⟩)]) ∧ w' = w.alloc (.cells #[.slice a n c] 80)) := beginsWith_any
  obtain ⟨a0, ha0⟩ : ∃ a, a = w.alloc (.cells ((fmtSigns 0).map Value.string).toArray 9) := ⟨_, rfl⟩
  have HA0 : Hid (Strs a0 (some ⟨w.heap.size, 0, none⟩) (fmtSigns 0) ∧ Below w.heap.size w a0) := by rw [ha0]; exact ⟨strs_new _ _, (Below.refl _ _).alloc (Nat.le_refl _) _⟩
  rw [show ((fmtSigns 0).map Value.string).toArray = #[.string ⟨#[137, 80, 78, 71, 13, 10, 26, 10]⟩] from rfl] at ha0
  go_enter Tryz.func32, Tryz.ntmps32
  go_wp2_with fail
  rw [← ha0]
  clear ha0
  refine (HBW.out _ _ _ _).mono ?_
  rintro e w1 ⟨rfl, hw1⟩
  obtain ⟨x0, hx0⟩ : ∃ x, x = a0.heap.size := ⟨_, rfl⟩
  have b1 : Below a0.heap.size a0 w1 := by rw [hw1]; exact (Below.refl _ _).alloc (Nat.le_refl _) _
  have s0 : Signs w1 x0 (fmtSigns 0) := by rw [hw1, hx0]; exact signs_box a0 (some ⟨w.heap.size, 0, none⟩) 1 (fmtSigns 0) HA0.out.1
  have HS1 : Hid (Below w.heap.size w w1 ∧ Signs w1 x0 (fmtSigns 0)) := ⟨(HA0.out.2.trans (b1.mono HA0.out.2.size)), s0⟩
  rw [← hx0]
  clear hw1 hx0 b1 s0 HA0
  obtain ⟨a1, ha1⟩ : ∃ a, a = w1.alloc (.cells ((fmtSigns 1).map Value.string).toArray 9) := ⟨_, rfl⟩
  have HA1 : Hid (Strs a1 (some ⟨w1.heap.size, 0, none⟩) (fmtSigns 1) ∧ Below w1.heap.size w1 a1) := by rw [ha1]; exact ⟨strs_new _ _, (Below.refl _ _).alloc (Nat.le_refl _) _⟩
  rw [show ((fmtSigns 1).map Value.string).toArray = #[.string ⟨#[71, 73, 70, 56, 55, 97]⟩, .string ⟨#[71, 73, 70, 56, 57, 97]⟩] from rfl] at ha1
  go_wp2_with fail
  rw [← ha1]
  clear ha1
  refine (HBW.out _ _ _ _).mono ?_
  rintro e w2 ⟨rfl, hw2⟩
  obtain ⟨x1, hx1⟩ : ∃ x, x = a1.heap.size := ⟨_, rfl⟩
  have b2 : Below a1.heap.size a1 w2 := by rw [hw2]; exact (Below.refl _ _).alloc (Nat.le_refl _) _
  have s1 : Signs w2 x1 (fmtSigns 1) := by rw [hw2, hx1]; exact signs_box a1 (some ⟨w1.heap.size, 0, none⟩) 2 (fmtSigns 1) HA1.out.1
  have bb2 : Below w1.heap.size w1 w2 := (HA1.out.2.trans (b2.mono HA1.out.2.size))
  have HS2 : Hid (Below w.heap.size w w2 ∧ Signs w2 x0 (fmtSigns 0) ∧ Signs w2 x1 (fmtSigns 1)) := ⟨HS1.out.1.trans (bb2.mono HS1.out.1.size), (HS1.out.2).below bb2, s1⟩
  clear bb2 HS1
  rw [← hx1]
  clear hw2 hx1 b2 s1 HA1
  obtain ⟨a2, ha2⟩ : ∃ a, a = w2.alloc (.cells ((fmtSigns 2).map Value.string).toArray 9) := ⟨_, rfl⟩
  have HA2 : Hid (Strs a2 (some ⟨w2.heap.size, 0, none⟩) (fmtSigns 2) ∧ Below w2.heap.size w2 a2) := by rw [ha2]; exact ⟨strs_new _ _, (Below.refl _ _).alloc (Nat.le_refl _) _⟩
  rw [show ((fmtSigns 2).map Value.string).toArray = #[.string ⟨#[66, 77]⟩] from rfl] at ha2
  go_wp2_with fail
  rw [← ha2]
  clear ha2
  refine (HBW.out _ _ _ _).mono ?_
  rintro e w3 ⟨rfl, hw3⟩
  obtain ⟨x2, hx2⟩ : ∃ x, x = a2.heap.size := ⟨_, rfl⟩
  have b3 : Below a2.heap.size a2 w3 := by rw [hw3]; exact (Below.refl _ _).alloc (Nat.le_refl _) _
  have s2 : Signs w3 x2 (fmtSigns 2) := by rw [hw3, hx2]; exact signs_box a2 (some ⟨w2.heap.size, 0, none⟩) 1 (fmtSigns 2) HA2.out.1
  have bb3 : Below w2.heap.size w2 w3 := (HA2.out.2.trans (b3.mono HA2.out.2.size))
  have HS3 : Hid (Below w.heap.size w w3 ∧ Signs w3 x0 (fmtSigns 0) ∧ Signs w3 x1 (fmtSigns 1) ∧ Signs w3 x2 (fmtSigns 2)) := ⟨HS2.out.1.trans (bb3.mono HS2.out.1.size), (HS2.out.2.1).below bb3, (HS2.out.2.2).below bb3, s2⟩
  clear bb3 HS2
  rw [← hx2]
  clear hw3 hx2 b3 s2 HA2
  go_wp2_with fail
  refine (HBW.out _ _ _ _).mono ?_
  rintro e w4 ⟨rfl, hw4⟩
  obtain ⟨x3, hx3⟩ : ∃ x, x = w3.heap.size := ⟨_, rfl⟩
  have b4 : Below w3.heap.size w3 w4 := by rw [hw4]; exact (Below.refl _ _).alloc (Nat.le_refl _) _
  have s3 : Signs w4 x3 (fmtSigns 3) := by rw [hw4, hx3]; exact signs_box w3 none 0 (fmtSigns 3) (.inl rfl)
  have bb4 : Below w3.heap.size w3 w4 := b4
  have HS4 : Hid (Below w.heap.size w w4 ∧ Signs w4 x0 (fmtSigns 0) ∧ Signs w4 x1 (fmtSigns 1) ∧ Signs w4 x2 (fmtSigns 2) ∧ Signs w4 x3 (fmtSigns 3)) := ⟨HS3.out.1.trans (bb4.mono HS3.out.1.size), (HS3.out.2.1).below bb4, (HS3.out.2.2.1).below bb4, (HS3.out.2.2.2).below bb4, s3⟩
  clear bb4 HS3
  rw [← hx3]
  clear hw4 hx3 b4 s3
  obtain ⟨a4, ha4⟩ : ∃ a, a = w4.alloc (.cells ((fmtSigns 4).map Value.string).toArray 9) := ⟨_, rfl⟩
  have HA4 : Hid (Strs a4 (some ⟨w4.heap.size, 0, none⟩) (fmtSigns 4) ∧ Below w4.heap.size w4 a4) := by rw [ha4]; exact ⟨strs_new _ _, (Below.refl _ _).alloc (Nat.le_refl _) _⟩
  rw [show ((fmtSigns 4).map Value.string).toArray = #[.string ⟨#[80, 49]⟩, .string ⟨#[80, 50]⟩, .string ⟨#[80, 51]⟩, .string ⟨#[80, 52]⟩, .string ⟨#[80, 53]⟩, .string ⟨#[80, 54]⟩] from rfl] at ha4
  go_wp2_with fail
  rw [← ha4]
  clear ha4
  refine (HBW.out _ _ _ _).mono ?_
  rintro e w5 ⟨rfl, hw5⟩
  obtain ⟨x4, hx4⟩ : ∃ x, x = a4.heap.size := ⟨_, rfl⟩
  have b5 : Below a4.heap.size a4 w5 := by rw [hw5]; exact (Below.refl _ _).alloc (Nat.le_refl _) _
  have s4 : Signs w5 x4 (fmtSigns 4) := by rw [hw5, hx4]; exact signs_box a4 (some ⟨w4.heap.size, 0, none⟩) 6 (fmtSigns 4) HA4.out.1
  have bb5 : Below w4.heap.size w4 w5 := (HA4.out.2.trans (b5.mono HA4.out.2.size))
  have HS5 : Hid (Below w.heap.size w w5 ∧ Signs w5 x0 (fmtSigns 0) ∧ Signs w5 x1 (fmtSigns 1) ∧ Signs w5 x2 (fmtSigns 2) ∧ Signs w5 x3 (fmtSigns 3) ∧ Signs w5 x4 (fmtSigns 4)) := ⟨HS4.out.1.trans (bb5.mono HS4.out.1.size), (HS4.out.2.1).below bb5, (HS4.out.2.2.1).below bb5, (HS4.out.2.2.2.1).below bb5, (HS4.out.2.2.2.2).below bb5, s4⟩
  clear bb5 HS4
  rw [← hx4]
  clear hw5 hx4 b5 s4 HA4
  obtain ⟨w6, hw6⟩ : ∃ a, a = w5.alloc (.cells #[.int .i64 1, .string ⟨#[112, 110, 103]⟩, .int .i64 30, .func (.func 62) #[] #[.pointer (some ⟨x0, 0, none⟩)], .func (.func 7) #[] #[], .func (.func 43) #[] #[], .func (.func 44) #[] #[], .int .i64 2, .string ⟨#[103, 105, 102]⟩, .int .i64 2, .func (.func 62) #[] #[.pointer (some ⟨x1, 0, none⟩)], .func (.func 45) #[] #[], .func (.func 46) #[] #[], .func (.func 47) #[] #[], .int .i64 3, .string ⟨#[98, 109, 112]⟩, .int .i64 2, .func (.func 62) #[] #[.pointer (some ⟨x2, 0, none⟩)], .func (.func 48) #[] #[], .func (.func 49) #[] #[], .func (.func 50) #[] #[], .int .i64 4, .string ⟨#[116, 103, 97]⟩, .int .i64 2, .func (.func 62) #[] #[.pointer (some ⟨x3, 0, none⟩)], .func (.func 51) #[] #[], .func (.func 52) #[] #[], .func (.func 53) #[] #[], .int .i64 5, .string ⟨#[112, 110, 109]⟩, .int .i64 2, .func (.func 62) #[] #[.pointer (some ⟨x4, 0, none⟩)], .func (.func 54) #[] #[], .func (.func 55) #[] #[], .func (.func 56) #[] #[]] 41) := ⟨_, rfl⟩
  have b6 : Below w5.heap.size w5 w6 := by rw [hw6]; exact (Below.refl _ _).alloc (Nat.le_refl _) _
  have hg : w6.heap[w5.heap.size]? = some (.cells #[.int .i64 1, .string ⟨#[112, 110, 103]⟩, .int .i64 30, .func (.func 62) #[] #[.pointer (some ⟨x0, 0, none⟩)], .func (.func 7) #[] #[], .func (.func 43) #[] #[], .func (.func 44) #[] #[], .int .i64 2, .string ⟨#[103, 105, 102]⟩, .int .i64 2, .func (.func 62) #[] #[.pointer (some ⟨x1, 0, none⟩)], .func (.func 45) #[] #[], .func (.func 46) #[] #[], .func (.func 47) #[] #[], .int .i64 3, .string ⟨#[98, 109, 112]⟩, .int .i64 2, .func (.func 62) #[] #[.pointer (some ⟨x2, 0, none⟩)], .func (.func 48) #[] #[], .func (.func 49) #[] #[], .func (.func 50) #[] #[], .int .i64 4, .string ⟨#[116, 103, 97]⟩, .int .i64 2, .func (.func 62) #[] #[.pointer (some ⟨x3, 0, none⟩)], .func (.func 51) #[] #[], .func (.func 52) #[] #[], .func (.func 53) #[] #[], .int .i64 5, .string ⟨#[112, 110, 109]⟩, .int .i64 2, .func (.func 62) #[] #[.pointer (some ⟨x4, 0, none⟩)], .func (.func 54) #[] #[], .func (.func 55) #[] #[], .func (.func 56) #[] #[]] 41 (0, 0)) := by rw [hw6]; exact heap_alloc_new _ _
  have hc : ∀ o, w6.cell? ⟨w5.heap.size, o, none⟩ = (#[.int .i64 1, .string ⟨#[112, 110, 103]⟩, .int .i64 30, .func (.func 62) #[] #[.pointer (some ⟨x0, 0, none⟩)], .func (.func 7) #[] #[], .func (.func 43) #[] #[], .func (.func 44) #[] #[], .int .i64 2, .string ⟨#[103, 105, 102]⟩, .int .i64 2, .func (.func 62) #[] #[.pointer (some ⟨x1, 0, none⟩)], .func (.func 45) #[] #[], .func (.func 46) #[] #[], .func (.func 47) #[] #[], .int .i64 3, .string ⟨#[98, 109, 112]⟩, .int .i64 2, .func (.func 62) #[] #[.pointer (some ⟨x2, 0, none⟩)], .func (.func 48) #[] #[], .func (.func 49) #[] #[], .func (.func 50) #[] #[], .int .i64 4, .string ⟨#[116, 103, 97]⟩, .int .i64 2, .func (.func 62) #[] #[.pointer (some ⟨x3, 0, none⟩)], .func (.func 51) #[] #[], .func (.func 52) #[] #[], .func (.func 53) #[] #[], .int .i64 5, .string ⟨#[112, 110, 109]⟩, .int .i64 2, .func (.func 62) #[] #[.pointer (some ⟨x4, 0, none⟩)], .func (.func 54) #[] #[], .func (.func 55) #[] #[], .func (.func 56) #[] #[]] : Array Value)[o]? := fun o => by simp only [World.cell?, hg]; rfl
  have HE : Hid (FmtRow w6 w5.heap.size ∧ Below w.heap.size w w6) := by
    refine ⟨⟨(Array.getElem?_eq_some_iff.1 hg).1, fun h hh => ?_⟩, HS5.out.1.trans (b6.mono HS5.out.1.size)⟩
    rcases (by omega : h = 0 ∨ h = 1 ∨ h = 2 ∨ h = 3 ∨ h = 4) with rfl | rfl | rfl | rfl | rfl
    · exact ⟨_, x0, hc _, hc _, hc _, hc _, hc _, hc _, hc _, (HS5.out.2.1).below b6⟩
    · exact ⟨_, x1, hc _, hc _, hc _, hc _, hc _, hc _, hc _, (HS5.out.2.2.1).below b6⟩
    · exact ⟨_, x2, hc _, hc _, hc _, hc _, hc _, hc _, hc _, (HS5.out.2.2.2.1).below b6⟩
    · exact ⟨_, x3, hc _, hc _, hc _, hc _, hc _, hc _, hc _, (HS5.out.2.2.2.2.1).below b6⟩
    · exact ⟨_, x4, hc _, hc _, hc _, hc _, hc _, hc _, hc _, (HS5.out.2.2.2.2.2).below b6⟩
  clear b6 hg hc HS5
  go_wp2_with fail
  rw [← hw6]
  clear hw6
  go_ret
  exact ⟨⟨_, rfl, HE.out.1⟩, HE.out.2⟩
end Go.Proofs.YteldjmocbbbinaaGreatDoor

/- A format by its number, as the program finds it. -/
namespace Go.Proofs.YteldjmocbbbinaaGreatDoor
open Go.RowKit

def cmpI (x y : Int) : Int := if x < y then -1 else if y < x then 1 else 0
set_option maxHeartbeats 1000000 in
theorem compare_any (x y : Int) (w : World) : Calls Tryz.prog 35 #[.int .i64 x, .int .i64 y] w fun e w' => e = .returned (.int .i64 (cmpI x y)) ∧ w' = w := by
  by_cases h1 : x < y
  · have HE : Hid (cmpI x y = -1) := by show _ = _; unfold cmpI; rw [if_pos h1]
    go_enter Tryz.func35, Tryz.ntmps35
    go_wp2
    go_ret
    exact ⟨by rw [HE.out]; rfl, rfl⟩
  · by_cases h2 : y < x
    · have HE : Hid (cmpI x y = 1) := by show _ = _; unfold cmpI; rw [if_neg h1, if_pos h2]
      go_enter Tryz.func35, Tryz.ntmps35
      go_wp2
      go_ret
      exact ⟨by rw [HE.out]; rfl, rfl⟩
    · have HE : Hid (cmpI x y = 0) := by show _ = _; unfold cmpI; rw [if_neg h1, if_neg h2]
      go_enter Tryz.func35, Tryz.ntmps35
      go_wp2
      go_ret
      exact ⟨by rw [HE.out]; rfl, rfl⟩
set_option maxHeartbeats 1000000 in
theorem formatCmp_any (v0 n : Int) (v1 v2 v3 v4 v5 v6 : Value) (w : World) : Calls Tryz.prog 34 #[.agg #[.int .i64 v0, v1, v2, v3, v4, v5, v6], .int .i64 n] w fun e w' => e = .returned (.int .i64 (cmpI v0 n)) ∧ Below w.heap.size w w' := by
  have HC : Hid (∀ w, Calls Tryz.prog 35 #[.int .i64 v0, .int .i64 n] w fun e w' => e = .returned (.int .i64 (cmpI v0 n)) ∧ w' = w) := compare_any v0 n
  go_enter Tryz.func34, Tryz.ntmps34
  go_wp2_with fail
  refine (HC.out _).mono ?_
  rintro e w1 ⟨rfl, hw1⟩
  subst hw1
  go_wp2_with fail
  go_ret
  exact ⟨rfl, (Below.refl _ _).alloc (Nat.le_refl _) _⟩
/-- where a format stands, and whether there is one -/
def fmtAt (n : Int) : Nat := if n ≤ 1 then 0 else if n ≤ 5 then n.toNat - 1 else 5
def SrEnd (n : Int) (w : World) (e : Ending) (w' : World) : Prop := (∃ (p : Nat) (ok : Bool), e = .returned (.tuple #[.int .i64 (p : Int), .bool ok]) ∧ p = fmtAt n ∧ (ok = true ↔ 1 ≤ n ∧ n ≤ 5)) ∧ Below w.heap.size w w'
set_option maxHeartbeats 4000000 in
set_option maxRecDepth 20000 in
theorem search_any (b : Nat) (n : Int) (w : World) (h : FmtRow w b) : Calls Tryz.prog 33 #[.slice (some ⟨b, 0, none⟩) 5 5, .int .i64 n, .func (.func 34) #[] #[]] w (SrEnd n w) := by
  have HF : Hid (FmtRow w b) := h
  clear h
  go_enter Tryz.func33, Tryz.ntmps33
  go_wp2_with fail
  go_loopw [9, 10] (fun i j wr => ∃ p q : Nat, p ≤ q ∧ q ≤ 5 ∧ i = .int .i64 (p : Int) ∧ j = .int .i64 (q : Int) ∧ (p = 0 ∨ (p : Int) < n) ∧ (q = 5 ∨ n ≤ (q : Int) + 1) ∧ Hid (Below w.heap.size w wr)) (fun i j _ => ((intOf j) - (intOf i)).toNat)
  case atStart => exact ⟨0, 5, by omega, by omega, rfl, rfl, .inl rfl, .inl rfl, Below.refl _ _⟩
  case round =>
    obtain ⟨p, q, hpq, hq5, rfl, rfl, hp, hq, HB⟩ := hrel
    by_cases hlt : p < q
    · have hli : (p : Int) < (q : Int) := by omega
      obtain ⟨m, hm⟩ : ∃ m, m = (p + q) / 2 := ⟨_, rfl⟩
      have hm5 : m < 5 := by omega
      obtain ⟨nm, bx, c0, c1, c2, c3, c4, c5, c6, _⟩ := (HF.out.below HB.out).2 m hm5
      have e1 : ((p : Int) + (q : Int)) / 2 = (m : Int) := by omega
      have hmi : (m : Int) < 5 := by omega
      have hmp : p ≤ m := by omega
      have hmq : m < q := by omega
      have HB2 : Hid (∀ w', Below wr.heap.size wr w' → Below w.heap.size w w') := fun w' k => HB.out.trans (k.mono HB.out.size)
      have HCM : Hid (Calls Tryz.prog 34 #[.agg #[.int .i64 ((m : Int) + 1), .string nm, .int .i64 (fmtWays m), .func (.func 62) #[] #[.pointer (some ⟨bx, 0, none⟩)], .func (.func (fmtHolds m)) #[] #[], .func (.func (fmtPut m)) #[] #[], .func (.func (fmtGet m)) #[] #[]], .int .i64 n] wr fun e w' => e = .returned (.int .i64 (cmpI ((m : Int) + 1) n)) ∧ Below wr.heap.size wr w') := formatCmp_any _ n _ _ _ _ _ _ wr
      clear hm
      by_cases hc : (m : Int) + 1 < n
      · have e2 : cmpI ((m : Int) + 1) n = -1 := by unfold cmpI; rw [if_pos hc]
        rw [e2] at HCM
        have HM : Hid ((m : Int) + 1 < n) := hc
        clear e2 hc
        go_wp2_with fail
        refine HCM.out.mono ?_
        rintro e w1 ⟨rfl, b1⟩
        have HB1 : Hid (Below w.heap.size w w1) := HB2.out _ b1
        clear b1 HCM
        go_wp2_with fail
        go_roundw
        case rel => exact ⟨m + 1, q, by omega, hq5, by go_num, rfl, .inr (by have := HM.out; omega), hq, HB1⟩
        case measure => simp [intOf]; omega
      · obtain ⟨c, hcv⟩ : ∃ c, c = cmpI ((m : Int) + 1) n := ⟨_, rfl⟩
        have hc0 : ¬ c < 0 := by rw [hcv]; unfold cmpI; rw [if_neg hc]; split <;> omega
        rw [← hcv] at HCM
        have HM : Hid (n ≤ (m : Int) + 1) := by show _ ≤ _; omega
        clear hc hcv
        go_wp2_with fail
        refine HCM.out.mono ?_
        rintro e w1 ⟨rfl, b1⟩
        have HB1 : Hid (Below w.heap.size w w1) := HB2.out _ b1
        clear b1 HCM
        go_wp2_with fail
        go_roundw
        case rel => exact ⟨p, m, hmp, by omega, rfl, rfl, hp, .inr HM.out, HB1⟩
        case measure => simp [intOf]; omega
    · have hli : ¬ (p : Int) < (q : Int) := by omega
      have hpq' : p = q := by omega
      subst hpq'
      have HAT : Hid (fmtAt n = p) := by show _ = _; unfold fmtAt; split; omega; split <;> omega
      by_cases h5 : p < 5
      · have h5i : (p : Int) < 5 := by omega
        obtain ⟨nm, bx, c0, c1, c2, c3, c4, c5, c6, _⟩ := (HF.out.below HB.out).2 p h5
        have HCM : Hid (Calls Tryz.prog 34 #[.agg #[.int .i64 ((p : Int) + 1), .string nm, .int .i64 (fmtWays p), .func (.func 62) #[] #[.pointer (some ⟨bx, 0, none⟩)], .func (.func (fmtHolds p)) #[] #[], .func (.func (fmtPut p)) #[] #[], .func (.func (fmtGet p)) #[] #[]], .int .i64 n] wr fun e w' => e = .returned (.int .i64 (cmpI ((p : Int) + 1) n)) ∧ Below wr.heap.size wr w') := formatCmp_any _ n _ _ _ _ _ _ wr
        obtain ⟨c, hcv⟩ : ∃ c, c = cmpI ((p : Int) + 1) n := ⟨_, rfl⟩
        have HD : Hid ((c == 0) = true ↔ 1 ≤ n ∧ n ≤ 5) := by
          show _ ↔ _
          rw [hcv, beq_iff_eq]
          unfold cmpI
          split
          · omega
          · split <;> omega
        rw [← hcv] at HCM
        clear hcv hp hq hlt
        go_wp2_with fail
        refine HCM.out.mono ?_
        rintro e w1 ⟨rfl, b1⟩
        have HB1 : Hid (Below w.heap.size w w1) := HB.out.trans (b1.mono HB.out.size)
        clear b1 HCM
        go_wp2_with fail
        go_ret2
        exact ⟨⟨p, c == 0, rfl, HAT.out.symm, HD.out⟩, HB1.out⟩
      · have h5i : ¬ (p : Int) < 5 := by omega
        have HD : Hid (¬ (1 ≤ n ∧ n ≤ 5)) := by show ¬ _; omega
        clear hp hq hlt
        go_wp2_with fail
        go_ret2
        exact ⟨⟨p, false, rfl, HAT.out.symm, by simpa using HD.out⟩, HB.out⟩
/-- a format of a number: its cells, and whether there is one -/
def FmtIs (n : Int) (v : Value) (ok : Bool) : Prop :=
  (1 ≤ n ∧ n ≤ 5 ∧ ok = true ∧ ∃ (nm : ByteArray) (bx : Nat), v = .agg #[.int .i64 n, .string nm, .int .i64 (fmtWays (n.toNat - 1)), .func (.func 62) #[] #[.pointer (some ⟨bx, 0, none⟩)], .func (.func (fmtHolds (n.toNat - 1))) #[] #[], .func (.func (fmtPut (n.toNat - 1))) #[] #[], .func (.func (fmtGet (n.toNat - 1))) #[] #[]]) ∨
  (¬ (1 ≤ n ∧ n ≤ 5) ∧ ok = false ∧ v = .agg #[.int .i64 0, .string ⟨#[]⟩, .int .i64 0, .nilFunc, .nilFunc, .nilFunc, .nilFunc])
def FoEnd (n : Int) (w : World) (e : Ending) (w' : World) : Prop := (∃ v ok, e = .returned (.tuple #[v, .bool ok]) ∧ FmtIs n v ok) ∧ Below w.heap.size w w'
set_option maxHeartbeats 4000000 in
set_option maxRecDepth 20000 in
theorem formatOf_any (n : Int) (w : World) : Calls Tryz.prog 14 #[.int .i64 n] w (FoEnd n w) := by
  have HFM : Hid (∀ w, Calls Tryz.prog 32 #[] w fun e w' => (∃ b, e = .returned (.slice (some ⟨b, 0, none⟩) 5 5) ∧ FmtRow w' b) ∧ Below w.heap.size w w') := formats_any
  obtain ⟨W0, hW0⟩ : ∃ W0, W0 = w.alloc (.cells #[.int .i64 0, .string ⟨#[]⟩, .int .i64 0, .nilFunc, .nilFunc, .nilFunc, .nilFunc] 41) := ⟨_, rfl⟩
  obtain ⟨bx, hbx⟩ : ∃ bx, bx = w.heap.size := ⟨_, rfl⟩
  have HB0 : Hid (Below w.heap.size w W0 ∧ W0.heap[bx]? = some (.cells #[.int .i64 0, .string ⟨#[]⟩, .int .i64 0, .nilFunc, .nilFunc, .nilFunc, .nilFunc] 41 (0, 0)) ∧ bx = w.heap.size) := by
    rw [hW0, hbx]
    exact ⟨(Below.refl _ _).alloc (Nat.le_refl _) _, heap_alloc_new _ _, rfl⟩
  go_enter Tryz.func14, Tryz.ntmps14
  go_wp2_with fail
  rw [← hW0, ← hbx]
  clear hW0 hbx
  refine (HFM.out W0).mono ?_
  rintro e w1 ⟨⟨b, rfl, hF⟩, b1⟩
  have HF : Hid (FmtRow w1 b ∧ Below w.heap.size w w1 ∧ w1.heap[bx]? = some (.cells #[.int .i64 0, .string ⟨#[]⟩, .int .i64 0, .nilFunc, .nilFunc, .nilFunc, .nilFunc] 41 (0, 0)) ∧ bx < W0.heap.size) := ⟨hF, HB0.out.1.trans (b1.mono HB0.out.1.size), (b1.block bx (Array.getElem?_eq_some_iff.1 HB0.out.2.1).1).trans HB0.out.2.1, (Array.getElem?_eq_some_iff.1 HB0.out.2.1).1⟩
  have HSE : Hid (Calls Tryz.prog 33 #[.slice (some ⟨b, 0, none⟩) 5 5, .int .i64 n, .func (.func 34) #[] #[]] w1 (SrEnd n w1)) := search_any b n w1 hF
  clear hF b1 HFM
  go_wp2_with fail
  refine HSE.out.mono ?_
  rintro e w2 ⟨⟨p, ok, rfl, hp, hok⟩, b2⟩
  have hbw : bx < w1.heap.size := (Array.getElem?_eq_some_iff.1 HF.out.2.2.1).1
  have hx2 := (b2.block bx hbw).trans HF.out.2.2.1
  have HF2 : Hid (FmtRow w2 b ∧ Below w.heap.size w w2 ∧ w.heap.size ≤ bx) := ⟨HF.out.1.below b2, HF.out.2.1.trans (b2.mono HF.out.2.1.size), by rw [HB0.out.2.2]; exact Nat.le_refl _⟩
  clear b2 HSE
  by_cases hn : 1 ≤ n ∧ n ≤ 5
  · have hokt : ok = true := hok.2 hn
    subst hokt
    have hpn : p = n.toNat - 1 := by
      rw [hp]
      unfold fmtAt
      split
      · omega
      · rw [if_pos hn.2]
    have hp5 : p < 5 := by omega
    have hp5i : (p : Int) < 5 := by omega
    obtain ⟨nm, by', c0, c1, c2, c3, c4, c5, c6, _⟩ := HF2.out.1.2 p hp5
    have hpi : (p : Int) + 1 = n := by omega
    rw [hpi] at c0
    have HN : Hid (1 ≤ n ∧ n ≤ 5 ∧ p = n.toNat - 1) := ⟨hn.1, hn.2, hpn⟩
    clear hp hok hpi hpn hn
    obtain ⟨V, hV⟩ : ∃ V, V = w2.setRow bx #[.int .i64 n, .string nm, .int .i64 (fmtWays p), .func (.func 62) #[] #[.pointer (some ⟨by', 0, none⟩)], .func (.func (fmtHolds p)) #[] #[], .func (.func (fmtPut p)) #[] #[], .func (.func (fmtGet p)) #[] #[]] := ⟨_, rfl⟩
    have hs := setRow_heap w2 bx _ #[.int .i64 n, .string nm, .int .i64 (fmtWays p), .func (.func 62) #[] #[.pointer (some ⟨by', 0, none⟩)], .func (.func (fmtHolds p)) #[] #[], .func (.func (fmtPut p)) #[] #[], .func (.func (fmtGet p)) #[] #[]] _ _ hx2
    rw [← hV] at hs
    have k : ∀ o, V.cell? ⟨bx, o, none⟩ = (#[.int .i64 n, .string nm, .int .i64 (fmtWays p), .func (.func 62) #[] #[.pointer (some ⟨by', 0, none⟩)], .func (.func (fmtHolds p)) #[] #[], .func (.func (fmtPut p)) #[] #[], .func (.func (fmtGet p)) #[] #[]] : Array Value)[o]? := fun o => by simp only [World.cell?, hs]; rfl
    have k0 : V.cell? ⟨bx, 0, none⟩ = some (.int .i64 n) := k 0
    have k1 : V.cell? ⟨bx, 1, none⟩ = some (.string nm) := k 1
    have k2 : V.cell? ⟨bx, 2, none⟩ = some (.int .i64 (fmtWays p)) := k 2
    have k3 : V.cell? ⟨bx, 3, none⟩ = some (.func (.func 62) #[] #[.pointer (some ⟨by', 0, none⟩)]) := k 3
    have k4 : V.cell? ⟨bx, 4, none⟩ = some (.func (.func (fmtHolds p)) #[] #[]) := k 4
    have k5 : V.cell? ⟨bx, 5, none⟩ = some (.func (.func (fmtPut p)) #[] #[]) := k 5
    have k6 : V.cell? ⟨bx, 6, none⟩ = some (.func (.func (fmtGet p)) #[] #[]) := k 6
    have HBV : Hid (Below w.heap.size w V) := HF2.out.2.1.trans (by rw [hV]; exact ⟨rfl, rfl, rfl, by simp, fun i hi => setRow_other w2 bx i _ (by have := HF2.out.2.2; omega)⟩)
    have HE : Hid (FoEnd n w (.returned (.tuple #[.agg #[.int .i64 n, .string nm, .int .i64 (fmtWays p), .func (.func 62) #[] #[.pointer (some ⟨by', 0, none⟩)], .func (.func (fmtHolds p)) #[] #[], .func (.func (fmtPut p)) #[] #[], .func (.func (fmtGet p)) #[] #[]], .bool true])) V) := by
      refine ⟨⟨_, _, rfl, .inl ⟨HN.out.1, HN.out.2.1, rfl, nm, by', ?_⟩⟩, HBV.out⟩
      rw [HN.out.2.2]
    clear k hs HBV
    have hI7 : (Tryz.prog.info? 41).map (·.size) = some (#[Value.int .i64 n, .string nm, .int .i64 (fmtWays p), .func (.func 62) #[] #[.pointer (some ⟨by', 0, none⟩)], .func (.func (fmtHolds p)) #[] #[], .func (.func (fmtPut p)) #[] #[], .func (.func (fmtGet p)) #[] #[]]).size := by kernel_rfl
    have h17 : (#[Value.int .i64 n, .string nm, .int .i64 (fmtWays p), .func (.func 62) #[] #[.pointer (some ⟨by', 0, none⟩)], .func (.func (fmtHolds p)) #[] #[], .func (.func (fmtPut p)) #[] #[], .func (.func (fmtGet p)) #[] #[]]).all (·.oneCell') = true := by simp [Value.oneCell']
    go_wp2_with (refine wpList_store_row rfl 41 (.tmp 2) (.tmp 20) rfl bx #[.int .i64 n, .string nm, .int .i64 (fmtWays p), .func (.func 62) #[] #[.pointer (some ⟨by', 0, none⟩)], .func (.func (fmtHolds p)) #[] #[], .func (.func (fmtPut p)) #[] #[], .func (.func (fmtGet p)) #[] #[]] rfl rfl 41 #[.int .i64 0, .string ⟨#[]⟩, .int .i64 0, .nilFunc, .nilFunc, .nilFunc, .nilFunc] hx2 hI7 rfl h17 ?_)
    rw [← hV]
    clear hV
    go_wp2_with fail
    refine bodyPost_ret (v := .tuple #[.agg #[.int .i64 n, .string nm, .int .i64 (fmtWays p), .func (.func 62) #[] #[.pointer (some ⟨by', 0, none⟩)], .func (.func (fmtHolds p)) #[] #[], .func (.func (fmtPut p)) #[] #[], .func (.func (fmtGet p)) #[] #[]], .bool true]) (by simp [results, Tryz.results14, go_sem, k0, k1, k2, k3, k4, k5, k6]) rfl HE.out
  · have hokf : ok = false := by cases ok with | false => rfl | true => exact absurd (hok.1 rfl) hn
    subst hokf
    have HN : Hid (¬ (1 ≤ n ∧ n ≤ 5)) := hn
    clear hp hok hn
    obtain ⟨V, hV⟩ : ∃ V, V = w2.setRow bx #[.int .i64 0, .string ⟨#[]⟩, .int .i64 0, .nilFunc, .nilFunc, .nilFunc, .nilFunc] := ⟨_, rfl⟩
    have hs := setRow_heap w2 bx _ #[.int .i64 0, .string ⟨#[]⟩, .int .i64 0, .nilFunc, .nilFunc, .nilFunc, .nilFunc] _ _ hx2
    rw [← hV] at hs
    have k : ∀ o, V.cell? ⟨bx, o, none⟩ = (#[.int .i64 0, .string ⟨#[]⟩, .int .i64 0, .nilFunc, .nilFunc, .nilFunc, .nilFunc] : Array Value)[o]? := fun o => by simp only [World.cell?, hs]; rfl
    have k0 : V.cell? ⟨bx, 0, none⟩ = some (.int .i64 0) := k 0
    have k1 : V.cell? ⟨bx, 1, none⟩ = some (.string ⟨#[]⟩) := k 1
    have k2 : V.cell? ⟨bx, 2, none⟩ = some (.int .i64 0) := k 2
    have k3 : V.cell? ⟨bx, 3, none⟩ = some .nilFunc := k 3
    have k4 : V.cell? ⟨bx, 4, none⟩ = some .nilFunc := k 4
    have k5 : V.cell? ⟨bx, 5, none⟩ = some .nilFunc := k 5
    have k6 : V.cell? ⟨bx, 6, none⟩ = some .nilFunc := k 6
    have HBV : Hid (Below w.heap.size w V) := HF2.out.2.1.trans (by rw [hV]; exact ⟨rfl, rfl, rfl, by simp, fun i hi => setRow_other w2 bx i _ (by have := HF2.out.2.2; omega)⟩)
    have HE : Hid (FoEnd n w (.returned (.tuple #[.agg #[.int .i64 0, .string ⟨#[]⟩, .int .i64 0, .nilFunc, .nilFunc, .nilFunc, .nilFunc], .bool false])) V) := ⟨⟨_, _, rfl, .inr ⟨HN.out, rfl, rfl⟩⟩, HBV.out⟩
    clear k hs HBV
    have hI7 : (Tryz.prog.info? 41).map (·.size) = some (#[Value.int .i64 0, .string ⟨#[]⟩, .int .i64 0, .nilFunc, .nilFunc, .nilFunc, .nilFunc]).size := by kernel_rfl
    have h17 : (#[Value.int .i64 0, .string ⟨#[]⟩, .int .i64 0, .nilFunc, .nilFunc, .nilFunc, .nilFunc]).all (·.oneCell') = true := by simp [Value.oneCell']
    go_wp2_with (refine wpList_store_row rfl 41 (.tmp 2) (.tmp 16) rfl bx #[.int .i64 0, .string ⟨#[]⟩, .int .i64 0, .nilFunc, .nilFunc, .nilFunc, .nilFunc] rfl rfl 41 #[.int .i64 0, .string ⟨#[]⟩, .int .i64 0, .nilFunc, .nilFunc, .nilFunc, .nilFunc] hx2 hI7 rfl h17 ?_)
    rw [← hV]
    clear hV
    go_wp2_with fail
    refine bodyPost_ret (v := .tuple #[.agg #[.int .i64 0, .string ⟨#[]⟩, .int .i64 0, .nilFunc, .nilFunc, .nilFunc, .nilFunc], .bool false]) (by simp [results, Tryz.results14, go_sem, k0, k1, k2, k3, k4, k5, k6]) rfl HE.out
end Go.Proofs.YteldjmocbbbinaaGreatDoor

/- A slice of bytes that came in is a code that can be read. -/
namespace Go.Proofs.YteldjmocbbbinaaGreatDoor
open Go.RowKit

theorem addr_add (b off i : Nat) : (⟨b, off, none⟩ : Addr).add i = ⟨b, off + i, none⟩ := by
  simp [Addr.add]; try omega

theorem code8_of {w : World} {a : Option Addr} {len cap : Nat} {zs : List Int}
    (h : (a = none ∧ len = 0 ∧ cap = 0 ∧ zs = []) ∨ ∃ x, a = some x ∧ len ≤ cap ∧ cap ≤ maxLen ∧ zs.length = cap ∧ (∀ i, i < zs.length → w.cell? (x.add i) = some (.int .u8 (zs.getD i 0))) ∧ ∀ n ∈ zs, (Lit.int .u8 n).wf = true) :
    Code8 w a len cap := by
  rcases h with ⟨rfl, rfl, rfl, rfl⟩ | ⟨x, rfl, hl, hm, hz, hcell, hwz⟩
  · exact ⟨Nat.le_refl _, Nat.zero_le _, .inl rfl⟩
  · refine ⟨hl, hm, ?_⟩
    by_cases h0 : len = 0
    · exact .inl h0
    · obtain ⟨b, off, spot⟩ := x
      have hc := hcell 0 (by omega)
      have hspot : spot = none := by simpa [Addr.add] using World.cell?_spot hc
      subst hspot
      rw [addr_add] at hc
      refine .inr ⟨b, off, rfl, World.block_lt_of_cell? _ _ hc, fun i hi => ?_⟩
      have h1 := hcell i (by omega)
      rw [addr_add] at h1
      have hmem : zs.getD i 0 ∈ zs := by
        rw [List.getD_eq_getElem?_getD, List.getElem?_eq_getElem (by omega)]
        exact List.getElem_mem _
      have hw := bounds_u8 (hwz _ hmem)
      exact ⟨(zs.getD i 0).toNat, by omega, by rw [h1, Int.toNat_of_nonneg hw.1]⟩
end Go.Proofs.YteldjmocbbbinaaGreatDoor

/- Six cells of a box written one by one are the box written whole. -/
namespace Go.Proofs.YteldjmocbbbinaaGreatDoor
open Go.RowKit

theorem setRow_setRow (w : World) (g : Nat) (a b : Array Value) : (w.setRow g a).setRow g b = w.setRow g b := by
  unfold World.setRow
  simp only
  congr 1
  apply Array.ext_getElem?
  intro i
  rw [Array.getElem?_modify, Array.getElem?_modify, Array.getElem?_modify]
  by_cases e : g = i
  · subst e
    simp only [if_true]
    cases w.heap[g]? with
    | none => rfl
    | some o => cases o <;> rfl
  · simp [e]
theorem setRow_setCell {w : World} {g : Nat} {cur : Array Value} {t : TypeId} (h : w.heap[g]? = some (.cells cur t (0, 0))) (a : Array Value) (i : Nat) (v : Value) : (w.setRow g a).setCell ⟨g, i, none⟩ v = w.setRow g (a.setIfInBounds i v) := by
  rw [setCell_eq_setRow (w.setRow g a) g i a t (0, 0) v (setRow_heap w g cur a t (0, 0) h), setRow_setRow]
theorem six_row {w : World} {g : Nat} {t : TypeId} {a0 a1 a2 a3 a4 a5 : Value} (h : w.heap[g]? = some (.cells #[a0, a1, a2, a3, a4, a5] t (0, 0))) (v0 v1 v2 v3 v4 v5 : Value) :
    (((((w.setCell ⟨g, 0, none⟩ v0).setCell ⟨g, 1, none⟩ v1).setCell ⟨g, 2, none⟩ v2).setCell ⟨g, 3, none⟩ v3).setCell ⟨g, 4, none⟩ v4).setCell ⟨g, 5, none⟩ v5 = w.setRow g #[v0, v1, v2, v3, v4, v5] := by
  rw [setCell_eq_setRow w g 0 _ t (0, 0) v0 h, setRow_setCell h, setRow_setCell h, setRow_setCell h, setRow_setCell h, setRow_setCell h]
  rfl
end Go.Proofs.YteldjmocbbbinaaGreatDoor

/- ImageFlip of the program. -/
namespace Go.Proofs.YteldjmocbbbinaaGreatDoor
open Go.RowKit

theorem flip_ma (k d : Int) (Wd Hi : Nat) (ca : Option Addr) (cn cc : Nat) (pa : Option Addr) (pn pc : Nat) (w : World) : (method 553 56 (.agg #[.iface 52 (.agg #[.int .i64 k, .int .i64 d, .int .i64 (Wd : Int), .int .i64 (Hi : Int), .slice ca cn cc, .slice pa pn pc])]) "loop.example/intarsia/impl.at").run Tryz.prog w = .ok (370, .agg #[.iface 52 (.agg #[.int .i64 k, .int .i64 d, .int .i64 (Wd : Int), .int .i64 (Hi : Int), .slice ca cn cc, .slice pa pn pc])]) w := by kernel_rfl
theorem flip_na (k d : Int) (Wd Hi : Nat) (ca : Option Addr) (cn cc : Nat) (pa : Option Addr) (pn pc : Nat) (w : World) : (nilAhead 553 56 (.agg #[.iface 52 (.agg #[.int .i64 k, .int .i64 d, .int .i64 (Wd : Int), .int .i64 (Hi : Int), .slice ca cn cc, .slice pa pn pc])]) "loop.example/intarsia/impl.at").run Tryz.prog w = .ok (some false) w := by kernel_rfl
theorem flip_ns (k d : Int) (Wd Hi : Nat) (ca : Option Addr) (cn cc : Nat) (pa : Option Addr) (pn pc : Nat) (w : World) : (nilAhead 553 56 (.agg #[.iface 52 (.agg #[.int .i64 k, .int .i64 d, .int .i64 (Wd : Int), .int .i64 (Hi : Int), .slice ca cn cc, .slice pa pn pc])]) "loop.example/intarsia/impl.size").run Tryz.prog w = .ok (some false) w := by kernel_rfl
theorem flip_ms (k d : Int) (Wd Hi : Nat) (ca : Option Addr) (cn cc : Nat) (pa : Option Addr) (pn pc : Nat) (w : World) : (method 553 56 (.agg #[.iface 52 (.agg #[.int .i64 k, .int .i64 d, .int .i64 (Wd : Int), .int .i64 (Hi : Int), .slice ca cn cc, .slice pa pn pc])]) "loop.example/intarsia/impl.size").run Tryz.prog w = .ok (369, .agg #[.int .i64 k, .int .i64 d, .int .i64 (Wd : Int), .int .i64 (Hi : Int), .slice ca cn cc, .slice pa pn pc]) w := by kernel_rfl

set_option maxHeartbeats 1000000 in
theorem flip_at (k d : Int) (Wd Hi : Nat) (ca : Option Addr) (cn cc : Nat) (pa : Option Addr) (pn pc : Nat) (x y : Nat) (v : Int) (w : World) (hy : y < Hi) (hH : Hi ≤ 20)
    (hat : ∀ w', Below w.heap.size w w' → Calls Tryz.prog 368 #[.agg #[.int .i64 k, .int .i64 d, .int .i64 (Wd : Int), .int .i64 (Hi : Int), .slice ca cn cc, .slice pa pn pc], .int .i64 (x : Int), .int .i64 ((Hi : Int) - 1 - (y : Int))] w' fun e w'' => e = .returned (.int .i64 v) ∧ Below w'.heap.size w' w'') :
    Calls Tryz.prog 370 #[.agg #[.iface 52 (.agg #[.int .i64 k, .int .i64 d, .int .i64 (Wd : Int), .int .i64 (Hi : Int), .slice ca cn cc, .slice pa pn pc])], .int .i64 (x : Int), .int .i64 (y : Int)] w fun e w' => e = .returned (.int .i64 v) ∧ Below w.heap.size w w' := by
  have m1 := fun w => method_size k d (Wd : Int) (Hi : Int) ca cn cc pa pn pc w
  have n1 := fun w => plain_ns k d Wd Hi ca cn cc pa pn pc w
  have m2 := fun w => plain_ma k d Wd Hi ca cn cc pa pn pc w
  have n2 := fun w => plain_na k d Wd Hi ca cn cc pa pn pc w
  have hB0 : Below w.heap.size w (w.alloc (.cells #[.iface 52 (.agg #[.int .i64 k, .int .i64 d, .int .i64 (Wd : Int), .int .i64 (Hi : Int), .slice ca cn cc, .slice pa pn pc])] 56)) := (Below.refl _ _).alloc (Nat.le_refl _) _
  have HS : Hid (Calls Tryz.prog 369 #[.agg #[.int .i64 k, .int .i64 d, .int .i64 (Wd : Int), .int .i64 (Hi : Int), .slice ca cn cc, .slice pa pn pc]] (w.alloc (.cells #[.iface 52 (.agg #[.int .i64 k, .int .i64 d, .int .i64 (Wd : Int), .int .i64 (Hi : Int), .slice ca cn cc, .slice pa pn pc])] 56)) fun e w' => e = .returned (.tuple #[.int .i64 (Wd : Int), .int .i64 (Hi : Int)]) ∧ Below (w.alloc (.cells #[.iface 52 (.agg #[.int .i64 k, .int .i64 d, .int .i64 (Wd : Int), .int .i64 (Hi : Int), .slice ca cn cc, .slice pa pn pc])] 56)).heap.size (w.alloc (.cells #[.iface 52 (.agg #[.int .i64 k, .int .i64 d, .int .i64 (Wd : Int), .int .i64 (Hi : Int), .slice ca cn cc, .slice pa pn pc])] 56)) w') := size_any k d (Wd : Int) (Hi : Int) ca cn cc pa pn pc _
  have HAT : Hid (∀ w', Below w.heap.size w w' → Calls Tryz.prog 368 #[.agg #[.int .i64 k, .int .i64 d, .int .i64 (Wd : Int), .int .i64 (Hi : Int), .slice ca cn cc, .slice pa pn pc], .int .i64 (x : Int), .int .i64 ((Hi : Int) - 1 - (y : Int))] w' fun e w'' => e = .returned (.int .i64 v) ∧ Below w'.heap.size w' w'') := hat
  clear hat
  have hc0 := (Boxed.new w 56 (.iface 52 (.agg #[.int .i64 k, .int .i64 d, .int .i64 (Wd : Int), .int .i64 (Hi : Int), .slice ca cn cc, .slice pa pn pc]))).cell
  go_enter Tryz.func370, Tryz.ntmps370
  go_wp2_with fail
  refine HS.out.mono ?_
  rintro e w1 ⟨rfl, b1⟩
  have hc1 : w1.cell? ⟨w.heap.size, 0, none⟩ = some (.iface 52 (.agg #[.int .i64 k, .int .i64 d, .int .i64 (Wd : Int), .int .i64 (Hi : Int), .slice ca cn cc, .slice pa pn pc])) := (b1.cell (p := ⟨w.heap.size, 0, none⟩) (by simp)).trans hc0
  have bel1 := hB0.trans (b1.mono hB0.size)
  clear b1 hB0 HS hc0
  go_wp2_with fail
  refine (HAT.out w1 bel1).mono ?_
  rintro e w2 ⟨rfl, b2⟩
  have bel2 := bel1.trans (b2.mono bel1.size)
  clear b2 bel1 hc1
  go_wp2_with fail
  go_ret
  exact ⟨rfl, bel2⟩

/-- what is told of the points -/
def flipF (Wd Hi : Nat) (ps : List Int) : Nat → Nat → Int := fun x y => ps.getD ((Hi - 1 - y) * Wd + x) 0

theorem flip_seen (k d : Int) (Wd Hi : Nat) (ca : Option Addr) (cn cc : Nat) (pa : Option Addr) (pn pc : Nat) (ps : List Int) (w : World) (hp : Ints w pa ps) (hpn : ps.length = pn) (hW : Wd ≤ 20) (hH : Hi ≤ 20) (hm : pn = Wd * Hi) :
    Seen 56 (.agg #[.iface 52 (.agg #[.int .i64 k, .int .i64 d, .int .i64 (Wd : Int), .int .i64 (Hi : Int), .slice ca cn cc, .slice pa pn pc])]) 369 (.agg #[.int .i64 k, .int .i64 d, .int .i64 (Wd : Int), .int .i64 (Hi : Int), .slice ca cn cc, .slice pa pn pc]) 370 (.agg #[.iface 52 (.agg #[.int .i64 k, .int .i64 d, .int .i64 (Wd : Int), .int .i64 (Hi : Int), .slice ca cn cc, .slice pa pn pc])]) Wd Hi (flipF Wd Hi ps) w.heap.size w where
  ms := flip_ms k d Wd Hi ca cn cc pa pn pc
  ns := flip_ns k d Wd Hi ca cn cc pa pn pc
  ma := flip_ma k d Wd Hi ca cn cc pa pn pc
  na := flip_na k d Wd Hi ca cn cc pa pn pc
  es := enters_of Tryz.func369 (by kernel_rfl) rfl
  ea := enters_of Tryz.func370 (by kernel_rfl) rfl
  size := fun w' _ => size_any k d (Wd : Int) (Hi : Int) ca cn cc pa pn pc w'
  at' := fun w' x y hx hy b => by
    have h1 : (Hi - 1 - y + 1) * Wd ≤ Hi * Wd := Nat.mul_le_mul_right _ (by omega)
    rw [Nat.add_mul, Nat.one_mul, Nat.mul_comm Hi Wd] at h1
    have h2 : Wd * Hi ≤ 20 * 20 := Nat.mul_le_mul (by omega) (by omega)
    have hs : Spot (Wd : Int) (Hi : Int) (x : Int) ((Hi : Int) - 1 - (y : Int)) pn ((Hi - 1 - y) * Wd + x) x (Hi - 1 - y) Wd := ⟨rfl, by omega, rfl, rfl, by omega, by omega⟩
    exact flip_at k d Wd Hi ca cn cc pa pn pc x y _ w' hy hH (fun w'' b' => at_any k d (Wd : Int) (Hi : Int) (x : Int) ((Hi : Int) - 1 - (y : Int)) ca cn cc pa pn pc ps w'' _ _ _ _ hs ((hp.kept b).kept b') hpn)

set_option maxHeartbeats 2000000 in
set_option maxRecDepth 20000 in
theorem impl_flip_yes (k d : Int) (Wd Hi : Nat) (ca : Option Addr) (cn cc : Nat) (pa : Option Addr) (pn pc : Nat) (cs ps : List Int) (w : World) (hc : Ints w ca cs) (hcn : cs.length = cn) (hcl : cn ≤ 1048576) (hp : Ints w pa ps) (hpn : ps.length = pn) (hW : Wd ≤ 20) (hH : Hi ≤ 20) (hm : pn = Wd * Hi)
    (hO : Calls Tryz.prog 7 #[.agg #[.int .i64 k, .int .i64 d, .int .i64 (Wd : Int), .int .i64 (Hi : Int), .slice ca cn cc, .slice pa pn pc]] ((w.alloc (.cells #[.int .i64 k, .int .i64 d, .int .i64 (Wd : Int), .int .i64 (Hi : Int), .slice ca cn cc, .slice pa pn pc] 25)).alloc (.cells #[.int .i64 0, .int .i64 0, .int .i64 0, .int .i64 0, .slice none 0 0, .slice none 0 0] 25)) fun e w' => e = .returned (.bool true) ∧ Below ((w.alloc (.cells #[.int .i64 k, .int .i64 d, .int .i64 (Wd : Int), .int .i64 (Hi : Int), .slice ca cn cc, .slice pa pn pc] 25)).alloc (.cells #[.int .i64 0, .int .i64 0, .int .i64 0, .int .i64 0, .slice none 0 0, .slice none 0 0] 25)).heap.size ((w.alloc (.cells #[.int .i64 k, .int .i64 d, .int .i64 (Wd : Int), .int .i64 (Hi : Int), .slice ca cn cc, .slice pa pn pc] 25)).alloc (.cells #[.int .i64 0, .int .i64 0, .int .i64 0, .int .i64 0, .slice none 0 0, .slice none 0 0] 25)) w') :
    Calls Tryz.prog 9 #[.agg #[.int .i64 k, .int .i64 d, .int .i64 (Wd : Int), .int .i64 (Hi : Int), .slice ca cn cc, .slice pa pn pc]] w fun e w' =>
      (∃ x cx y cy, e = .returned (.agg #[.int .i64 k, .int .i64 d, .int .i64 (Wd : Int), .int .i64 (Hi : Int), .slice x cn cx, .slice y (Wd * Hi) cy]) ∧ Pair2 w' w.heap.size x cs y (upto (ptF Wd (flipF Wd Hi ps)) (Wd * Hi))) ∧ Below w.heap.size w w' := by
  have hB0 : Below w.heap.size w ((w.alloc (.cells #[.int .i64 k, .int .i64 d, .int .i64 (Wd : Int), .int .i64 (Hi : Int), .slice ca cn cc, .slice pa pn pc] 25)).alloc (.cells #[.int .i64 0, .int .i64 0, .int .i64 0, .int .i64 0, .slice none 0 0, .slice none 0 0] 25)) := ((Below.refl _ _).alloc (Nat.le_refl _) _).alloc (by simp) _
  have HO : Hid (Calls Tryz.prog 7 #[.agg #[.int .i64 k, .int .i64 d, .int .i64 (Wd : Int), .int .i64 (Hi : Int), .slice ca cn cc, .slice pa pn pc]] ((w.alloc (.cells #[.int .i64 k, .int .i64 d, .int .i64 (Wd : Int), .int .i64 (Hi : Int), .slice ca cn cc, .slice pa pn pc] 25)).alloc (.cells #[.int .i64 0, .int .i64 0, .int .i64 0, .int .i64 0, .slice none 0 0, .slice none 0 0] 25)) fun e w' => e = .returned (.bool true) ∧ Below ((w.alloc (.cells #[.int .i64 k, .int .i64 d, .int .i64 (Wd : Int), .int .i64 (Hi : Int), .slice ca cn cc, .slice pa pn pc] 25)).alloc (.cells #[.int .i64 0, .int .i64 0, .int .i64 0, .int .i64 0, .slice none 0 0, .slice none 0 0] 25)).heap.size ((w.alloc (.cells #[.int .i64 k, .int .i64 d, .int .i64 (Wd : Int), .int .i64 (Hi : Int), .slice ca cn cc, .slice pa pn pc] 25)).alloc (.cells #[.int .i64 0, .int .i64 0, .int .i64 0, .int .i64 0, .slice none 0 0, .slice none 0 0] 25)) w') := hO
  clear hO
  have HZ : Hid (((w.alloc (.cells #[.int .i64 k, .int .i64 d, .int .i64 (Wd : Int), .int .i64 (Hi : Int), .slice ca cn cc, .slice pa pn pc] 25)).alloc (.cells #[.int .i64 0, .int .i64 0, .int .i64 0, .int .i64 0, .slice none 0 0, .slice none 0 0] 25)).heap[w.heap.size + 1]? = some (.cells #[.int .i64 0, .int .i64 0, .int .i64 0, .int .i64 0, .slice none 0 0, .slice none 0 0] 25 (0, 0))) := heap_alloc2_new _ _ _
  have HM : Hid (∀ w', Below w.heap.size w w' → Calls Tryz.prog 28 #[.iface 56 (.agg #[.iface 52 (.agg #[.int .i64 k, .int .i64 d, .int .i64 (Wd : Int), .int .i64 (Hi : Int), .slice ca cn cc, .slice pa pn pc])]), .int .i64 k, .int .i64 d, .slice ca cn cc] w' fun e w'' =>
      (∃ x cx y cy, e = .returned (.agg #[.int .i64 k, .int .i64 d, .int .i64 (Wd : Int), .int .i64 (Hi : Int), .slice x cn cx, .slice y (Wd * Hi) cy]) ∧ Pair2 w'' w'.heap.size x cs y (upto (ptF Wd (flipF Wd Hi ps)) (Wd * Hi))) ∧ Below w'.heap.size w' w'') :=
    fun w' b => drawn_any 56 _ _ _ _ _ Wd Hi _ (by omega) (by omega) k d ca cn cc cs w' (flip_seen k d Wd Hi ca cn cc pa pn pc ps w' (hp.kept b) hpn hW hH hm) (hc.kept b) hcn hcl
  have k0 := box_kept (box_new w (.int .i64 k) (.int .i64 d) (.int .i64 (Wd : Int)) (.int .i64 (Hi : Int)) (.slice ca cn cc) (.slice pa pn pc) 25) ((Below.refl _ _).alloc (Nat.le_refl _) (.cells #[.int .i64 0, .int .i64 0, .int .i64 0, .int .i64 0, .slice none 0 0, .slice none 0 0] 25)) (by simp)
  clear hc hcn hcl hp hpn hm
  go_enter Tryz.func9, Tryz.ntmps9
  go_wp2_with fail
  refine HO.out.mono ?_
  rintro e w1 ⟨rfl, b1⟩
  obtain ⟨k0, k1, k2, k3, k4, k5⟩ := box_kept k0 b1 (by simp; omega)
  have bel1 := hB0.trans (b1.mono hB0.size)
  have hlt1 : w.heap.size + 1 < w1.heap.size := Nat.lt_of_lt_of_le (by simp) b1.size
  have HZ1 : Hid (w1.heap[w.heap.size + 1]? = some (.cells #[.int .i64 0, .int .i64 0, .int .i64 0, .int .i64 0, .slice none 0 0, .slice none 0 0] 25 (0, 0))) := (b1.block _ (by simp)).trans HZ.out
  clear b1 hB0 HO HZ
  go_wp2_with fail
  refine (HM.out w1 bel1).mono ?_
  rintro e w2 ⟨⟨x, cx, y, cy, rfl, hP⟩, b2⟩
  have hz2 : w2.heap[w.heap.size + 1]? = some (.cells #[.int .i64 0, .int .i64 0, .int .i64 0, .int .i64 0, .slice none 0 0, .slice none 0 0] 25 (0, 0)) := (b2.block _ hlt1).trans HZ1.out
  have bel2 := bel1.trans (b2.mono bel1.size)
  have hI6 : (Tryz.prog.info? 25).map (·.size) = some (#[Value.int .i64 k, .int .i64 d, .int .i64 (Wd : Int), .int .i64 (Hi : Int), .slice x cn cx, .slice y (Wd * Hi) cy]).size := by kernel_rfl
  have h16 : (#[Value.int .i64 k, .int .i64 d, .int .i64 (Wd : Int), .int .i64 (Hi : Int), .slice x cn cx, .slice y (Wd * Hi) cy]).all (·.oneCell') = true := by simp [Value.oneCell']
  have HP : Hid (Pair2 w2 (w.heap.size + 1 + 1) x cs y (upto (ptF Wd (flipF Wd Hi ps)) (Wd * Hi))) := hP.lower hlt1
  clear b2 bel1 HZ1 hP k0 k1 k2 k3 k4 k5 HM
  go_wp2_with (refine wpList_store_row rfl 25 (.tmp 2) (.tmp 17) rfl (w.heap.size + 1) #[.int .i64 k, .int .i64 d, .int .i64 (Wd : Int), .int .i64 (Hi : Int), .slice x cn cx, .slice y (Wd * Hi) cy] rfl rfl 25 #[.int .i64 0, .int .i64 0, .int .i64 0, .int .i64 0, .slice none 0 0, .slice none 0 0] hz2 hI6 rfl h16 ?_)
  have hs2 := setRow_heap w2 (w.heap.size + 1) _ #[.int .i64 k, .int .i64 d, .int .i64 (Wd : Int), .int .i64 (Hi : Int), .slice x cn cx, .slice y (Wd * Hi) cy] _ _ hz2
  refine bodyPost_ret_by (results_cell_row (p := 2) (ty := 25) (by kernel_rfl) _ _ (w.heap.size + 1) 25 _ (0, 0) _ rfl hs2 Tryz.underlying25 rfl (by kernel_rfl)) rfl ⟨⟨x, cx, y, cy, rfl, ?_⟩, ?_⟩
  · exact (HP.out.row _).lower (by omega)
  · exact bel2.trans ((below_setRow _ _ _).mono (by omega))
end Go.Proofs.YteldjmocbbbinaaGreatDoor

/- Small facts on pictures. -/
namespace Go.Proofs.YteldjmocbbbinaaGreatDoor
open Go.RowKit

theorem below_two (w : World) (o o' : Obj) : Below w.heap.size w ((w.alloc o).alloc o') := ((Below.refl _ _).alloc (Nat.le_refl _) _).alloc (by simp) _
theorem ok_open {k d wd hi : Int} {cs ps : List Int} (h : Im.okB k d wd hi cs ps = true) : Im.Ok k d wd hi cs ps := @of_decide_eq_true _ (Classical.propDecidable _) h
end Go.Proofs.YteldjmocbbbinaaGreatDoor

/- Two pictures that are the same, held against each other; pictures in boxes. -/
namespace Go.Proofs.YteldjmocbbbinaaGreatDoor
open Go.RowKit

/-- a picture in a box, its lists in memory -/
structure PB (w : World) (B : Nat) (k d wd hi : Int) (a : Option Addr) (n c : Nat) (cs : List Int) (b : Option Addr) (m cc : Nat) (ps : List Int) : Prop where
  lt : B < w.heap.size
  box : w.cell? ⟨B, 0, none⟩ = some (.int .i64 k) ∧ w.cell? ⟨B, 1, none⟩ = some (.int .i64 d) ∧ w.cell? ⟨B, 2, none⟩ = some (.int .i64 wd) ∧ w.cell? ⟨B, 3, none⟩ = some (.int .i64 hi) ∧ w.cell? ⟨B, 4, none⟩ = some (.slice a n c) ∧ w.cell? ⟨B, 5, none⟩ = some (.slice b m cc)
  i4 : Ints w a cs
  i5 : Ints w b ps
theorem PB.kept {w w' : World} {B n c m cc : Nat} {k d wd hi : Int} {a b : Option Addr} {cs ps : List Int} (h : PB w B k d wd hi a n c cs b m cc ps) (g : Below w.heap.size w w') : PB w' B k d wd hi a n c cs b m cc ps :=
  ⟨Nat.lt_of_lt_of_le h.lt g.size, box_kept h.box g h.lt, h.i4.kept g, h.i5.kept g⟩
theorem pb_new {w : World} {n c m cc : Nat} {k d wd hi : Int} {a b : Option Addr} {cs ps : List Int} (h4 : Ints w a cs) (h5 : Ints w b ps) : PB (w.alloc (.cells #[.int .i64 k, .int .i64 d, .int .i64 wd, .int .i64 hi, .slice a n c, .slice b m cc] 25)) w.heap.size k d wd hi a n c cs b m cc ps :=
  ⟨by simp, box_new w _ _ _ _ _ _ _, h4.kept ((Below.refl _ _).alloc (Nat.le_refl _) _), h5.kept ((Below.refl _ _).alloc (Nat.le_refl _) _)⟩
end Go.Proofs.YteldjmocbbbinaaGreatDoor

/- Lists of points (mathematics), and a point of a picture. -/
namespace Go.Proofs.YteldjmocbbbinaaGreatDoor
open Go.RowKit

theorem upto_getD (F : Nat → Int) {n j : Nat} (h : j < n) : (upto F n).getD j 0 = F j := by simp [upto, h]
theorem spot_lt {Wd Hi x y : Nat} (hx : x < Wd) (hy : y < Hi) : y * Wd + x < Wd * Hi := by
  have := Nat.mul_le_mul_right Wd (show y + 1 ≤ Hi by omega)
  rw [Nat.add_mul, Nat.one_mul, Nat.mul_comm Hi Wd] at this; omega
theorem split_at {Wd Hi j : Nat} (h : j < Wd * Hi) : ∃ x y, x < Wd ∧ y < Hi ∧ j = y * Wd + x := by
  have hW : 0 < Wd := by
    rcases Nat.eq_zero_or_pos Wd with e | e
    · subst e; omega
    · exact e
  refine ⟨j % Wd, j / Wd, Nat.mod_lt _ hW, ?_, ?_⟩
  · exact Nat.div_lt_of_lt_mul h
  · have := Nat.div_add_mod j Wd; rw [Nat.mul_comm] at this; omega
theorem getD_of {l : List Int} {j : Nat} (h : j < l.length) : l[j] = l.getD j 0 := by
  rw [List.getD_eq_getElem?_getD, List.getElem?_eq_getElem h]; rfl
theorem mem_getD {l : List Int} {j : Nat} (h : j < l.length) : l.getD j 0 ∈ l := by rw [← getD_of h]; exact List.getElem_mem h

end Go.Proofs.YteldjmocbbbinaaGreatDoor

/- A picture upside down: what the law on it wants. -/
namespace Go.Proofs.YteldjmocbbbinaaGreatDoor
open Go.RowKit

def flipL (Wd Hi : Nat) (ps : List Int) : List Int := upto (ptF Wd (flipF Wd Hi ps)) (Wd * Hi)
theorem flipL_len (Wd Hi : Nat) (ps : List Int) : (flipL Wd Hi ps).length = Wd * Hi := upto_length _ _
theorem flipL_at {Wd Hi x y : Nat} (ps : List Int) (hx : x < Wd) (hy : y < Hi) : (flipL Wd Hi ps).getD (y * Wd + x) 0 = ps.getD ((Hi - 1 - y) * Wd + x) 0 := by
  unfold flipL; rw [upto_getD _ (spot_lt hx hy), ptF_at _ hx]; rfl
theorem flipL_mem {Wd Hi : Nat} {ps : List Int} (h : ps.length = Wd * Hi) {z : Int} (hz : z ∈ flipL Wd Hi ps) : z ∈ ps := by
  obtain ⟨j, hj, rfl⟩ := List.getElem_of_mem hz
  have hj' := hj
  rw [flipL_len] at hj'
  obtain ⟨x, y, hx, hy, rfl⟩ := split_at hj'
  rw [getD_of, flipL_at _ hx hy]
  exact mem_getD (by rw [h]; exact spot_lt hx (by omega))
theorem ok_flip {k d : Int} {Wd Hi : Nat} {cs ps : List Int} (h : Im.okB k d Wd Hi cs ps = true) : Im.okB k d Wd Hi cs (flipL Wd Hi ps) = true := by
  obtain ⟨h1, h2, h3, h4, h5, h6⟩ := ok_open h
  have e : ((Wd * Hi : Nat) : Int) = (Wd : Int) * (Hi : Int) := by simp
  exact Im.okB_yes ⟨h1, h2, h3, h4, by rw [flipL_len]; exact e, fun z hz => h6 z (flipL_mem (by omega) hz)⟩

theorem implFlip_ok (k d : Int) (Wd Hi : Nat) (ca : Option Addr) (cn cc : Nat) (pa : Option Addr) (pn pc : Nat) (cs ps : List Int) (w : World) (hc : Ints w ca cs) (hcn : cs.length = cn) (hcl : cn ≤ 1000) (hp : Ints w pa ps) (hpn : ps.length = pn) (hok : Im.okB k d Wd Hi cs ps = true) :
    Calls Tryz.prog 9 #[.agg #[.int .i64 k, .int .i64 d, .int .i64 (Wd : Int), .int .i64 (Hi : Int), .slice ca cn cc, .slice pa pn pc]] w fun e w' => (∃ x cx y cy, e = .returned (.agg #[.int .i64 k, .int .i64 d, .int .i64 (Wd : Int), .int .i64 (Hi : Int), .slice x cn cx, .slice y pn cy]) ∧ Ints w' x cs ∧ Ints w' y (flipL Wd Hi ps)) ∧ Below w.heap.size w w' := by
  obtain ⟨_, hw, hh, _, hm, _⟩ := ok_open hok
  have e : ((Wd * Hi : Nat) : Int) = (Wd : Int) * (Hi : Int) := by simp
  have hmm : pn = Wd * Hi := by omega
  have hmul : Wd * Hi ≤ 20 * 20 := Nat.mul_le_mul (by omega) (by omega)
  have hO := impl_imageOk k d Wd Hi ca cn cc pa pn pc ((w.alloc (.cells #[.int .i64 k, .int .i64 d, .int .i64 (Wd : Int), .int .i64 (Hi : Int), .slice ca cn cc, .slice pa pn pc] 25)).alloc (.cells #[.int .i64 0, .int .i64 0, .int .i64 0, .int .i64 0, .slice none 0 0, .slice none 0 0] 25)) cs ps (hc.kept (below_two _ _ _)) hcn (by omega) (hp.kept (below_two _ _ _)) hpn (by omega)
  rw [hok] at hO
  refine (impl_flip_yes k d Wd Hi ca cn cc pa pn pc cs ps w hc hcn (by omega) hp hpn (by omega) (by omega) hmm hO).mono ?_
  rintro e w' ⟨⟨x, cx, y, cy, rfl, hT⟩, b⟩
  rw [hmm]
  exact ⟨⟨x, cx, y, cy, rfl, (hT.two b.size).ints.1, (hT.two b.size).ints.2⟩, b⟩
end Go.Proofs.YteldjmocbbbinaaGreatDoor
