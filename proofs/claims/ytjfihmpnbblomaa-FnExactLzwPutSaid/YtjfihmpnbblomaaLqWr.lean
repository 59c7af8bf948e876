/- The writer of LZW in memory: put. -/
import Derived.Test.YtjfihmpnbblomaaLzSmall
import Derived.Test.YtjfihmpnbblomaaEachReg
import Derived.Test.YtjfihmpnbblomaaBitOwn
import Derived.Test.YtjfihmpnbblomaaLzKeep
import Derived.Test.YtjfihmpnbblomaaLqMap
import Derived.Deep.Quiet
namespace Go.Proofs.Ytjfihmpnbblomaa
open Go.RowKit Go.Maps

/-- the writer in block B -/
def Wr (w : World) (B b : Nat) (wide : Bool) (mv : Value) (since : Nat) (ov : Value) : Prop :=
  w.heap[B]? = some (.cells #[.int .i64 (b : Int), .bool wide, mv, .int .i64 (since : Int), ov] 63 (0, 0))
theorem Wr.lt {w : World} {B b since : Nat} {wide : Bool} {mv ov : Value} (h : Wr w B b wide mv since ov) : B < w.heap.size := (Array.getElem?_eq_some_iff.1 h).1
theorem Wr.cell {w : World} {B b since : Nat} {wide : Bool} {mv ov : Value} (h : Wr w B b wide mv since ov) (i : Nat) : w.cell? ⟨B, i, none⟩ = (#[Value.int .i64 (b : Int), .bool wide, mv, .int .i64 (since : Int), ov])[i]? := by
  simp [World.cell?, show w.heap[B]? = _ from h]
theorem Wr.free {w : World} {B b since : Nat} {wide : Bool} {mv ov : Value} (h : Wr w B b wide mv since ov) (i : Nat) : w.frozen? ⟨B, i, none⟩ = false := by
  simp [World.frozen?, show w.heap[B]? = _ from h]
theorem Wr.same {w w' : World} {B b since : Nat} {wide : Bool} {mv ov : Value} (h : Wr w B b wide mv since ov) (hb : w'.heap[B]? = w.heap[B]?) : Wr w' B b wide mv since ov := hb.trans h
theorem Wr.set {w : World} {B b since since' : Nat} {wide : Bool} {mv ov mv' ov' u : Value} {i : Nat} (h : Wr w B b wide mv since ov)
    (hi : (#[Value.int .i64 (b : Int), .bool wide, mv, .int .i64 (since : Int), ov]).setIfInBounds i u = #[Value.int .i64 (b : Int), .bool wide, mv', .int .i64 (since' : Int), ov']) : Wr (w.setCell ⟨B, i, none⟩ u) B b wide mv' since' ov' := by
  unfold Wr
  rw [setCell_eq_setRow w B i _ _ (0, 0) _ h, hi]
  exact setRow_heap w B _ _ _ _ h
theorem Wr.apart {w : World} {B b since lo n z e : Nat} {wide : Bool} {mv ov v : Value} {l : List Value} (h : Wr w B b wide mv since ov) (ho : w.ownsRow lo e z v n l) (hne : e ≠ 63) : v.ownBlock ≠ some B := fun hk => by
  rcases ho.2 with ⟨rfl, _⟩ | ⟨g, cap, cur, rfl, _, hg, _⟩
  · cases hk
  · have e : g = B := by cases hk; rfl
    subst e
    rw [show w.heap[g]? = _ from h] at hg
    cases hg
    exact hne rfl
/-- the state told while a region runs -/
def WrT (w : World) (B b : Nat) (wide : Bool) (mv : Value) (since : Nat) (ov : Value) (wy : World) : Prop := Wr wy B b wide mv since ov ∧ Below w.heap.size w wy
theorem WrT.kept {w wy wz : World} {B b since : Nat} {wide : Bool} {mv ov : Value} (h : WrT w B b wide mv since ov wy) (hb : Below wy.heap.size wy wz) : WrT w B b wide mv since ov wz := ⟨h.1.same (hb.block _ h.1.lt), h.2.trans (hb.mono h.2.size)⟩
theorem WrT.new {w : World} {B b since : Nat} {wide : Bool} {mv ov : Value} (h : Wr w B b wide mv since ov) : WrT w B b wide mv since ov w.drew := ⟨h, (Below.refl _ _).drew⟩

/-- what a put turns: the writer, the row of bits, new blocks -/
structure WrG (B : Nat) (ov : Value) (w w' : World) : Prop where
  os : w'.os = w.os
  tape : w'.tape = w.tape
  output : w'.output = w.output
  size : w.heap.size ≤ w'.heap.size
  block : ∀ k, k < w.heap.size → k ≠ B → some k ≠ ov.ownBlock → w'.heap[k]? = w.heap[k]?
theorem WrG.set {B : Nat} {ov : Value} {w w' : World} (h : WrG B ov w w') (i : Nat) (v : Value) : WrG B ov w (w'.setCell ⟨B, i, none⟩ v) :=
  ⟨h.os, h.tape, h.output, by rw [World.size_setCell]; exact h.size, fun k hk hB ho => (Below.heap_setCell w' ⟨B, i, none⟩ v k hB).trans (h.block k hk hB ho)⟩
theorem WrG.below {B base : Nat} {ov : Value} {w w' W : World} (h : WrG B ov w w') (hb : Below base W w) (hB : base ≤ B) (hs : base ≤ w.heap.size) (ho : ∀ k, ov.ownBlock = some k → base ≤ k) : Below base W w' :=
  hb.trans ⟨h.os, h.tape, h.output, h.size, fun k hk => h.block k (by omega) (by omega) (fun e => by have := ho k e.symm; omega)⟩

/-- one pair in a block of its own -/
def LayP (v : Value) (w : World) (x : Int × Int) : Prop := ∃ b : Nat, v = .slice (some ⟨b, 0, none⟩) 1 1 ∧ w.cell? ⟨b, 0, none⟩ = some (.int .i64 x.1) ∧ w.cell? ⟨b, 1, none⟩ = some (.int .i64 x.2)
theorem LayP.kept {v : Value} {w w' : World} {x : Int × Int} (h : LayP v w x) (hb : Below w.heap.size w w') : LayP v w' x := by
  obtain ⟨b, h1, h2, h3⟩ := h
  have hlt := World.block_lt_of_cell? w _ h2
  exact ⟨b, h1, (hb.cell (p := ⟨b, 0, none⟩) hlt).trans h2, (hb.cell (p := ⟨b, 1, none⟩) hlt).trans h3⟩
theorem layP_new (w : World) (x : Int × Int) : LayP (.slice (some ⟨w.heap.size, 0, none⟩) 1 1) (w.alloc (.cells #[.int .i64 x.1, .int .i64 x.2] 94)) x := ⟨w.heap.size, rfl, by simp, by simp⟩
theorem step_appP {ops : Array Oper} {o : Oper} {a : Act} {K : Act → World → Prop} {Q : Exit → Act → World → Prop} {E : Prop} (w : World) (hgd : o.guard = none) (s x : Operand)
    (ho : o.op = .call { callee := .builtin .append, args := #[s, x], argTypes := #[61, 61] })
    (base : Nat) (v : Value) (n : Nat) (l : List (Int × Int)) (z : Int × Int) (b : Nat) (hs : a.eval s = v) (hown : OwnP w base v n l) (hx : a.eval x = .slice (some ⟨b, 0, none⟩) 1 1) (hc : w.cell? ⟨b, 0, none⟩ = some (.int .i64 z.1)) (hc1 : w.cell? ⟨b, 1, none⟩ = some (.int .i64 z.2)) (hn : n ≤ 2000000) (hb : base ≤ w.heap.size)
    (h : ∀ g cap w', OwnP w' base (.slice (some ⟨g, 0, none⟩) (n + 1) cap) (n + 1) (l ++ [z]) → Grew base w w' v g → K (a.put o.dst (.slice (some ⟨g, 0, none⟩) (n + 1) cap)) w') :
    if Region.wanted o (yielded ops a.tmps) = true then Oper.wp Try.prog o a w K Q else E := by
  obtain ⟨i0, hi0, hz0, hz1, hz2⟩ := info_parts info_bit
  refine step_append_lies _ hgd s x _ ho base 94 i0 (.agg #[.int .i64 0, .int .i64 0]) 2 16 Try.underlying61 hi0 hz0 hz1 hz2 rfl (by decide) v n (cellsOf l) hs hown ⟨b, 0, none⟩ 1 1 [.int .i64 z.1, .int .i64 z.2] hx rfl ?_ (fun u hu => by simp at hu; rcases hu with rfl | rfl <;> rfl) (by decide) (by unfold maxLen; omega) (by omega) hb _ rfl ?_
  · intro j u hj
    match j, hj with
    | 0, hj => simp at hj; subst hj; simpa [Addr.add] using hc
    | 1, hj => simp at hj; subst hj; simpa [Addr.add] using hc1
  · intro g cap w' hown' hg hat hlt
    exact h g cap w' (OwnP.more hown') (Grew.of2 hown hg hat hlt)

set_option linter.unusedSimpArgs false in
set_option linter.unusedVariables false in
set_option maxHeartbeats 2000000 in
set_option maxRecDepth 20000 in
theorem wrPut (B b since n lo : Nat) (wide : Bool) (mv ov : Value) (v : Int) (out : List (Int × Int)) (C : Int × Int) (w : World) (hb : b ≤ 8) (h : Wr w B b wide mv since ov) (ho : OwnP w lo ov n out) (hlo : lo ≤ w.heap.size) (hn : n ≤ 100000) (hs : since ≤ 4200) (hC : C = (v, (Lz.width b wide (2 ^ b + 2 + (since - 1)) : Int))) :
    Calls Try.prog 40 #[.pointer (some ⟨B, 0, none⟩), .int .i64 v] w fun e w' => e = .returned (.tuple #[]) ∧ ∃ g cap, Wr w' B b wide mv (since + 1) (.slice (some ⟨g, 0, none⟩) (n + 1) cap) ∧ OwnP w' lo (.slice (some ⟨g, 0, none⟩) (n + 1) cap) (n + 1) (out ++ [C]) ∧ WrG B ov w w' := by
  have hpw := Lz.pow_le hb
  have HFI : Hid (∀ w', Calls Try.prog 58 #[.agg #[.int .i64 (b : Int), .bool wide]] w' fun e w'' => e = .returned (.int .i64 ((2 ^ b + 2 : Nat) : Int)) ∧ Below w'.heap.size w' w'') := fun w' => lzFirst_any b hb wide w'
  obtain ⟨K0, hK0⟩ : ∃ K0 : Nat, K0 = 2 ^ b + 2 + (since - 1) := ⟨_, rfl⟩
  have HWI : Hid (∀ w', Calls Try.prog 59 #[.agg #[.int .i64 (b : Int), .bool wide], .int .i64 (K0 : Int)] w' fun e w'' => e = .returned (.int .i64 (Lz.width b wide K0 : Int)) ∧ Below w'.heap.size w' w'') := fun w' => lzWidth_any b K0 hb (by omega) wide w'
  obtain ⟨W0, hW0⟩ : ∃ W0, W0 = Lz.width b wide K0 := ⟨_, rfl⟩
  rw [← hW0] at HWI
  have hC2 : C = (v, (W0 : Int)) := by rw [hC, hW0, hK0]
  obtain ⟨F, hF⟩ : ∃ F : Nat, F = 2 ^ b + 2 := ⟨_, rfl⟩
  rw [← hF] at HFI
  obtain ⟨M, hM⟩ : ∃ M : Nat, M = since - 1 := ⟨_, rfl⟩
  have eK : (F : Int) + (M : Int) = (K0 : Int) := by omega
  have eM : (if (since : Int) - 1 < 0 then 0 else (since : Int) - 1) = (M : Int) := by split <;> omega
  have wS : IntKind.i64.wrap ((since : Int) - 1) = (since : Int) - 1 := by
    by_cases h0 : since = 0
    · subst h0; rfl
    · have e := wrap_i64_nat (since - 1) (by omega)
      rw [show (((since - 1 : Nat)) : Int) = (since : Int) - 1 by omega] at e
      exact e
  have wK : IntKind.i64.wrap (K0 : Int) = (K0 : Int) := wrap_i64_nat K0 (by omega)
  have hsb : (since : Int) ≤ 4200 := by omega
  have HOP : Hid (OwnP w lo ov n out) := ho
  have HL : Hid (Wr w B b wide mv since ov) := h
  have HCC : Hid (C = (v, (W0 : Int))) := hC2
  obtain ⟨ao, ocap, rfl⟩ : ∃ ao ocap, ov = .slice ao n ocap := by
    rcases ho.2 with ⟨rfl, h0⟩ | ⟨g', cap', cur, rfl, _⟩
    · exact ⟨none, 0, by rw [h0]⟩
    · exact ⟨_, _, rfl⟩
  clear hC hC2 hW0 hF hK0 hM h ho
  go_enter Try.func40, Try.ntmps40
  go_wp2_with fail
  refine wp_region_told (S := (fun wy => WrT w B b wide mv since (.slice ao n ocap) wy)) 12 41 [.is (.pointer (some ⟨B, 0, none⟩)), .is (.pointer (some ⟨B, 0, none⟩)), .is (.pointer (some ⟨B, 0, none⟩)), .is (.agg #[.int .i64 (b : Int), .bool wide]), .is (.int .i64 (F : Int)), .is (.pointer (some ⟨B, 0, none⟩)), .is (.pointer (some ⟨B, 0, none⟩)), .is (.pointer (some ⟨B, 3, none⟩)), .is (.int .i64 (since : Int)), .is (.int .i64 ((since : Int) - 1)), .is (.int .i64 (M : Int)), .is (.int .i64 (K0 : Int))] (by kernel_rfl) (by kernel_rfl) (by rfl) (fun _ _ _ _ hd h => ⟨hd.trans h.1, h.2⟩) (fun vs => by simp only [puts, List.getElem?_toArray, List.getElem?_cons_succ, List.getElem?_cons_zero, Option.bind_some, Act.put, List.setIfInBounds_toArray, List.set_cons_zero, List.set_cons_succ]; exact rfl) (WrT.new HL.out) ?_ ?_
  · refine TellsFrom.cons rfl (fun vs wz hS hd K hK => ?_) ?_
    · try dsimp only at hK ⊢
      try simp only [List.getElem_toArray, List.getElem_cons_succ, List.getElem_cons_zero, Act.put, List.setIfInBounds_toArray, List.set_cons_zero, List.set_cons_succ]
      have s0 := hS.1.cell 0
      have s1 := hS.1.cell 1
      have s3 := hS.1.cell 3
      have s4 := hS.1.cell 4
      simp at s0 s1 s3 s4
      go_simp
      exact hK.out _ _ hS (Below.refl _ _) rfl
    refine TellsFrom.cons rfl (fun vs wz hS hd K hK => ?_) ?_
    · try dsimp only at hK ⊢
      have h0 : vs 0 = (.pointer (some ⟨B, 0, none⟩)) := hd 0 (by kernel_rfl)
      generalize vs 0 = x0 at *
      subst h0
      try simp only [List.getElem_toArray, List.getElem_cons_succ, List.getElem_cons_zero, Act.put, List.setIfInBounds_toArray, List.set_cons_zero, List.set_cons_succ]
      have s0 := hS.1.cell 0
      have s1 := hS.1.cell 1
      have s3 := hS.1.cell 3
      have s4 := hS.1.cell 4
      simp at s0 s1 s3 s4
      go_simp
      exact hK.out _ _ hS (Below.refl _ _) rfl
    refine TellsFrom.cons rfl (fun vs wz hS hd K hK => ?_) ?_
    · try dsimp only at hK ⊢
      have h1 : vs 1 = (.pointer (some ⟨B, 0, none⟩)) := hd 1 (by kernel_rfl)
      generalize vs 1 = x1 at *
      subst h1
      try simp only [List.getElem_toArray, List.getElem_cons_succ, List.getElem_cons_zero, Act.put, List.setIfInBounds_toArray, List.set_cons_zero, List.set_cons_succ]
      have s0 := hS.1.cell 0
      have s1 := hS.1.cell 1
      have s3 := hS.1.cell 3
      have s4 := hS.1.cell 4
      simp at s0 s1 s3 s4
      go_simp
      exact hK.out _ _ hS (Below.refl _ _) rfl
    refine TellsFrom.cons rfl (fun vs wz hS hd K hK => ?_) ?_
    · try dsimp only at hK ⊢
      have h2 : vs 2 = (.pointer (some ⟨B, 0, none⟩)) := hd 2 (by kernel_rfl)
      generalize vs 2 = x2 at *
      subst h2
      try simp only [List.getElem_toArray, List.getElem_cons_succ, List.getElem_cons_zero, Act.put, List.setIfInBounds_toArray, List.set_cons_zero, List.set_cons_succ]
      have s0 := hS.1.cell 0
      have s1 := hS.1.cell 1
      have s3 := hS.1.cell 3
      have s4 := hS.1.cell 4
      simp at s0 s1 s3 s4
      go_simp
      exact hK.out _ _ hS (Below.refl _ _) rfl
    refine TellsFrom.cons rfl (fun vs wz hS hd K hK => ?_) ?_
    · try dsimp only at hK ⊢
      have h3 : vs 3 = (.agg #[.int .i64 (b : Int), .bool wide]) := hd 3 (by kernel_rfl)
      generalize vs 3 = x3 at *
      subst h3
      try simp only [List.getElem_toArray, List.getElem_cons_succ, List.getElem_cons_zero, Act.put, List.setIfInBounds_toArray, List.set_cons_zero, List.set_cons_succ]
      go_simp
      refine (HFI.out _).mono ?_
      rintro e v1 ⟨rfl, b1⟩
      exact hK.out _ _ (hS.kept b1) b1 rfl
    refine TellsFrom.cons rfl (fun vs wz hS hd K hK => ?_) ?_
    · try dsimp only at hK ⊢
      try simp only [List.getElem_toArray, List.getElem_cons_succ, List.getElem_cons_zero, Act.put, List.setIfInBounds_toArray, List.set_cons_zero, List.set_cons_succ]
      have s0 := hS.1.cell 0
      have s1 := hS.1.cell 1
      have s3 := hS.1.cell 3
      have s4 := hS.1.cell 4
      simp at s0 s1 s3 s4
      go_simp
      exact hK.out _ _ hS (Below.refl _ _) rfl
    refine TellsFrom.cons rfl (fun vs wz hS hd K hK => ?_) ?_
    · try dsimp only at hK ⊢
      have h5 : vs 5 = (.pointer (some ⟨B, 0, none⟩)) := hd 5 (by kernel_rfl)
      generalize vs 5 = x5 at *
      subst h5
      try simp only [List.getElem_toArray, List.getElem_cons_succ, List.getElem_cons_zero, Act.put, List.setIfInBounds_toArray, List.set_cons_zero, List.set_cons_succ]
      have s0 := hS.1.cell 0
      have s1 := hS.1.cell 1
      have s3 := hS.1.cell 3
      have s4 := hS.1.cell 4
      simp at s0 s1 s3 s4
      go_simp
      exact hK.out _ _ hS (Below.refl _ _) rfl
    refine TellsFrom.cons rfl (fun vs wz hS hd K hK => ?_) ?_
    · try dsimp only at hK ⊢
      have h6 : vs 6 = (.pointer (some ⟨B, 0, none⟩)) := hd 6 (by kernel_rfl)
      generalize vs 6 = x6 at *
      subst h6
      try simp only [List.getElem_toArray, List.getElem_cons_succ, List.getElem_cons_zero, Act.put, List.setIfInBounds_toArray, List.set_cons_zero, List.set_cons_succ]
      have s0 := hS.1.cell 0
      have s1 := hS.1.cell 1
      have s3 := hS.1.cell 3
      have s4 := hS.1.cell 4
      simp at s0 s1 s3 s4
      go_simp
      exact hK.out _ _ hS (Below.refl _ _) rfl
    refine TellsFrom.cons rfl (fun vs wz hS hd K hK => ?_) ?_
    · try dsimp only at hK ⊢
      have h7 : vs 7 = (.pointer (some ⟨B, 3, none⟩)) := hd 7 (by kernel_rfl)
      generalize vs 7 = x7 at *
      subst h7
      try simp only [List.getElem_toArray, List.getElem_cons_succ, List.getElem_cons_zero, Act.put, List.setIfInBounds_toArray, List.set_cons_zero, List.set_cons_succ]
      have s0 := hS.1.cell 0
      have s1 := hS.1.cell 1
      have s3 := hS.1.cell 3
      have s4 := hS.1.cell 4
      simp at s0 s1 s3 s4
      go_simp
      exact hK.out _ _ hS (Below.refl _ _) rfl
    refine TellsFrom.cons rfl (fun vs wz hS hd K hK => ?_) ?_
    · try dsimp only at hK ⊢
      have h8 : vs 8 = (.int .i64 (since : Int)) := hd 8 (by kernel_rfl)
      generalize vs 8 = x8 at *
      subst h8
      try simp only [List.getElem_toArray, List.getElem_cons_succ, List.getElem_cons_zero, Act.put, List.setIfInBounds_toArray, List.set_cons_zero, List.set_cons_succ]
      have s0 := hS.1.cell 0
      have s1 := hS.1.cell 1
      have s3 := hS.1.cell 3
      have s4 := hS.1.cell 4
      simp at s0 s1 s3 s4
      go_simp
      exact hK.out _ _ hS (Below.refl _ _) rfl
    refine TellsFrom.cons rfl (fun vs wz hS hd K hK => ?_) ?_
    · try dsimp only at hK ⊢
      have h9 : vs 9 = (.int .i64 ((since : Int) - 1)) := hd 9 (by kernel_rfl)
      generalize vs 9 = x9 at *
      subst h9
      try simp only [List.getElem_toArray, List.getElem_cons_succ, List.getElem_cons_zero, Act.put, List.setIfInBounds_toArray, List.set_cons_zero, List.set_cons_succ]
      have s0 := hS.1.cell 0
      have s1 := hS.1.cell 1
      have s3 := hS.1.cell 3
      have s4 := hS.1.cell 4
      simp at s0 s1 s3 s4
      go_simp
      first | exact hK.out _ _ hS (Below.refl _ _) rfl | (rw [eM]; exact hK.out _ _ hS (Below.refl _ _) rfl)
    refine TellsFrom.cons rfl (fun vs wz hS hd K hK => ?_) ?_
    · try dsimp only at hK ⊢
      have h4 : vs 4 = (.int .i64 (F : Int)) := hd 4 (by kernel_rfl)
      generalize vs 4 = x4 at *
      subst h4
      have h10 : vs 10 = (.int .i64 (M : Int)) := hd 10 (by kernel_rfl)
      generalize vs 10 = x10 at *
      subst h10
      try simp only [List.getElem_toArray, List.getElem_cons_succ, List.getElem_cons_zero, Act.put, List.setIfInBounds_toArray, List.set_cons_zero, List.set_cons_succ]
      have s0 := hS.1.cell 0
      have s1 := hS.1.cell 1
      have s3 := hS.1.cell 3
      have s4 := hS.1.cell 4
      simp at s0 s1 s3 s4
      go_simp
      exact hK.out _ _ hS (Below.refl _ _) rfl
    exact TellsFrom.nil
  · intro vs wz hS hd
    try dsimp only
    have h11 : vs 11 = .int .i64 (K0 : Int) := hd 11 (by omega)
    clear hd
    generalize vs 0 = y0 at *
    generalize vs 1 = y1 at *
    generalize vs 2 = y2 at *
    generalize vs 3 = y3 at *
    generalize vs 4 = y4 at *
    generalize vs 5 = y5 at *
    generalize vs 6 = y6 at *
    generalize vs 7 = y7 at *
    generalize vs 8 = y8 at *
    generalize vs 9 = y9 at *
    generalize vs 10 = y10 at *
    generalize vs 11 = y11 at *
    subst h11
    have HW1 : Hid (WrT w B b wide mv since (.slice ao n ocap) wz) := hS
    clear hS
    refine wpAnyH_take (i := 12) (v := .int .i64 (K0 : Int)) rfl (by kernel_rfl) (by kernel_rfl) (by kernel_rfl) (fun _ _ _ h => h) (Or.inl ⟨by rfl, ?_⟩) trivial ?_
    · intro wy _
      go_simp
    try simp only [List.getElem_toArray, List.getElem_cons_succ, List.getElem_cons_zero, Act.put, List.setIfInBounds_toArray, List.set_cons_zero, List.set_cons_succ]
    refine wpAnyH_done (by kernel_rfl) ?_ _
    try simp only [List.getElem_toArray, List.getElem_cons_succ, List.getElem_cons_zero, Act.put, List.setIfInBounds_toArray, List.set_cons_zero, List.set_cons_succ]
    obtain ⟨w1, hw1⟩ : ∃ w1, w1 = wz := ⟨_, rfl⟩
    rw [← hw1] at HW1 ⊢
    clear hw1
    have HG1 : Hid (Below w.heap.size w w1) := HW1.out.2
    have HOP1 : Hid (OwnP w1 lo (.slice ao n ocap) n out) := ownsRow_besides HOP.out (fun k hk => HG1.out.block k (World.ownsRow.lt HOP.out k hk).2)
    have hlo1 : lo ≤ w1.heap.size := Nat.le_trans hlo HG1.out.size
    go_wp2_with fail
    refine wp_region_any (by kernel_rfl) ?_
    refine wpAny_take (i := 0) (v := (.pointer (some ⟨B, 0, none⟩))) rfl (by kernel_rfl) (by kernel_rfl) (by kernel_rfl) (fun _ _ _ h => h) (Or.inl ⟨by rfl, ?_⟩) ?_
    · intro wy
      go_simp
    try simp only [List.getElem_toArray, List.getElem_cons_succ, List.getElem_cons_zero, Act.put, List.setIfInBounds_toArray, List.set_cons_zero, List.set_cons_succ]
    refine wpAny_told (S := (fun wy => WrT w1 B b wide mv since (.slice ao n ocap) wy)) [0] 14 41 [.is (.pointer (some ⟨B, 0, none⟩)), .is (.pointer (some ⟨B, 0, none⟩)), .is (.pointer (some ⟨B, 0, none⟩)), .is (.pointer (some ⟨B, 4, none⟩)), .is (.slice ao n ocap), .is (.int .i64 v), .is (.pointer (some ⟨B, 0, none⟩)), .is (.pointer (some ⟨B, 0, none⟩)), .is (.pointer (some ⟨B, 0, none⟩)), .is (.agg #[.int .i64 (b : Int), .bool wide]), .is (.int .i64 (K0 : Int)), .is (.int .i64 (W0 : Int)), .is (.agg #[.int .i64 v, .int .i64 (W0 : Int)]), .own (fun v w => LayP v w C) (fun _ _ _ b h => h.kept b)] (fun j => if j = 0 then (.pointer (some ⟨B, 0, none⟩)) else undef) (by kernel_rfl) (by kernel_rfl) (by kernel_rfl) (by kernel_rfl) (by kernel_rfl) (by rfl) (fun _ _ _ _ hd h => ⟨hd.trans h.1, h.2⟩) (by kernel_rfl) (fun j hj => by simp only [List.mem_cons, List.not_mem_nil, or_false] at hj; rcases hj with rfl <;> rfl) (fun vs => by simp only [puts, List.getElem?_toArray, List.getElem?_cons_succ, List.getElem?_cons_zero, Option.bind_some, Act.put, List.setIfInBounds_toArray, List.set_cons_zero, List.set_cons_succ]; exact rfl) (WrT.new HW1.out.1) ?_ ?_
    · refine TellsFrom.cons rfl (fun vs wz hS hd K hK => ?_) ?_
      · try dsimp only at hK ⊢
        try simp only [List.getElem_toArray, List.getElem_cons_succ, List.getElem_cons_zero, Act.put, List.setIfInBounds_toArray, List.set_cons_zero, List.set_cons_succ]
        have s0 := hS.1.cell 0
        have s1 := hS.1.cell 1
        have s3 := hS.1.cell 3
        have s4 := hS.1.cell 4
        simp at s0 s1 s3 s4
        go_simp
        exact hK.out _ _ hS (Below.refl _ _) rfl
      refine TellsFrom.cons rfl (fun vs wz hS hd K hK => ?_) ?_
      · try dsimp only at hK ⊢
        try simp only [List.getElem_toArray, List.getElem_cons_succ, List.getElem_cons_zero, Act.put, List.setIfInBounds_toArray, List.set_cons_zero, List.set_cons_succ]
        have s0 := hS.1.cell 0
        have s1 := hS.1.cell 1
        have s3 := hS.1.cell 3
        have s4 := hS.1.cell 4
        simp at s0 s1 s3 s4
        go_simp
        exact hK.out _ _ hS (Below.refl _ _) rfl
      refine TellsFrom.cons rfl (fun vs wz hS hd K hK => ?_) ?_
      · try dsimp only at hK ⊢
        have h1 : vs 1 = (.pointer (some ⟨B, 0, none⟩)) := hd 1 (by kernel_rfl)
        generalize vs 1 = x1 at *
        subst h1
        try simp only [List.getElem_toArray, List.getElem_cons_succ, List.getElem_cons_zero, Act.put, List.setIfInBounds_toArray, List.set_cons_zero, List.set_cons_succ]
        have s0 := hS.1.cell 0
        have s1 := hS.1.cell 1
        have s3 := hS.1.cell 3
        have s4 := hS.1.cell 4
        simp at s0 s1 s3 s4
        go_simp
        exact hK.out _ _ hS (Below.refl _ _) rfl
      refine TellsFrom.cons rfl (fun vs wz hS hd K hK => ?_) ?_
      · try dsimp only at hK ⊢
        have h2 : vs 2 = (.pointer (some ⟨B, 0, none⟩)) := hd 2 (by kernel_rfl)
        generalize vs 2 = x2 at *
        subst h2
        try simp only [List.getElem_toArray, List.getElem_cons_succ, List.getElem_cons_zero, Act.put, List.setIfInBounds_toArray, List.set_cons_zero, List.set_cons_succ]
        have s0 := hS.1.cell 0
        have s1 := hS.1.cell 1
        have s3 := hS.1.cell 3
        have s4 := hS.1.cell 4
        simp at s0 s1 s3 s4
        go_simp
        exact hK.out _ _ hS (Below.refl _ _) rfl
      refine TellsFrom.cons rfl (fun vs wz hS hd K hK => ?_) ?_
      · try dsimp only at hK ⊢
        have h3 : vs 3 = (.pointer (some ⟨B, 4, none⟩)) := hd 3 (by kernel_rfl)
        generalize vs 3 = x3 at *
        subst h3
        try simp only [List.getElem_toArray, List.getElem_cons_succ, List.getElem_cons_zero, Act.put, List.setIfInBounds_toArray, List.set_cons_zero, List.set_cons_succ]
        have s0 := hS.1.cell 0
        have s1 := hS.1.cell 1
        have s3 := hS.1.cell 3
        have s4 := hS.1.cell 4
        simp at s0 s1 s3 s4
        go_simp
        exact hK.out _ _ hS (Below.refl _ _) rfl
      refine TellsFrom.cons rfl (fun vs wz hS hd K hK => ?_) ?_
      · try dsimp only at hK ⊢
        try simp only [List.getElem_toArray, List.getElem_cons_succ, List.getElem_cons_zero, Act.put, List.setIfInBounds_toArray, List.set_cons_zero, List.set_cons_succ]
        have s0 := hS.1.cell 0
        have s1 := hS.1.cell 1
        have s3 := hS.1.cell 3
        have s4 := hS.1.cell 4
        simp at s0 s1 s3 s4
        go_simp
        exact hK.out _ _ hS (Below.refl _ _) rfl
      refine TellsFrom.cons rfl (fun vs wz hS hd K hK => ?_) ?_
      · try dsimp only at hK ⊢
        try simp only [List.getElem_toArray, List.getElem_cons_succ, List.getElem_cons_zero, Act.put, List.setIfInBounds_toArray, List.set_cons_zero, List.set_cons_succ]
        have s0 := hS.1.cell 0
        have s1 := hS.1.cell 1
        have s3 := hS.1.cell 3
        have s4 := hS.1.cell 4
        simp at s0 s1 s3 s4
        go_simp
        exact hK.out _ _ hS (Below.refl _ _) rfl
      refine TellsFrom.cons rfl (fun vs wz hS hd K hK => ?_) ?_
      · try dsimp only at hK ⊢
        have h6 : vs 6 = (.pointer (some ⟨B, 0, none⟩)) := hd 6 (by kernel_rfl)
        generalize vs 6 = x6 at *
        subst h6
        try simp only [List.getElem_toArray, List.getElem_cons_succ, List.getElem_cons_zero, Act.put, List.setIfInBounds_toArray, List.set_cons_zero, List.set_cons_succ]
        have s0 := hS.1.cell 0
        have s1 := hS.1.cell 1
        have s3 := hS.1.cell 3
        have s4 := hS.1.cell 4
        simp at s0 s1 s3 s4
        go_simp
        exact hK.out _ _ hS (Below.refl _ _) rfl
      refine TellsFrom.cons rfl (fun vs wz hS hd K hK => ?_) ?_
      · try dsimp only at hK ⊢
        have h7 : vs 7 = (.pointer (some ⟨B, 0, none⟩)) := hd 7 (by kernel_rfl)
        generalize vs 7 = x7 at *
        subst h7
        try simp only [List.getElem_toArray, List.getElem_cons_succ, List.getElem_cons_zero, Act.put, List.setIfInBounds_toArray, List.set_cons_zero, List.set_cons_succ]
        have s0 := hS.1.cell 0
        have s1 := hS.1.cell 1
        have s3 := hS.1.cell 3
        have s4 := hS.1.cell 4
        simp at s0 s1 s3 s4
        go_simp
        exact hK.out _ _ hS (Below.refl _ _) rfl
      refine TellsFrom.cons rfl (fun vs wz hS hd K hK => ?_) ?_
      · try dsimp only at hK ⊢
        have h8 : vs 8 = (.pointer (some ⟨B, 0, none⟩)) := hd 8 (by kernel_rfl)
        generalize vs 8 = x8 at *
        subst h8
        try simp only [List.getElem_toArray, List.getElem_cons_succ, List.getElem_cons_zero, Act.put, List.setIfInBounds_toArray, List.set_cons_zero, List.set_cons_succ]
        have s0 := hS.1.cell 0
        have s1 := hS.1.cell 1
        have s3 := hS.1.cell 3
        have s4 := hS.1.cell 4
        simp at s0 s1 s3 s4
        go_simp
        exact hK.out _ _ hS (Below.refl _ _) rfl
      refine TellsFrom.cons rfl (fun vs wz hS hd K hK => ?_) ?_
      · try dsimp only at hK ⊢
        try simp only [List.getElem_toArray, List.getElem_cons_succ, List.getElem_cons_zero, Act.put, List.setIfInBounds_toArray, List.set_cons_zero, List.set_cons_succ]
        have s0 := hS.1.cell 0
        have s1 := hS.1.cell 1
        have s3 := hS.1.cell 3
        have s4 := hS.1.cell 4
        simp at s0 s1 s3 s4
        go_simp
        exact hK.out _ _ hS (Below.refl _ _) rfl
      refine TellsFrom.cons rfl (fun vs wz hS hd K hK => ?_) ?_
      · try dsimp only at hK ⊢
        have h9 : vs 9 = (.agg #[.int .i64 (b : Int), .bool wide]) := hd 9 (by kernel_rfl)
        generalize vs 9 = x9 at *
        subst h9
        have h10 : vs 10 = (.int .i64 (K0 : Int)) := hd 10 (by kernel_rfl)
        generalize vs 10 = x10 at *
        subst h10
        try simp only [List.getElem_toArray, List.getElem_cons_succ, List.getElem_cons_zero, Act.put, List.setIfInBounds_toArray, List.set_cons_zero, List.set_cons_succ]
        go_simp
        refine (HWI.out _).mono ?_
        rintro e v1 ⟨rfl, b1⟩
        exact hK.out _ _ (hS.kept b1) b1 rfl
      refine TellsFrom.cons rfl (fun vs wz hS hd K hK => ?_) ?_
      · try dsimp only at hK ⊢
        have h5 : vs 5 = (.int .i64 v) := hd 5 (by kernel_rfl)
        generalize vs 5 = x5 at *
        subst h5
        have h11 : vs 11 = (.int .i64 (W0 : Int)) := hd 11 (by kernel_rfl)
        generalize vs 11 = x11 at *
        subst h11
        try simp only [List.getElem_toArray, List.getElem_cons_succ, List.getElem_cons_zero, Act.put, List.setIfInBounds_toArray, List.set_cons_zero, List.set_cons_succ]
        have s0 := hS.1.cell 0
        have s1 := hS.1.cell 1
        have s3 := hS.1.cell 3
        have s4 := hS.1.cell 4
        simp at s0 s1 s3 s4
        go_simp
        exact hK.out _ _ hS (Below.refl _ _) rfl
      refine TellsFrom.cons rfl (fun vs wz hS hd K hK => ?_) ?_
      · try dsimp only at hK ⊢
        have h12 : vs 12 = (.agg #[.int .i64 v, .int .i64 (W0 : Int)]) := hd 12 (by kernel_rfl)
        generalize vs 12 = x12 at *
        subst h12
        try simp only [List.getElem_toArray, List.getElem_cons_succ, List.getElem_cons_zero, Act.put, List.setIfInBounds_toArray, List.set_cons_zero, List.set_cons_succ]
        go_simp
        exact hK.out _ _ (hS.kept ((Below.refl _ _).alloc (Nat.le_refl _) _)) ((Below.refl _ _).alloc (Nat.le_refl _) _) (by rw [HCC.out]; exact layP_new wz (v, (W0 : Int)))
      exact TellsFrom.nil
    · intro vs wz hS hd
      try dsimp only
      have h12 : LayP (vs 13) wz C := hd 13 (by omega)
      have h0 : vs 0 = .pointer (some ⟨B, 0, none⟩) := hd 0 (by omega)
      have h4 : vs 4 = .slice ao n ocap := hd 4 (by omega)
      clear hd
      generalize vs 0 = y0 at *
      generalize vs 1 = y1 at *
      generalize vs 2 = y2 at *
      generalize vs 3 = y3 at *
      generalize vs 4 = y4 at *
      generalize vs 5 = y5 at *
      generalize vs 6 = y6 at *
      generalize vs 7 = y7 at *
      generalize vs 8 = y8 at *
      generalize vs 9 = y9 at *
      generalize vs 10 = y10 at *
      generalize vs 11 = y11 at *
      generalize vs 12 = y12 at *
      generalize vs 13 = y13 at *
      subst h0
      subst h4
      obtain ⟨Bn, rfl, hCn, hCn1⟩ := h12
      have HL1 : Hid (Wr wz B b wide mv since (.slice ao n ocap)) := hS.1
      have HB1 : Hid (Below w1.heap.size w1 wz) := hS.2
      clear hS
      refine wpAnyH_ready (rs := [14]) (by kernel_rfl) (by simp) ?_
      refine AllReadyH.cons rfl (fun K hK => ?_) AllReadyH.nil
      refine step_appP wz rfl (.tmp 21) (.tmp 30) rfl lo (.slice ao n ocap) n out C Bn rfl (ownsRow_besides HOP1.out (fun k hk => HB1.out.block k (World.ownsRow.lt HOP1.out k hk).2)) rfl hCn hCn1 (by omega) (Nat.le_trans hlo1 HB1.out.size) ?_
      intro g2 cap2 w2 ho2 hg2
      have hoB : (Value.slice ao n ocap).ownBlock ≠ some B := HL.out.apart HOP.out (by decide)
      have hr2 : Wr w2 B b wide mv since (.slice ao n ocap) := HL1.out.same (hg2.block B HL1.out.lt (fun e => hoB e.symm))
      have hs12 := HB1.out.size
      have hG2 : WrG B (.slice ao n ocap) w w2 := ⟨hg2.os.trans (HB1.out.os.trans HG1.out.os), hg2.tape.trans (HB1.out.tape.trans HG1.out.tape), hg2.output.trans (HB1.out.output.trans HG1.out.output), by have := hg2.size; have := HG1.out.size; omega, fun k hk hkB hko => by
        have := HG1.out.size
        exact (hg2.block k (by omega) hko).trans ((HB1.out.block k (by omega)).trans (HG1.out.block k hk))⟩
      have HO2 : Hid (OwnP w2 lo (.slice (some ⟨g2, 0, none⟩) (n + 1) cap2) (n + 1) (out ++ [C])) := ho2
      have HG2 : Hid (WrG B (.slice ao n ocap) w w2) := hG2
      have HR3 : Hid (Wr (w2.setCell ⟨B, 4, none⟩ (.slice (some ⟨g2, 0, none⟩) (n + 1) cap2)) B b wide mv since (.slice (some ⟨g2, 0, none⟩) (n + 1) cap2)) := hr2.set rfl
      have HO3 : Hid (OwnP (w2.setCell ⟨B, 4, none⟩ (.slice (some ⟨g2, 0, none⟩) (n + 1) cap2)) lo (.slice (some ⟨g2, 0, none⟩) (n + 1) cap2) (n + 1) (out ++ [C])) := ownsRow_besides ho2 (fun k hk => Below.heap_setCell w2 ⟨B, 4, none⟩ _ k (fun e => hr2.apart ho2 (by decide) (by rw [hk]; exact congrArg some e)))
      have d4 := hr2.cell 4
      have df4 := hr2.free 4
      have k3 := HR3.out.cell 3
      have kf3 := HR3.out.free 3
      simp at d4 k3
      clear ho2 hg2 hr2 hG2 hoB hs12 HL HOP HL1 HB1 HOP1
      refine hK.out _ _ trivial (fun _ => ?_)
      clear hK K
      try simp only [List.getElem_toArray, List.getElem_cons_succ, List.getElem_cons_zero, Act.put, List.setIfInBounds_toArray, List.set_cons_zero, List.set_cons_succ]
      refine wpAnyH_take (i := 15) (v := .pointer (some ⟨B, 0, none⟩)) rfl (by kernel_rfl) (by kernel_rfl) (by kernel_rfl) (fun _ _ _ h => h) (Or.inl ⟨by rfl, ?_⟩) trivial ?_
      · intro wy _
        go_simp
      try simp only [List.getElem_toArray, List.getElem_cons_succ, List.getElem_cons_zero, Act.put, List.setIfInBounds_toArray, List.set_cons_zero, List.set_cons_succ]
      refine wpAnyH_take (i := 16) (v := .pointer (some ⟨B, 4, none⟩)) rfl (by kernel_rfl) (by kernel_rfl) (by kernel_rfl) (fun _ _ _ h => h) (Or.inl ⟨by rfl, ?_⟩) trivial ?_
      · intro wy _
        go_simp
      try simp only [List.getElem_toArray, List.getElem_cons_succ, List.getElem_cons_zero, Act.put, List.setIfInBounds_toArray, List.set_cons_zero, List.set_cons_succ]
      refine wpAnyH_ready (rs := [17]) (by kernel_rfl) (by simp) ?_
      refine AllReadyH.cons rfl (fun K hK => ?_) AllReadyH.nil
      go_simp
      refine hK.out _ _ trivial (fun _ => ?_)
      clear hK K
      refine wpAnyH_done (by kernel_rfl) ?_ _
      try simp only [List.getElem_toArray, List.getElem_cons_succ, List.getElem_cons_zero, Act.put, List.setIfInBounds_toArray, List.set_cons_zero, List.set_cons_succ]
      have wP : IntKind.i64.wrap ((since : Int) + 1) = ((since + 1 : Nat) : Int) := by
        have := wrap_i64_nat (since + 1) (by omega)
        simpa using this
      go_wp2_with fail
      go_end0
      refine ⟨rfl, g2, cap2, HR3.out.set (by first | rfl | simp), ?_, (HG2.out.set 4 _).set 3 _⟩
      exact ownsRow_besides HO3.out (fun k hk => Below.heap_setCell _ ⟨B, 3, none⟩ _ k (fun e => HR3.out.apart HO3.out (by decide) (by rw [hk]; exact congrArg some e)))
end Go.Proofs.Ytjfihmpnbblomaa
