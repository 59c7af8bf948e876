/- The reader of LZW in memory; what it forgets, what a number stands for, what it learns. -/
import Derived.Test.YtjfihmpnbblomaaLzSmall
import Derived.Test.YtjfihmpnbblomaaBgMove
import Derived.Test.YtjfihmpnbblomaaEachReg
import Derived.Deep.Quiet
namespace Go.Proofs.Ytjfihmpnbblomaa
open Go.RowKit

theorem toList_len (s : ByteArray) : s.toList.length = s.size := by rw [ByteArray.toList_eq]; exact bytes_len s
theorem empty_of_size {s : ByteArray} (h : s.size = 0) : s = ⟨#[]⟩ := ByteArray.ext (Array.eq_empty_of_size_eq_zero h)
/-- a reader of LZW in block B -/
structure LzR (w : World) (B b : Nat) (wide : Bool) (s : ByteArray) (p : Nat) (tv : Value) (last : ByteArray) (left : Nat) : Prop where
  c0 : w.cell? ⟨B, 0, none⟩ = some (.int .i64 (b : Int))
  c1 : w.cell? ⟨B, 1, none⟩ = some (.bool wide)
  rd : RdsM w B wide s p
  c5 : w.cell? ⟨B, 5, none⟩ = some tv
  c6 : w.cell? ⟨B, 6, none⟩ = some (.string last)
  c7 : w.cell? ⟨B, 7, none⟩ = some (.int .i64 (left : Int))
  f5 : w.frozen? ⟨B, 5, none⟩ = false
  f6 : w.frozen? ⟨B, 6, none⟩ = false
  f7 : w.frozen? ⟨B, 7, none⟩ = false
theorem LzR.lt {w : World} {B b p left : Nat} {wide : Bool} {s last : ByteArray} {tv : Value} (h : LzR w B b wide s p tv last left) : B < w.heap.size := World.block_lt_of_cell? w _ h.c0
theorem LzR.same {w w' : World} {B b p left : Nat} {wide : Bool} {s last : ByteArray} {tv : Value} (h : LzR w B b wide s p tv last left) (hb : w'.heap[B]? = w.heap[B]?) : LzR w' B b wide s p tv last left := by
  have hc : ∀ i, w'.cell? ⟨B, i, none⟩ = w.cell? ⟨B, i, none⟩ := fun i => World.cell?_of_block (w := w) (a := ⟨B, i, none⟩) hb
  have hf : ∀ i, w'.frozen? ⟨B, i, none⟩ = w.frozen? ⟨B, i, none⟩ := fun i => World.frozen?_of_block (w := w) (a := ⟨B, i, none⟩) hb
  exact ⟨(hc _).trans h.c0, (hc _).trans h.c1, ⟨(hc _).trans h.rd.c0, (hc _).trans h.rd.c1, (hc _).trans h.rd.c2, (hf _).trans h.rd.f2⟩, (hc _).trans h.c5, (hc _).trans h.c6, (hc _).trans h.c7, (hf _).trans h.f5, (hf _).trans h.f6, (hf _).trans h.f7⟩
theorem LzR.drew {w : World} {B b p left : Nat} {wide : Bool} {s last : ByteArray} {tv : Value} (h : LzR w B b wide s p tv last left) : LzR w.drew B b wide s p tv last left := h.same rfl
theorem LzR.drewN {w : World} {B b p left : Nat} {wide : Bool} {s last : ByteArray} {tv : Value} (h : LzR w B b wide s p tv last left) (m : Nat) : LzR (w.drewN m) B b wide s p tv last left := h.same rfl
theorem LzR.kept {w w' : World} {B b p left : Nat} {wide : Bool} {s last : ByteArray} {tv : Value} (h : LzR w B b wide s p tv last left) (hb : Below w.heap.size w w') : LzR w' B b wide s p tv last left := h.same (hb.block _ h.lt)
theorem LzR.moved {w w' : World} {B b p q left : Nat} {wide : Bool} {s last : ByteArray} {tv : Value} (h : LzR w B b wide s p tv last left) (hm : Moved B 4 w w') (hr : RdsM w' B wide s q) : LzR w' B b wide s q tv last left :=
  ⟨(hm.cells 0 (by omega)).trans h.c0, (hm.cells 1 (by omega)).trans h.c1, hr, (hm.cells 5 (by omega)).trans h.c5, (hm.cells 6 (by omega)).trans h.c6, (hm.cells 7 (by omega)).trans h.c7, (hm.froz 5).trans h.f5, (hm.froz 6).trans h.f6, (hm.froz 7).trans h.f7⟩
theorem set_off {w : World} {B i j : Nat} {v : Value} (h : j ≠ i) : (w.setCell ⟨B, i, none⟩ v).cell? ⟨B, j, none⟩ = w.cell? ⟨B, j, none⟩ := World.cell?_setCell_other _ _ _ _ (fun e => h (congrArg Addr.off e).symm)
theorem LzR.set5 {w : World} {B b p left : Nat} {wide : Bool} {s last : ByteArray} {tv : Value} (h : LzR w B b wide s p tv last left) (v : Value) : LzR (w.setCell ⟨B, 5, none⟩ v) B b wide s p v last left := by
  refine ⟨(set_off (by omega)).trans h.c0, (set_off (by omega)).trans h.c1, ⟨(set_off (by omega)).trans h.rd.c0, (set_off (by omega)).trans h.rd.c1, (set_off (by omega)).trans h.rd.c2, by rw [World.frozen?_setCell]; exact h.rd.f2⟩, ?_, (set_off (by omega)).trans h.c6, (set_off (by omega)).trans h.c7, ?_, ?_, ?_⟩
  · rw [World.cell?_setCell_same _ _ _ h.c5]
  · rw [World.frozen?_setCell]; exact h.f5
  · rw [World.frozen?_setCell]; exact h.f6
  · rw [World.frozen?_setCell]; exact h.f7
theorem LzR.set6 {w : World} {B b p left : Nat} {wide : Bool} {s last : ByteArray} {tv : Value} (h : LzR w B b wide s p tv last left) (l' : ByteArray) : LzR (w.setCell ⟨B, 6, none⟩ (.string l')) B b wide s p tv l' left := by
  refine ⟨(set_off (by omega)).trans h.c0, (set_off (by omega)).trans h.c1, ⟨(set_off (by omega)).trans h.rd.c0, (set_off (by omega)).trans h.rd.c1, (set_off (by omega)).trans h.rd.c2, by rw [World.frozen?_setCell]; exact h.rd.f2⟩, (set_off (by omega)).trans h.c5, ?_, (set_off (by omega)).trans h.c7, ?_, ?_, ?_⟩
  · rw [World.cell?_setCell_same _ _ _ h.c6]
  · rw [World.frozen?_setCell]; exact h.f5
  · rw [World.frozen?_setCell]; exact h.f6
  · rw [World.frozen?_setCell]; exact h.f7
theorem LzR.set7 {w : World} {B b p left : Nat} {wide : Bool} {s last : ByteArray} {tv : Value} (h : LzR w B b wide s p tv last left) (n : Nat) : LzR (w.setCell ⟨B, 7, none⟩ (.int .i64 (n : Int))) B b wide s p tv last n := by
  refine ⟨(set_off (by omega)).trans h.c0, (set_off (by omega)).trans h.c1, ⟨(set_off (by omega)).trans h.rd.c0, (set_off (by omega)).trans h.rd.c1, (set_off (by omega)).trans h.rd.c2, by rw [World.frozen?_setCell]; exact h.rd.f2⟩, (set_off (by omega)).trans h.c5, (set_off (by omega)).trans h.c6, ?_, ?_, ?_, ?_⟩
  · rw [World.cell?_setCell_same _ _ _ h.c7]
  · rw [World.frozen?_setCell]; exact h.f5
  · rw [World.frozen?_setCell]; exact h.f6
  · rw [World.frozen?_setCell]; exact h.f7

/-- the world behind: only block B and the row of tv have turned, and new blocks came; the row of tv' is that one or a new one -/
structure LzG (B : Nat) (tv tv' : Value) (w w' : World) : Prop where
  os : w'.os = w.os
  tape : w'.tape = w.tape
  output : w'.output = w.output
  size : w.heap.size ≤ w'.heap.size
  block : ∀ k, k < w.heap.size → k ≠ B → some k ≠ tv.ownBlock → w'.heap[k]? = w.heap[k]?
  at_ : tv'.ownBlock = tv.ownBlock ∨ ∀ k, tv'.ownBlock = some k → w.heap.size ≤ k
theorem LzG.refl (B : Nat) (tv : Value) (w : World) : LzG B tv tv w w := ⟨rfl, rfl, rfl, Nat.le_refl _, fun _ _ _ _ => rfl, .inl rfl⟩
theorem LzG.trans {B : Nat} {t1 t2 t3 : Value} {a b c : World} (h : LzG B t1 t2 a b) (g : LzG B t2 t3 b c) : LzG B t1 t3 a c := by
  refine ⟨g.os.trans h.os, g.tape.trans h.tape, g.output.trans h.output, Nat.le_trans h.size g.size, fun k hk hB hne => ?_, ?_⟩
  · have h1 := h.block k hk hB hne
    refine (g.block k (Nat.lt_of_lt_of_le hk h.size) hB (fun e => ?_)).trans h1
    rcases h.at_ with e2 | e2
    · rw [e2] at e; exact hne e
    · have := e2 k e.symm; omega
  · rcases g.at_ with e | e
    · rcases h.at_ with e2 | e2
      · exact .inl (e.trans e2)
      · exact .inr (fun k hk => e2 k (by rw [← e]; exact hk))
    · exact .inr (fun k hk => Nat.le_trans h.size (e k hk))
theorem LzG.of_below {B : Nat} {tv : Value} {w w' : World} (h : Below w.heap.size w w') : LzG B tv tv w w' := ⟨h.os, h.tape, h.output, h.size, fun k hk _ _ => h.block k hk, .inl rfl⟩
theorem LzG.of_turned {B : Nat} {tv : Value} {w w' : World} (h : Turned B w w') : LzG B tv tv w w' := ⟨h.os, h.tape, h.output, by rw [h.size]; exact Nat.le_refl _, fun k _ hB _ => h.rest k hB, .inl rfl⟩
theorem LzG.drewN {B : Nat} {t1 t2 : Value} {w w' : World} (h : LzG B t1 t2 w w') (m : Nat) : LzG B t1 t2 w (w'.drewN m) := ⟨h.os, h.tape, h.output, h.size, h.block, h.at_⟩
theorem LzG.drew {B : Nat} {t1 t2 : Value} {w w' : World} (h : LzG B t1 t2 w w') : LzG B t1 t2 w w'.drew := ⟨h.os, h.tape, h.output, h.size, h.block, h.at_⟩
theorem LzG.set {B : Nat} {t1 t2 : Value} {w w' : World} (h : LzG B t1 t2 w w') (i : Nat) (v : Value) : LzG B t1 t2 w (w'.setCell ⟨B, i, none⟩ v) :=
  h.trans (LzG.of_turned ((Turned.refl B w').set i v))
theorem LzG.swap {B : Nat} {t1 t2 t3 : Value} {w w' : World} (h : LzG B t1 t2 w w') (e : t3.ownBlock = t2.ownBlock) : LzG B t1 t3 w w' := ⟨h.os, h.tape, h.output, h.size, h.block, by rw [e]; exact h.at_⟩
theorem LzG.of_grew {B base g : Nat} {tv tv' : Value} {w w' : World} (h : Grew base w w' tv g) (e : tv'.ownBlock = some g) : LzG B tv tv' w w' := by
  refine ⟨h.os, h.tape, h.output, h.size, fun k hk _ hne => h.block k hk hne, ?_⟩
  rcases h.at_ with e2 | e2
  · exact .inl (e.trans e2.symm)
  · exact .inr (fun k hk => by rw [e] at hk; cases hk; exact e2)
/-- a row keeps its texts where only block B has turned -/
theorem OwnL.turned {w w' : World} {B lo n : Nat} {v : Value} {l : List ByteArray} (h : OwnL w lo v n l) (ht : Turned B w w') (hB : v.ownBlock ≠ some B) : OwnL w' lo v n l :=
  h.kept (fun k hk => ht.rest k (fun e => hB (by rw [hk, e])))
theorem OwnL.up {w w' : World} {lo n : Nat} {v : Value} {l : List ByteArray} (h : OwnL w lo v n l) (hb : Below w.heap.size w w') : OwnL w' lo v n l :=
  h.kept (fun k hk => hb.block k (h.lt k hk).2)

set_option linter.unusedSimpArgs false in
set_option maxHeartbeats 1000000 in
theorem lzForget (B b p left lo n g cap : Nat) (wide : Bool) (s last : ByteArray) (l : List ByteArray) (w : World) (hb : b ≤ 8) (h : LzR w B b wide s p (.slice (some ⟨g, 0, none⟩) n cap) last left) (ho : OwnL w lo (.slice (some ⟨g, 0, none⟩) n cap) n l) (hgB : g ≠ B) (hn : 2 ^ b + 2 ≤ n) (hcap : n ≤ cap) :
    Calls Try.prog 70 #[.pointer (some ⟨B, 0, none⟩)] w fun e w' => e = .returned (.tuple #[]) ∧ LzR w' B b wide s p (.slice (some ⟨g, 0, none⟩) (2 ^ b + 2) cap) ⟨#[]⟩ left ∧ OwnL w' lo (.slice (some ⟨g, 0, none⟩) (2 ^ b + 2) cap) (2 ^ b + 2) (l.take (2 ^ b + 2)) ∧ LzG B (.slice (some ⟨g, 0, none⟩) n cap) (.slice (some ⟨g, 0, none⟩) (2 ^ b + 2) cap) w w' := by
  have HF : Hid (∀ w', Calls Try.prog 58 #[.agg #[.int .i64 (b : Int), .bool wide]] w' fun e w'' => e = .returned (.int .i64 ((2 ^ b + 2 : Nat) : Int)) ∧ Below w'.heap.size w' w'') := fun w' => lzFirst_any b hb wide w'
  have HL : Hid (LzR w B b wide s p (.slice (some ⟨g, 0, none⟩) n cap) last left) := h
  have HO : Hid (OwnL w lo (.slice (some ⟨g, 0, none⟩) n cap) n l) := ho
  have hc0 := h.c0
  have hc1 := h.c1
  have hc5 := h.c5
  have hf5 := h.f5
  clear h ho
  have hpw := Lz.pow_le hb
  generalize 2 ^ b + 2 = M at *
  have hMi : (M : Int) ≤ (cap : Int) := by omega
  have hM0 : (0 : Int) ≤ (M : Int) := by omega
  go_enter Try.func70, Try.ntmps70
  go_wp2_with fail
  refine wp_region_told (S := (fun wy => LzR wy B b wide s p (.slice (some ⟨g, 0, none⟩) n cap) last left ∧ Below w.heap.size w wy)) 13 18 [.is (.pointer (some ⟨B, 0, none⟩)), .is (.pointer (some ⟨B, 0, none⟩)), .is (.pointer (some ⟨B, 0, none⟩)), .is (.pointer (some ⟨B, 5, none⟩)), .is (.slice (some ⟨g, 0, none⟩) n cap), .is (.pointer (some ⟨B, 0, none⟩)), .is (.pointer (some ⟨B, 0, none⟩)), .is (.pointer (some ⟨B, 0, none⟩)), .is (.agg #[.int .i64 (b : Int), .bool wide]), .is (.int .i64 (M : Int)), .is (.slice (some ⟨g, 0, none⟩) M cap), .is (.pointer (some ⟨B, 0, none⟩)), .is (.pointer (some ⟨B, 5, none⟩))] (by kernel_rfl) (by kernel_rfl) (by rfl) (fun _ _ _ _ hd h => ⟨hd.trans h.1, h.2⟩) (fun vs => by simp only [puts, List.getElem?_toArray, List.getElem?_cons_succ, List.getElem?_cons_zero, Option.bind_some, Act.put, List.setIfInBounds_toArray, List.set_cons_zero, List.set_cons_succ]; exact rfl) ⟨HL.out.drew, (Below.refl _ _).drew⟩ ?_ ?_
  · refine TellsFrom.cons rfl (fun vs wz hS hd K hK => ?_) ?_
    · try dsimp only at hK ⊢
      try simp only [List.getElem_toArray, List.getElem_cons_succ, List.getElem_cons_zero, Act.put, List.setIfInBounds_toArray, List.set_cons_zero, List.set_cons_succ]
      have s0 := hS.1.c0
      have s1 := hS.1.c1
      have s5 := hS.1.c5
      go_simp
      exact hK.out _ _ hS (Below.refl _ _) rfl
    refine TellsFrom.cons rfl (fun vs wz hS hd K hK => ?_) ?_
    · try dsimp only at hK ⊢
      try simp only [List.getElem_toArray, List.getElem_cons_succ, List.getElem_cons_zero, Act.put, List.setIfInBounds_toArray, List.set_cons_zero, List.set_cons_succ]
      have s0 := hS.1.c0
      have s1 := hS.1.c1
      have s5 := hS.1.c5
      go_simp
      exact hK.out _ _ hS (Below.refl _ _) rfl
    refine TellsFrom.cons rfl (fun vs wz hS hd K hK => ?_) ?_
    · try dsimp only at hK ⊢
      have h1 : vs 1 = (.pointer (some ⟨B, 0, none⟩)) := hd 1 (by kernel_rfl)
      generalize vs 1 = x1 at *
      subst h1
      try simp only [List.getElem_toArray, List.getElem_cons_succ, List.getElem_cons_zero, Act.put, List.setIfInBounds_toArray, List.set_cons_zero, List.set_cons_succ]
      have s0 := hS.1.c0
      have s1 := hS.1.c1
      have s5 := hS.1.c5
      go_simp
      exact hK.out _ _ hS (Below.refl _ _) rfl
    refine TellsFrom.cons rfl (fun vs wz hS hd K hK => ?_) ?_
    · try dsimp only at hK ⊢
      have h2 : vs 2 = (.pointer (some ⟨B, 0, none⟩)) := hd 2 (by kernel_rfl)
      generalize vs 2 = x2 at *
      subst h2
      try simp only [List.getElem_toArray, List.getElem_cons_succ, List.getElem_cons_zero, Act.put, List.setIfInBounds_toArray, List.set_cons_zero, List.set_cons_succ]
      have s0 := hS.1.c0
      have s1 := hS.1.c1
      have s5 := hS.1.c5
      go_simp
      exact hK.out _ _ hS (Below.refl _ _) rfl
    refine TellsFrom.cons rfl (fun vs wz hS hd K hK => ?_) ?_
    · try dsimp only at hK ⊢
      have h3 : vs 3 = (.pointer (some ⟨B, 5, none⟩)) := hd 3 (by kernel_rfl)
      generalize vs 3 = x3 at *
      subst h3
      try simp only [List.getElem_toArray, List.getElem_cons_succ, List.getElem_cons_zero, Act.put, List.setIfInBounds_toArray, List.set_cons_zero, List.set_cons_succ]
      have s0 := hS.1.c0
      have s1 := hS.1.c1
      have s5 := hS.1.c5
      go_simp
      exact hK.out _ _ hS (Below.refl _ _) rfl
    refine TellsFrom.cons rfl (fun vs wz hS hd K hK => ?_) ?_
    · try dsimp only at hK ⊢
      try simp only [List.getElem_toArray, List.getElem_cons_succ, List.getElem_cons_zero, Act.put, List.setIfInBounds_toArray, List.set_cons_zero, List.set_cons_succ]
      have s0 := hS.1.c0
      have s1 := hS.1.c1
      have s5 := hS.1.c5
      go_simp
      exact hK.out _ _ hS (Below.refl _ _) rfl
    refine TellsFrom.cons rfl (fun vs wz hS hd K hK => ?_) ?_
    · try dsimp only at hK ⊢
      have h5 : vs 5 = (.pointer (some ⟨B, 0, none⟩)) := hd 5 (by kernel_rfl)
      generalize vs 5 = x5 at *
      subst h5
      try simp only [List.getElem_toArray, List.getElem_cons_succ, List.getElem_cons_zero, Act.put, List.setIfInBounds_toArray, List.set_cons_zero, List.set_cons_succ]
      have s0 := hS.1.c0
      have s1 := hS.1.c1
      have s5 := hS.1.c5
      go_simp
      exact hK.out _ _ hS (Below.refl _ _) rfl
    refine TellsFrom.cons rfl (fun vs wz hS hd K hK => ?_) ?_
    · try dsimp only at hK ⊢
      have h6 : vs 6 = (.pointer (some ⟨B, 0, none⟩)) := hd 6 (by kernel_rfl)
      generalize vs 6 = x6 at *
      subst h6
      try simp only [List.getElem_toArray, List.getElem_cons_succ, List.getElem_cons_zero, Act.put, List.setIfInBounds_toArray, List.set_cons_zero, List.set_cons_succ]
      have s0 := hS.1.c0
      have s1 := hS.1.c1
      have s5 := hS.1.c5
      go_simp
      exact hK.out _ _ hS (Below.refl _ _) rfl
    refine TellsFrom.cons rfl (fun vs wz hS hd K hK => ?_) ?_
    · try dsimp only at hK ⊢
      have h7 : vs 7 = (.pointer (some ⟨B, 0, none⟩)) := hd 7 (by kernel_rfl)
      generalize vs 7 = x7 at *
      subst h7
      try simp only [List.getElem_toArray, List.getElem_cons_succ, List.getElem_cons_zero, Act.put, List.setIfInBounds_toArray, List.set_cons_zero, List.set_cons_succ]
      have s0 := hS.1.c0
      have s1 := hS.1.c1
      have s5 := hS.1.c5
      go_simp
      exact hK.out _ _ hS (Below.refl _ _) rfl
    refine TellsFrom.cons rfl (fun vs wz hS hd K hK => ?_) ?_
    · try dsimp only at hK ⊢
      have h8 : vs 8 = (.agg #[.int .i64 (b : Int), .bool wide]) := hd 8 (by kernel_rfl)
      generalize vs 8 = x8 at *
      subst h8
      try simp only [List.getElem_toArray, List.getElem_cons_succ, List.getElem_cons_zero, Act.put, List.setIfInBounds_toArray, List.set_cons_zero, List.set_cons_succ]
      go_simp
      refine (HF.out _).mono ?_
      rintro e v1 ⟨rfl, b1⟩
      exact hK.out _ _ ⟨hS.1.kept b1, hS.2.trans (b1.mono hS.2.size)⟩ b1 rfl
    refine TellsFrom.cons rfl (fun vs wz hS hd K hK => ?_) ?_
    · try dsimp only at hK ⊢
      have h4 : vs 4 = (.slice (some ⟨g, 0, none⟩) n cap) := hd 4 (by kernel_rfl)
      generalize vs 4 = x4 at *
      subst h4
      have h9 : vs 9 = (.int .i64 (M : Int)) := hd 9 (by kernel_rfl)
      generalize vs 9 = x9 at *
      subst h9
      try simp only [List.getElem_toArray, List.getElem_cons_succ, List.getElem_cons_zero, Act.put, List.setIfInBounds_toArray, List.set_cons_zero, List.set_cons_succ]
      have s0 := hS.1.c0
      have s1 := hS.1.c1
      have s5 := hS.1.c5
      go_simp
      exact hK.out _ _ hS (Below.refl _ _) rfl
    refine TellsFrom.cons rfl (fun vs wz hS hd K hK => ?_) ?_
    · try dsimp only at hK ⊢
      have h0 : vs 0 = (.pointer (some ⟨B, 0, none⟩)) := hd 0 (by kernel_rfl)
      generalize vs 0 = x0 at *
      subst h0
      try simp only [List.getElem_toArray, List.getElem_cons_succ, List.getElem_cons_zero, Act.put, List.setIfInBounds_toArray, List.set_cons_zero, List.set_cons_succ]
      have s0 := hS.1.c0
      have s1 := hS.1.c1
      have s5 := hS.1.c5
      go_simp
      exact hK.out _ _ hS (Below.refl _ _) rfl
    refine TellsFrom.cons rfl (fun vs wz hS hd K hK => ?_) ?_
    · try dsimp only at hK ⊢
      have h11 : vs 11 = (.pointer (some ⟨B, 0, none⟩)) := hd 11 (by kernel_rfl)
      generalize vs 11 = x11 at *
      subst h11
      try simp only [List.getElem_toArray, List.getElem_cons_succ, List.getElem_cons_zero, Act.put, List.setIfInBounds_toArray, List.set_cons_zero, List.set_cons_succ]
      have s0 := hS.1.c0
      have s1 := hS.1.c1
      have s5 := hS.1.c5
      go_simp
      exact hK.out _ _ hS (Below.refl _ _) rfl
    exact TellsFrom.nil
  · intro vs wz hS hd
    try dsimp only
    have h10 : vs 10 = .slice (some ⟨g, 0, none⟩) M cap := hd 10 (by omega)
    have h12 : vs 12 = .pointer (some ⟨B, 5, none⟩) := hd 12 (by omega)
    clear hd
    generalize vs 0 = y0 at *
    generalize vs 1 = y1 at *
    generalize vs 2 = y2 at *
    generalize vs 3 = y3 at *
    generalize vs 4 = y4 at *
    generalize vs 5 = y5 at *
    generalize vs 6 = y6 at *
    generalize vs 7 = y7 at *
    generalize vs 8 = y8 at *
    generalize vs 9 = y9 at *
    generalize vs 10 = y10 at *
    generalize vs 11 = y11 at *
    generalize vs 12 = y12 at *
    subst h10
    subst h12
    have HL1 : Hid (LzR wz B b wide s p (.slice (some ⟨g, 0, none⟩) n cap) last left) := hS.1
    have HB1 : Hid (Below w.heap.size w wz) := hS.2
    have df5 := HL1.out.f5
    have dc5 := HL1.out.c5
    clear hS
    refine wpAnyH_ready (rs := [13]) (by kernel_rfl) (by simp) ?_
    refine AllReadyH.cons rfl (fun K hK => ?_) AllReadyH.nil
    go_simp
    refine hK.out _ _ trivial (fun _ => ?_)
    clear hK K
    refine wpAnyH_done (by kernel_rfl) ?_ _
    try simp only [List.getElem_toArray, List.getElem_cons_succ, List.getElem_cons_zero, Act.put, List.setIfInBounds_toArray, List.set_cons_zero, List.set_cons_succ]
    have HL2 : Hid (LzR (wz.setCell ⟨B, 5, none⟩ (.slice (some ⟨g, 0, none⟩) M cap)) B b wide s p (.slice (some ⟨g, 0, none⟩) M cap) last left) := HL1.out.set5 _
    have hc6 := HL2.out.c6
    have hf6 := HL2.out.f6
    clear df5 dc5
    go_wp2_with fail
    go_end0
    refine ⟨rfl, HL2.out.set6 _, ?_, ?_⟩
    · exact ((((HO.out.up HB1.out).cut hn).turned ((Turned.refl B wz).set 5 _) (fun e => hgB (by cases e; rfl))).turned ((Turned.refl B _).set 6 _) (fun e => hgB (by cases e; rfl)))
    · exact ((((LzG.of_below HB1.out).set 5 _).set 6 _).swap rfl)

set_option maxHeartbeats 1000000 in
theorem lzText_known (B b p left lo n g cap v : Nat) (wide : Bool) (s last : ByteArray) (l : List ByteArray) (w : World) (h : LzR w B b wide s p (.slice (some ⟨g, 0, none⟩) n cap) last left) (ho : OwnL w lo (.slice (some ⟨g, 0, none⟩) n cap) n l) (hv : v < n) :
    Calls Try.prog 71 #[.pointer (some ⟨B, 0, none⟩), .int .i64 (v : Int)] w fun e w' => e = .returned (.string (Lz.text l last v)) ∧ w' = w := by
  have hl := ho.len
  have hc := ho.cell v (by omega)
  have e : Lz.text l last v = l[v] := by unfold Lz.text; rw [dif_pos (show v < l.length by omega)]
  rw [e]
  generalize l[v] = t at *
  have hc5 := h.c5
  clear h ho e hl
  have hvi : (v : Int) < (n : Int) := by omega
  go_enter Try.func71, Try.ntmps71
  go_wp2_with fail
  go_ret
  exact ⟨rfl, rfl⟩

set_option maxHeartbeats 1000000 in
theorem lzText_next (B b p left n g cap : Nat) (wide : Bool) (s last : ByteArray) (l : List ByteArray) (w : World) (h : LzR w B b wide s p (.slice (some ⟨g, 0, none⟩) n cap) last left) (hl : l.length = n) (hlast : 1 ≤ last.size) (hlb : last.size ≤ 5001) :
    Calls Try.prog 71 #[.pointer (some ⟨B, 0, none⟩), .int .i64 (n : Int)] w fun e w' => e = .returned (.string (Lz.text l last n)) ∧ ∃ m, w' = w.drewN m := by
  have e : Lz.text l last n = last ++ last.extract 0 1 := by unfold Lz.text; rw [dif_neg (show ¬ n < l.length by omega)]
  rw [e]
  have hc5 := h.c5
  have hc6 := h.c6
  clear h e hl
  have hne : last ≠ ByteArray.empty := fun e => by rw [e] at hlast; simp at hlast
  have hne2 : ¬ last.toList = [] := fun e => by have h := congrArg List.length e; rw [toList_len] at h; have h2 : last.size = 0 := h; omega
  have h1 : (1 : Int) ≤ (last.size : Int) := by omega
  have hz : (last.extract 0 1).size = 1 := by rw [ByteArray.size_extract]; omega
  have hlen : ¬ 9223372036854775807 < last.size + (last.extract 0 1).size := by omega
  go_enter Try.func71, Try.ntmps71
  go_wp2_with fail
  refine (insist_of _ _ _ (by first | rfl | (simp; exact hne2))).mono ?_
  rintro e w1 ⟨rfl, hw1⟩
  replace hw1 := hw1.symm
  subst hw1
  go_wp2_with fail
  go_quiet (fail)
  go_wp2_with fail
  go_ret
  exact ⟨rfl, nq, rfl⟩

set_option maxHeartbeats 1000000 in
theorem lzText_no (B b p left n g cap v : Nat) (wide : Bool) (s last : ByteArray) (w : World) (h : LzR w B b wide s p (.slice (some ⟨g, 0, none⟩) n cap) last left) (hn : n ≤ 4096) (hv : n < v ∨ (v = n ∧ last.size = 0)) :
    Calls Try.prog 71 #[.pointer (some ⟨B, 0, none⟩), .int .i64 (v : Int)] w fun e w' => e = fault 1 ∧ w' = w := by
  have hc5 := h.c5
  have hc6 := h.c6
  clear h
  have hnl : ¬ (v : Int) < (n : Int) := by omega
  by_cases hvn : v = n
  · subst hvn
    have hz : last = ⟨#[]⟩ := empty_of_size (hv.elim (fun h => absurd h (Nat.lt_irrefl _)) (fun h => h.2))
    subst hz
    go_enter Try.func71, Try.ntmps71
    go_wp2_with fail
    refine (insist_not _ _ _ (by first | rfl | simp)).mono ?_
    rintro e w1 ⟨rfl, hw1⟩
    replace hw1 := hw1.symm
    subst hw1
    unfold fault
    go_wp2_with fail
    exact ⟨rfl, rfl, rfl⟩
  · have hni : ¬ (v : Int) = (n : Int) := by omega
    have hnb : ((v : Int) == (n : Int)) = false := by rw [beq_eq_false_iff_ne]; exact hni
    go_enter Try.func71, Try.ntmps71
    go_wp2_with fail
    refine (insist_not _ _ _ (by first | rfl | simp <;> omega)).mono ?_
    rintro e w1 ⟨rfl, hw1⟩
    replace hw1 := hw1.symm
    subst hw1
    unfold fault
    go_wp2_with fail
    exact ⟨rfl, rfl, rfl⟩
end Go.Proofs.Ytjfihmpnbblomaa
