/- All formats, as the program lists them; each with how it begins. -/
import Derived.Test.YtjmeaeimpkijmaaGreatDoorProg
import Derived.Test.YtjmeaeimpkijmaaGreatDoorBase
namespace Go.Proofs.YtjmeaeimpkijmaaGreatDoor
open Go.RowKit

/-- texts in a row -/
def Strs (w : World) (a : Option Addr) (l : List ByteArray) : Prop :=
  l = [] ∨ ∃ b off, a = some ⟨b, off, none⟩ ∧ b < w.heap.size ∧ ∀ i (h : i < l.length), w.cell? ⟨b, off + i, none⟩ = some (.string l[i])
theorem Strs.below {w w' : World} {a : Option Addr} {l : List ByteArray} (h : Strs w a l) (hb : Below w.heap.size w w') : Strs w' a l := by
  rcases h with h | ⟨b, off, rfl, hbB, hc⟩
  · exact .inl h
  · exact .inr ⟨b, off, rfl, Nat.lt_of_lt_of_le hbB hb.size, fun i hi => (hb.cell (p := ⟨b, off + i, none⟩) hbB).trans (hc i hi)⟩
/-- a list of texts in a box -/
def Signs (w : World) (b : Nat) (l : List ByteArray) : Prop := b < w.heap.size ∧ ∃ (a : Option Addr) (c : Nat), w.cell? ⟨b, 0, none⟩ = some (.slice a l.length c) ∧ Strs w a l
theorem Signs.below {w w' : World} {b : Nat} {l : List ByteArray} (h : Signs w b l) (hb : Below w.heap.size w w') : Signs w' b l := by
  obtain ⟨h1, a, c, h2, h3⟩ := h
  exact ⟨Nat.lt_of_lt_of_le h1 hb.size, a, c, (hb.cell (p := ⟨b, 0, none⟩) h1).trans h2, h3.below hb⟩
theorem strs_new (w : World) (l : List ByteArray) : Strs (w.alloc (.cells (l.map Value.string).toArray 9)) (some ⟨w.heap.size, 0, none⟩) l := by
  refine .inr ⟨w.heap.size, 0, rfl, by simp, fun i hi => ?_⟩
  rw [Nat.zero_add, World.cell?_alloc_at _ _ _ _ rfl]
  simp [hi]
theorem signs_box (w : World) (a : Option Addr) (c : Nat) (l : List ByteArray) (h : Strs w a l) : Signs (w.alloc (.cells #[.slice a l.length c] 59)) w.heap.size l :=
  ⟨by simp, a, c, by rw [World.cell?_alloc_at _ _ _ _ rfl]; rfl, h.below ((Below.refl _ _).alloc (Nat.le_refl _) _)⟩
def tPng : ByteArray := ⟨#[137, 80, 78, 71, 13, 10, 26, 10]⟩
def fmtSigns (h : Nat) : List ByteArray :=
  if h = 0 then [⟨#[137, 80, 78, 71, 13, 10, 26, 10]⟩]
  else if h = 1 then [⟨#[71, 73, 70, 56, 55, 97]⟩, ⟨#[71, 73, 70, 56, 57, 97]⟩]
  else if h = 2 then [⟨#[66, 77]⟩]
  else if h = 3 then []
  else [⟨#[80, 49]⟩, ⟨#[80, 50]⟩, ⟨#[80, 51]⟩, ⟨#[80, 52]⟩, ⟨#[80, 53]⟩, ⟨#[80, 54]⟩]
def fmtWays (h : Nat) : Int := if h = 0 then 30 else 2
def fmtHolds (h : Nat) : FuncId := if h = 0 then 28 else if h = 1 then 31 else if h = 2 then 34 else if h = 3 then 37 else 40
def fmtPut (h : Nat) : FuncId := if h = 0 then 29 else if h = 1 then 32 else if h = 2 then 35 else if h = 3 then 38 else 41
def fmtGet (h : Nat) : FuncId := if h = 0 then 30 else if h = 1 then 33 else if h = 2 then 36 else if h = 3 then 39 else 42
/-- the list of formats, in a row -/
def FmtRow (w : World) (b : Nat) : Prop := b < w.heap.size ∧ ∀ h, h < 5 → ∃ (nm : ByteArray) (bx : Nat),
  w.cell? ⟨b, h * 7, none⟩ = some (.int .i64 ((h : Int) + 1)) ∧ w.cell? ⟨b, h * 7 + 1, none⟩ = some (.string nm) ∧ w.cell? ⟨b, h * 7 + 2, none⟩ = some (.int .i64 (fmtWays h)) ∧
  w.cell? ⟨b, h * 7 + 3, none⟩ = some (.func (.func 50) #[] #[.pointer (some ⟨bx, 0, none⟩)]) ∧ w.cell? ⟨b, h * 7 + 4, none⟩ = some (.func (.func (fmtHolds h)) #[] #[]) ∧
  w.cell? ⟨b, h * 7 + 5, none⟩ = some (.func (.func (fmtPut h)) #[] #[]) ∧ w.cell? ⟨b, h * 7 + 6, none⟩ = some (.func (.func (fmtGet h)) #[] #[]) ∧ Signs w bx (fmtSigns h)
theorem FmtRow.below {w w' : World} {b : Nat} (h : FmtRow w b) (hb : Below w.heap.size w w') : FmtRow w' b := by
  obtain ⟨h1, h2⟩ := h
  refine ⟨Nat.lt_of_lt_of_le h1 hb.size, fun i hi => ?_⟩
  obtain ⟨nm, bx, c0, c1, c2, c3, c4, c5, c6, s⟩ := h2 i hi
  have hc : ∀ o, w'.cell? ⟨b, o, none⟩ = w.cell? ⟨b, o, none⟩ := fun o => hb.cell (p := ⟨b, o, none⟩) h1
  exact ⟨nm, bx, (hc _).trans c0, (hc _).trans c1, (hc _).trans c2, (hc _).trans c3, (hc _).trans c4, (hc _).trans c5, (hc _).trans c6, s.below hb⟩
set_option maxHeartbeats 1000000 in
theorem beginsWith_any (a : Option Addr) (n c : Nat) (w : World) : Calls Tryz.prog 27 #[.slice a n c] w fun e w' => e = .returned (.func (.func 50) #[] #[.pointer (some ⟨w.heap.size, 0, none⟩)]) ∧ w' = w.alloc (.cells #[.slice a n c] 59) := by
  go_enter Tryz.func27, Tryz.ntmps27
  go_wp2_with fail
  go_ret
  exact ⟨rfl, rfl⟩
set_option linter.unusedVariables false in
set_option linter.unusedVariables false in
set_option maxHeartbeats 4000000 in
set_option maxRecDepth 20000 in
theorem formats_any (w : World) : Calls Tryz.prog 17 #[] w fun e w' => (∃ b, e = .returned (.slice (some ⟨b, 0, none⟩) 5 5) ∧ FmtRow w' b) ∧ Below w.heap.size w w' := by
  have HBW : Hid (∀ a n c w, Calls Tryz.prog 27 #[.slice a n c] w fun e w' => e = .returned (.func (.func 50) #[] #[.pointer (some ⟨w.heap.size, 0, none⟩)]) ∧ w' = w.alloc (.cells #[.slice a n c] 59)) := beginsWith_any
  obtain ⟨a0, ha0⟩ : ∃ a, a = w.alloc (.cells ((fmtSigns 0).map Value.string).toArray 9) := ⟨_, rfl⟩
  have HA0 : Hid (Strs a0 (some ⟨w.heap.size, 0, none⟩) (fmtSigns 0) ∧ Below w.heap.size w a0) := by rw [ha0]; exact ⟨strs_new _ _, (Below.refl _ _).alloc (Nat.le_refl _) _⟩
  rw [show ((fmtSigns 0).map Value.string).toArray = #[.string ⟨#[137, 80, 78, 71, 13, 10, 26, 10]⟩] from rfl] at ha0
  go_enter Tryz.func17, Tryz.ntmps17
  go_wp2_with fail
  rw [← ha0]
  clear ha0
  refine (HBW.out _ _ _ _).mono ?_
  rintro e w1 ⟨rfl, hw1⟩
  obtain ⟨x0, hx0⟩ : ∃ x, x = a0.heap.size := ⟨_, rfl⟩
  have b1 : Below a0.heap.size a0 w1 := by rw [hw1]; exact (Below.refl _ _).alloc (Nat.le_refl _) _
  have s0 : Signs w1 x0 (fmtSigns 0) := by rw [hw1, hx0]; exact signs_box a0 (some ⟨w.heap.size, 0, none⟩) 1 (fmtSigns 0) HA0.out.1
  have HS1 : Hid (Below w.heap.size w w1 ∧ Signs w1 x0 (fmtSigns 0)) := ⟨(HA0.out.2.trans (b1.mono HA0.out.2.size)), s0⟩
  rw [← hx0]
  clear hw1 hx0 b1 s0 HA0
  obtain ⟨a1, ha1⟩ : ∃ a, a = w1.alloc (.cells ((fmtSigns 1).map Value.string).toArray 9) := ⟨_, rfl⟩
  have HA1 : Hid (Strs a1 (some ⟨w1.heap.size, 0, none⟩) (fmtSigns 1) ∧ Below w1.heap.size w1 a1) := by rw [ha1]; exact ⟨strs_new _ _, (Below.refl _ _).alloc (Nat.le_refl _) _⟩
  rw [show ((fmtSigns 1).map Value.string).toArray = #[.string ⟨#[71, 73, 70, 56, 55, 97]⟩, .string ⟨#[71, 73, 70, 56, 57, 97]⟩] from rfl] at ha1
  go_wp2_with fail
  rw [← ha1]
  clear ha1
  refine (HBW.out _ _ _ _).mono ?_
  rintro e w2 ⟨rfl, hw2⟩
  obtain ⟨x1, hx1⟩ : ∃ x, x = a1.heap.size := ⟨_, rfl⟩
  have b2 : Below a1.heap.size a1 w2 := by rw [hw2]; exact (Below.refl _ _).alloc (Nat.le_refl _) _
  have s1 : Signs w2 x1 (fmtSigns 1) := by rw [hw2, hx1]; exact signs_box a1 (some ⟨w1.heap.size, 0, none⟩) 2 (fmtSigns 1) HA1.out.1
  have bb2 : Below w1.heap.size w1 w2 := (HA1.out.2.trans (b2.mono HA1.out.2.size))
  have HS2 : Hid (Below w.heap.size w w2 ∧ Signs w2 x0 (fmtSigns 0) ∧ Signs w2 x1 (fmtSigns 1)) := ⟨HS1.out.1.trans (bb2.mono HS1.out.1.size), (HS1.out.2).below bb2, s1⟩
  clear bb2 HS1
  rw [← hx1]
  clear hw2 hx1 b2 s1 HA1
  obtain ⟨a2, ha2⟩ : ∃ a, a = w2.alloc (.cells ((fmtSigns 2).map Value.string).toArray 9) := ⟨_, rfl⟩
  have HA2 : Hid (Strs a2 (some ⟨w2.heap.size, 0, none⟩) (fmtSigns 2) ∧ Below w2.heap.size w2 a2) := by rw [ha2]; exact ⟨strs_new _ _, (Below.refl _ _).alloc (Nat.le_refl _) _⟩
  rw [show ((fmtSigns 2).map Value.string).toArray = #[.string ⟨#[66, 77]⟩] from rfl] at ha2
  go_wp2_with fail
  rw [← ha2]
  clear ha2
  refine (HBW.out _ _ _ _).mono ?_
  rintro e w3 ⟨rfl, hw3⟩
  obtain ⟨x2, hx2⟩ : ∃ x, x = a2.heap.size := ⟨_, rfl⟩
  have b3 : Below a2.heap.size a2 w3 := by rw [hw3]; exact (Below.refl _ _).alloc (Nat.le_refl _) _
  have s2 : Signs w3 x2 (fmtSigns 2) := by rw [hw3, hx2]; exact signs_box a2 (some ⟨w2.heap.size, 0, none⟩) 1 (fmtSigns 2) HA2.out.1
  have bb3 : Below w2.heap.size w2 w3 := (HA2.out.2.trans (b3.mono HA2.out.2.size))
  have HS3 : Hid (Below w.heap.size w w3 ∧ Signs w3 x0 (fmtSigns 0) ∧ Signs w3 x1 (fmtSigns 1) ∧ Signs w3 x2 (fmtSigns 2)) := ⟨HS2.out.1.trans (bb3.mono HS2.out.1.size), (HS2.out.2.1).below bb3, (HS2.out.2.2).below bb3, s2⟩
  clear bb3 HS2
  rw [← hx2]
  clear hw3 hx2 b3 s2 HA2
  go_wp2_with fail
  refine (HBW.out _ _ _ _).mono ?_
  rintro e w4 ⟨rfl, hw4⟩
  obtain ⟨x3, hx3⟩ : ∃ x, x = w3.heap.size := ⟨_, rfl⟩
  have b4 : Below w3.heap.size w3 w4 := by rw [hw4]; exact (Below.refl _ _).alloc (Nat.le_refl _) _
  have s3 : Signs w4 x3 (fmtSigns 3) := by rw [hw4, hx3]; exact signs_box w3 none 0 (fmtSigns 3) (.inl rfl)
  have bb4 : Below w3.heap.size w3 w4 := b4
  have HS4 : Hid (Below w.heap.size w w4 ∧ Signs w4 x0 (fmtSigns 0) ∧ Signs w4 x1 (fmtSigns 1) ∧ Signs w4 x2 (fmtSigns 2) ∧ Signs w4 x3 (fmtSigns 3)) := ⟨HS3.out.1.trans (bb4.mono HS3.out.1.size), (HS3.out.2.1).below bb4, (HS3.out.2.2.1).below bb4, (HS3.out.2.2.2).below bb4, s3⟩
  clear bb4 HS3
  rw [← hx3]
  clear hw4 hx3 b4 s3
  obtain ⟨a4, ha4⟩ : ∃ a, a = w4.alloc (.cells ((fmtSigns 4).map Value.string).toArray 9) := ⟨_, rfl⟩
  have HA4 : Hid (Strs a4 (some ⟨w4.heap.size, 0, none⟩) (fmtSigns 4) ∧ Below w4.heap.size w4 a4) := by rw [ha4]; exact ⟨strs_new _ _, (Below.refl _ _).alloc (Nat.le_refl _) _⟩
  rw [show ((fmtSigns 4).map Value.string).toArray = #[.string ⟨#[80, 49]⟩, .string ⟨#[80, 50]⟩, .string ⟨#[80, 51]⟩, .string ⟨#[80, 52]⟩, .string ⟨#[80, 53]⟩, .string ⟨#[80, 54]⟩] from rfl] at ha4
  go_wp2_with fail
  rw [← ha4]
  clear ha4
  refine (HBW.out _ _ _ _).mono ?_
  rintro e w5 ⟨rfl, hw5⟩
  obtain ⟨x4, hx4⟩ : ∃ x, x = a4.heap.size := ⟨_, rfl⟩
  have b5 : Below a4.heap.size a4 w5 := by rw [hw5]; exact (Below.refl _ _).alloc (Nat.le_refl _) _
  have s4 : Signs w5 x4 (fmtSigns 4) := by rw [hw5, hx4]; exact signs_box a4 (some ⟨w4.heap.size, 0, none⟩) 6 (fmtSigns 4) HA4.out.1
  have bb5 : Below w4.heap.size w4 w5 := (HA4.out.2.trans (b5.mono HA4.out.2.size))
  have HS5 : Hid (Below w.heap.size w w5 ∧ Signs w5 x0 (fmtSigns 0) ∧ Signs w5 x1 (fmtSigns 1) ∧ Signs w5 x2 (fmtSigns 2) ∧ Signs w5 x3 (fmtSigns 3) ∧ Signs w5 x4 (fmtSigns 4)) := ⟨HS4.out.1.trans (bb5.mono HS4.out.1.size), (HS4.out.2.1).below bb5, (HS4.out.2.2.1).below bb5, (HS4.out.2.2.2.1).below bb5, (HS4.out.2.2.2.2).below bb5, s4⟩
  clear bb5 HS4
  rw [← hx4]
  clear hw5 hx4 b5 s4 HA4
  obtain ⟨w6, hw6⟩ : ∃ a, a = w5.alloc (.cells #[.int .i64 1, .string ⟨#[112, 110, 103]⟩, .int .i64 30, .func (.func 50) #[] #[.pointer (some ⟨x0, 0, none⟩)], .func (.func 28) #[] #[], .func (.func 29) #[] #[], .func (.func 30) #[] #[], .int .i64 2, .string ⟨#[103, 105, 102]⟩, .int .i64 2, .func (.func 50) #[] #[.pointer (some ⟨x1, 0, none⟩)], .func (.func 31) #[] #[], .func (.func 32) #[] #[], .func (.func 33) #[] #[], .int .i64 3, .string ⟨#[98, 109, 112]⟩, .int .i64 2, .func (.func 50) #[] #[.pointer (some ⟨x2, 0, none⟩)], .func (.func 34) #[] #[], .func (.func 35) #[] #[], .func (.func 36) #[] #[], .int .i64 4, .string ⟨#[116, 103, 97]⟩, .int .i64 2, .func (.func 50) #[] #[.pointer (some ⟨x3, 0, none⟩)], .func (.func 37) #[] #[], .func (.func 38) #[] #[], .func (.func 39) #[] #[], .int .i64 5, .string ⟨#[112, 110, 109]⟩, .int .i64 2, .func (.func 50) #[] #[.pointer (some ⟨x4, 0, none⟩)], .func (.func 40) #[] #[], .func (.func 41) #[] #[], .func (.func 42) #[] #[]] 43) := ⟨_, rfl⟩
  have b6 : Below w5.heap.size w5 w6 := by rw [hw6]; exact (Below.refl _ _).alloc (Nat.le_refl _) _
  have hg : w6.heap[w5.heap.size]? = some (.cells #[.int .i64 1, .string ⟨#[112, 110, 103]⟩, .int .i64 30, .func (.func 50) #[] #[.pointer (some ⟨x0, 0, none⟩)], .func (.func 28) #[] #[], .func (.func 29) #[] #[], .func (.func 30) #[] #[], .int .i64 2, .string ⟨#[103, 105, 102]⟩, .int .i64 2, .func (.func 50) #[] #[.pointer (some ⟨x1, 0, none⟩)], .func (.func 31) #[] #[], .func (.func 32) #[] #[], .func (.func 33) #[] #[], .int .i64 3, .string ⟨#[98, 109, 112]⟩, .int .i64 2, .func (.func 50) #[] #[.pointer (some ⟨x2, 0, none⟩)], .func (.func 34) #[] #[], .func (.func 35) #[] #[], .func (.func 36) #[] #[], .int .i64 4, .string ⟨#[116, 103, 97]⟩, .int .i64 2, .func (.func 50) #[] #[.pointer (some ⟨x3, 0, none⟩)], .func (.func 37) #[] #[], .func (.func 38) #[] #[], .func (.func 39) #[] #[], .int .i64 5, .string ⟨#[112, 110, 109]⟩, .int .i64 2, .func (.func 50) #[] #[.pointer (some ⟨x4, 0, none⟩)], .func (.func 40) #[] #[], .func (.func 41) #[] #[], .func (.func 42) #[] #[]] 43 (0, 0)) := by rw [hw6]; exact heap_alloc_new _ _
  have hc : ∀ o, w6.cell? ⟨w5.heap.size, o, none⟩ = (#[.int .i64 1, .string ⟨#[112, 110, 103]⟩, .int .i64 30, .func (.func 50) #[] #[.pointer (some ⟨x0, 0, none⟩)], .func (.func 28) #[] #[], .func (.func 29) #[] #[], .func (.func 30) #[] #[], .int .i64 2, .string ⟨#[103, 105, 102]⟩, .int .i64 2, .func (.func 50) #[] #[.pointer (some ⟨x1, 0, none⟩)], .func (.func 31) #[] #[], .func (.func 32) #[] #[], .func (.func 33) #[] #[], .int .i64 3, .string ⟨#[98, 109, 112]⟩, .int .i64 2, .func (.func 50) #[] #[.pointer (some ⟨x2, 0, none⟩)], .func (.func 34) #[] #[], .func (.func 35) #[] #[], .func (.func 36) #[] #[], .int .i64 4, .string ⟨#[116, 103, 97]⟩, .int .i64 2, .func (.func 50) #[] #[.pointer (some ⟨x3, 0, none⟩)], .func (.func 37) #[] #[], .func (.func 38) #[] #[], .func (.func 39) #[] #[], .int .i64 5, .string ⟨#[112, 110, 109]⟩, .int .i64 2, .func (.func 50) #[] #[.pointer (some ⟨x4, 0, none⟩)], .func (.func 40) #[] #[], .func (.func 41) #[] #[], .func (.func 42) #[] #[]] : Array Value)[o]? := fun o => by simp only [World.cell?, hg]; rfl
  have HE : Hid (FmtRow w6 w5.heap.size ∧ Below w.heap.size w w6) := by
    refine ⟨⟨(Array.getElem?_eq_some_iff.1 hg).1, fun h hh => ?_⟩, HS5.out.1.trans (b6.mono HS5.out.1.size)⟩
    rcases (by omega : h = 0 ∨ h = 1 ∨ h = 2 ∨ h = 3 ∨ h = 4) with rfl | rfl | rfl | rfl | rfl
    · exact ⟨_, x0, hc _, hc _, hc _, hc _, hc _, hc _, hc _, (HS5.out.2.1).below b6⟩
    · exact ⟨_, x1, hc _, hc _, hc _, hc _, hc _, hc _, hc _, (HS5.out.2.2.1).below b6⟩
    · exact ⟨_, x2, hc _, hc _, hc _, hc _, hc _, hc _, hc _, (HS5.out.2.2.2.1).below b6⟩
    · exact ⟨_, x3, hc _, hc _, hc _, hc _, hc _, hc _, hc _, (HS5.out.2.2.2.2.1).below b6⟩
    · exact ⟨_, x4, hc _, hc _, hc _, hc _, hc _, hc _, hc _, (HS5.out.2.2.2.2.2).below b6⟩
  clear b6 hg hc HS5
  go_wp2_with fail
  rw [← hw6]
  clear hw6
  go_ret
  exact ⟨⟨_, rfl, HE.out.1⟩, HE.out.2⟩
end Go.Proofs.YtjmeaeimpkijmaaGreatDoor
