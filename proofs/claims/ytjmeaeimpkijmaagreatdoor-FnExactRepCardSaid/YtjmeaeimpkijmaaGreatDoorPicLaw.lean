/- For the laws over pictures that are made: boxes that stay, and a copy that is its own. -/
import Derived.Test.YtjmeaeimpkijmaaGreatDoorMarkFrom
import Derived.Test.YtjmeaeimpkijmaaGreatDoorImgTo
import Derived.Test.YtjmeaeimpkijmaaGreatDoorRow64
namespace Go.Proofs.YtjmeaeimpkijmaaGreatDoor
open Go.RowKit

/-- six cells of a block -/
def Bx (w : World) (B : Nat) (v0 v1 v2 v3 v4 v5 : Value) : Prop := B < w.heap.size ∧ w.cell? ⟨B, 0, none⟩ = some v0 ∧ w.cell? ⟨B, 1, none⟩ = some v1 ∧ w.cell? ⟨B, 2, none⟩ = some v2 ∧ w.cell? ⟨B, 3, none⟩ = some v3 ∧ w.cell? ⟨B, 4, none⟩ = some v4 ∧ w.cell? ⟨B, 5, none⟩ = some v5
theorem bx_new (w : World) (v0 v1 v2 v3 v4 v5 : Value) (T : TypeId) : Bx (w.alloc (.cells #[v0, v1, v2, v3, v4, v5] T)) w.heap.size v0 v1 v2 v3 v4 v5 := ⟨by simp, box_new w v0 v1 v2 v3 v4 v5 T⟩
theorem Bx.kept {w w' : World} {B : Nat} {v0 v1 v2 v3 v4 v5 : Value} (h : Bx w B v0 v1 v2 v3 v4 v5) (b : Below w.heap.size w w') : Bx w' B v0 v1 v2 v3 v4 v5 := ⟨Nat.lt_of_lt_of_le h.1 b.size, box_kept h.2 b h.1⟩
theorem Bx.out {w w' : World} {B lo hi : Nat} {v0 v1 v2 v3 v4 v5 : Value} (h : Bx w B v0 v1 v2 v3 v4 v5) (o : Outside lo hi w w') (hB : B < lo ∨ hi ≤ B) : Bx w' B v0 v1 v2 v3 v4 v5 := by
  have hb := o.rest B h.1 hB
  exact ⟨Nat.lt_of_lt_of_le h.1 o.size, (World.cell?_of_block (w := w) (a := ⟨B, 0, none⟩) hb).trans h.2.1, (World.cell?_of_block (w := w) (a := ⟨B, 1, none⟩) hb).trans h.2.2.1, (World.cell?_of_block (w := w) (a := ⟨B, 2, none⟩) hb).trans h.2.2.2.1, (World.cell?_of_block (w := w) (a := ⟨B, 3, none⟩) hb).trans h.2.2.2.2.1, (World.cell?_of_block (w := w) (a := ⟨B, 4, none⟩) hb).trans h.2.2.2.2.2.1, (World.cell?_of_block (w := w) (a := ⟨B, 5, none⟩) hb).trans h.2.2.2.2.2.2⟩

/-- two lists of the call's own in blocks of a stretch, apart -/
def Two (w : World) (lo hi : Nat) (x : Option Addr) (cs : List Int) (y : Option Addr) (ps : List Int) : Prop := ∃ mid, lo ≤ mid ∧ mid ≤ hi ∧ hi ≤ w.heap.size ∧ OwnsIn w lo mid x cs ∧ OwnsIn w mid hi y ps
theorem Two.kept {w w' : World} {lo hi : Nat} {x y : Option Addr} {cs ps : List Int} (h : Two w lo hi x cs y ps) (b : Below w.heap.size w w') : Two w' lo hi x cs y ps := by
  obtain ⟨m, h1, h2, h3, h4, h5⟩ := h
  exact ⟨m, h1, h2, Nat.le_trans h3 b.size, h4.kept b, h5.kept b⟩
theorem Two.out {w w' : World} {lo hi lo' hi' : Nat} {x y : Option Addr} {cs ps : List Int} (h : Two w lo hi x cs y ps) (o : Outside lo' hi' w w') (ho : hi ≤ lo' ∨ hi' ≤ lo) : Two w' lo hi x cs y ps := by
  obtain ⟨m, h1, h2, h3, h4, h5⟩ := h
  exact ⟨m, h1, h2, Nat.le_trans h3 o.size, h4.out o (by omega), h5.out o (by omega)⟩
theorem Two.ints {w : World} {lo hi : Nat} {x y : Option Addr} {cs ps : List Int} (h : Two w lo hi x cs y ps) : Ints w x cs ∧ Ints w y ps := by
  obtain ⟨m, h1, h2, h3, h4, h5⟩ := h
  exact ⟨h4.ints, h5.ints⟩
theorem Pair2.two {w : World} {lo : Nat} {x y : Option Addr} {cs ps : List Int} (h : Pair2 w lo x cs y ps) (hlo : lo ≤ w.heap.size) : Two w lo w.heap.size x cs y ps := by
  obtain ⟨m, h1, h2, h3, h4⟩ := h
  by_cases hm : m ≤ w.heap.size
  · refine ⟨m, h1, hm, Nat.le_refl _, ?_, h4.inn⟩
    rcases h3 with e | ⟨b, rfl, hb⟩
    · exact .inl e
    · rcases h2 with e | ⟨b', e, h5, h6, h7⟩
      · exact .inl e
      · cases e; exact .inr ⟨b, rfl, h5, hb, own_of rfl h6 h7⟩
  · have hps : ps = [] := by
      rcases h4 with e | ⟨b, rfl, hb, hb2, _⟩
      · exact e
      · omega
    exact ⟨w.heap.size, hlo, Nat.le_refl _, Nat.le_refl _, h2.inn, .inl hps⟩

theorem toImage_two (k d wd hi : Int) (ca : Option Addr) (cn cc : Nat) (pa : Option Addr) (pn pc : Nat) (cs ps : List Int) (w : World) (hc : Ints w ca cs) (hcn : cs.length = cn) (hcl : cn ≤ 1048576) (hp : Ints w pa ps) (hpn : ps.length = pn) (hpl : pn ≤ 1048576) :
    Calls Tryz.prog 12 #[.agg #[.int .i64 k, .int .i64 d, .int .i64 wd, .int .i64 hi, .slice ca cn cc, .slice pa pn pc]] w fun e w' => (∃ x y, e = .returned (.agg #[.int .i64 k, .int .i64 d, .int .i64 wd, .int .i64 hi, .slice x cn cn, .slice y pn pn]) ∧ Two w' w.heap.size w'.heap.size x cs y ps) ∧ Below w.heap.size w w' := by
  refine (toImage_exact k d wd hi ca cn cc pa pn pc cs ps w hc hcn hcl hp hpn hpl).mono ?_
  rintro e w' ⟨rfl, rfl⟩
  refine ⟨⟨_, _, rfl, ?_⟩, toW_below _ _ _ _ _ _ _ _ _ _ _ _ _⟩
  unfold toW
  generalize hW : ((w.alloc (.cells #[.int .i64 k, .int .i64 d, .int .i64 wd, .int .i64 hi, .slice ca cn cc, .slice pa pn pc] 28)).alloc (.cells #[.int .i64 k, .int .i64 d, .int .i64 wd, .int .i64 hi, .slice (some ⟨w.heap.size + 1 + 1 + 1, 0, none⟩) cn cn, .slice (some ⟨w.heap.size + 1 + 1 + 1 + 1, 0, none⟩) pn pn] 31)).alloc (.cells #[.int .i64 k, .int .i64 d, .int .i64 wd, .int .i64 hi, .slice (some ⟨w.heap.size + 1 + 1 + 1, 0, none⟩) cn cn, .slice (some ⟨w.heap.size + 1 + 1 + 1 + 1, 0, none⟩) pn pn] 31) = W
  have hs : W.heap.size = w.heap.size + 1 + 1 + 1 := by rw [← hW]; simp
  rw [← hs]
  have h1 := own_cp W cs cn hcn
  have h2 := own_cp (W.alloc (.cells (cp cs cn) 3)) ps pn hpn
  rw [World.size_alloc] at h2
  refine ⟨W.heap.size + 1, by omega, by simp, Nat.le_refl _, .inr ⟨W.heap.size, rfl, by omega, by omega, ?_⟩, .inr ⟨W.heap.size + 1, rfl, Nat.le_refl _, by simp, ?_⟩⟩
  · rw [hcn]; exact h1.kept ((Below.refl _ _).alloc (Nat.le_refl _) _)
  · rw [hpn]; exact h2

end Go.Proofs.YtjmeaeimpkijmaaGreatDoor
