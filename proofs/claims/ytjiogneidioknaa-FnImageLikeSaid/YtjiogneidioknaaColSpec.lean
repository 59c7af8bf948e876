/- The colour of a point, as the specification makes it. -/
import Derived.Test.YtjiogneidioknaaColWalks
import Derived.Test.YtjiogneidioknaaPowWalks
import Derived.Test.YtjiogneidioknaaDepWalks
namespace Go.Proofs.Ytjiogneidioknaa
open Go.RowKit

set_option maxHeartbeats 1000000 in
theorem l8Color_gray (D p G Q : Nat) (wd hi : Int) (ca : Option Addr) (cn cc : Nat) (pa : Option Addr) (pn pc : Nat) (w : World) (hD : D ≤ 8) (hQ : Q = 2 ^ D) (hQ1 : 2 ≤ Q) (hG : p * 255 / (Q - 1) = G) (hG2 : G ≤ 255) (hp : p ≤ 255) :
    Calls Try.prog 45 #[.agg #[.int .i64 1, .int .i64 (D : Int), .int .i64 wd, .int .i64 hi, .slice ca cn cc, .slice pa pn pc], .int .i64 (p : Int)] w fun e w' => e = .returned (.int .i64 ((G : Int) * 16843008 + 255)) ∧ Below w.heap.size w w' := by
  have HP : Hid (∀ w : World, Calls Try.prog 26 #[.int .i64 (D : Int)] w fun e w' => e = .returned (.int .i64 (Q : Int)) ∧ w' = w) := by
    intro w; rw [hQ]; exact l1Pow_any D w (by omega)
  have hQb : Q ≤ 256 := by rw [hQ]; exact Nat.le_trans (Nat.pow_le_pow_right (by omega) hD) (by decide)
  have e1 : ((p : Int) * 255) / ((Q : Int) - 1) = (G : Int) := by
    rw [← hG, show ((Q : Int) - 1) = ((Q - 1 : Nat) : Int) by omega]
    simp
  have e2 : ((p : Int) * 255).tdiv ((Q : Int) - 1) = (G : Int) := by rw [Int.tdiv_eq_ediv_of_nonneg (by omega)]; exact e1
  have e3 : (((Q : Int) - 1) == 0) = false := by rw [beq_eq_false_iff_ne]; omega
  have e4 : ¬ (Q : Int) - 1 = 0 := by omega
  clear hG hQ
  go_enter Try.func45, Try.ntmps45
  go_wp2_with fail
  refine (HP.out _).mono ?_
  rintro e w1 ⟨rfl, hw1⟩
  subst hw1
  go_wp2_with fail
  go_ret
  exact ⟨ret_int (by omega), (Below.refl _ _).alloc (Nat.le_refl _) _⟩

set_option maxHeartbeats 1000000 in
theorem l8Color_rgb (d : Int) (p : Nat) (wd hi : Int) (ca : Option Addr) (cn cc : Nat) (pa : Option Addr) (pn pc : Nat) (w : World) (hp : p ≤ 16777216) :
    Calls Try.prog 45 #[.agg #[.int .i64 2, .int .i64 d, .int .i64 wd, .int .i64 hi, .slice ca cn cc, .slice pa pn pc], .int .i64 (p : Int)] w fun e w' => e = .returned (.int .i64 ((p : Int) * 256 + 255)) ∧ Below w.heap.size w w' := by
  go_enter Try.func45, Try.ntmps45
  go_wp2_with fail
  go_ret
  exact ⟨ret_int (by omega), (Below.refl _ _).alloc (Nat.le_refl _) _⟩

set_option maxHeartbeats 1000000 in
theorem l8Color_rgba (d p : Int) (wd hi : Int) (ca : Option Addr) (cn cc : Nat) (pa : Option Addr) (pn pc : Nat) (w : World) :
    Calls Try.prog 45 #[.agg #[.int .i64 3, .int .i64 d, .int .i64 wd, .int .i64 hi, .slice ca cn cc, .slice pa pn pc], .int .i64 p] w fun e w' => e = .returned (.int .i64 p) ∧ Below w.heap.size w w' := by
  go_enter Try.func45, Try.ntmps45
  go_wp2_with fail
  go_ret
  exact ⟨rfl, (Below.refl _ _).alloc (Nat.le_refl _) _⟩

set_option maxHeartbeats 1000000 in
theorem l8Color_pal (d : Int) (i : Nat) (wd hi : Int) (ca : Option Addr) (cn cc : Nat) (pa : Option Addr) (pn pc : Nat) (cs : List Int) (w : World) (hI : Ints w ca cs) (hn : cs.length = cn) (hi' : i < cn) (hW : Within 16777215 cs) :
    Calls Try.prog 45 #[.agg #[.int .i64 4, .int .i64 d, .int .i64 wd, .int .i64 hi, .slice ca cn cc, .slice pa pn pc], .int .i64 (i : Int)] w fun e w' => e = .returned (.int .i64 (cs.getD i 0 * 256 + 255)) ∧ Below w.heap.size w w' := by
  have bel : Below w.heap.size w (w.alloc (.cells #[.int .i64 4, .int .i64 d, .int .i64 wd, .int .i64 hi, .slice ca cn cc, .slice pa pn pc] 26)) := (Below.refl _ _).alloc (Nat.le_refl _) _
  have hil : i < cs.length := by omega
  rcases hI.kept bel with g | ⟨b, off, rfl, hbB, hc⟩
  · rw [g] at hil; simp at hil
  · have hck := hc i hil
    have hb := hW cs[i] (List.getElem_mem hil)
    have e : cs.getD i 0 = cs[i] := by rw [List.getD_eq_getElem?_getD, List.getElem?_eq_getElem hil]; rfl
    rw [e]
    generalize cs[i] = v at *
    have hii : (i : Int) < (cn : Int) := by omega
    obtain ⟨hb0, hb1⟩ := hb
    clear hc hW hn e hI
    go_enter Try.func45, Try.ntmps45
    go_wp2_with fail
    go_ret
    exact ⟨ret_int (by omega), bel⟩

/-- what a picture's point may be -/
def PtOk (k : Int) (D : Nat) (cs : List Int) (p : Nat) : Prop := (k = 1 ∧ (D = 1 ∨ D = 2 ∨ D = 4 ∨ D = 8) ∧ p < 2 ^ D) ∨ (k = 2 ∧ p ≤ 16777216) ∨ k = 3 ∨ (k = 4 ∧ p < cs.length ∧ Within 16777215 cs)

theorem gray_step {D p : Nat} (hD : D = 1 ∨ D = 2 ∨ D = 4 ∨ D = 8) (hp : p < 2 ^ D) : 2 ≤ 2 ^ D ∧ p * 255 / (2 ^ D - 1) = p * stepOf D ∧ p * stepOf D ≤ 255 ∧ p ≤ 255 ∧ D ≤ 8 := by
  rcases hD with rfl | rfl | rfl | rfl
  · have hs : stepOf 1 = 255 := by decide
    have hp' : p < 2 := hp
    rw [hs]
    exact ⟨by decide, by show p * 255 / 1 = p * 255; omega, by omega, by omega, by omega⟩
  · have hs : stepOf 2 = 85 := by decide
    have hp' : p < 4 := hp
    rw [hs]
    exact ⟨by decide, by show p * 255 / 3 = p * 85; omega, by omega, by omega, by omega⟩
  · have hs : stepOf 4 = 17 := by decide
    have hp' : p < 16 := hp
    rw [hs]
    exact ⟨by decide, by show p * 255 / 15 = p * 17; omega, by omega, by omega, by omega⟩
  · have hs : stepOf 8 = 1 := by decide
    have hp' : p < 256 := hp
    rw [hs]
    exact ⟨by decide, by show p * 255 / 255 = p * 1; omega, by omega, by omega, by omega⟩

theorem l8Color_any (k : Int) (D p : Nat) (wd hi : Int) (ca : Option Addr) (cn cc : Nat) (pa : Option Addr) (pn pc : Nat) (cs : List Int) (w : World) (hI : Ints w ca cs) (hn : cs.length = cn) (h : PtOk k D cs p) :
    Calls Try.prog 45 #[.agg #[.int .i64 k, .int .i64 (D : Int), .int .i64 wd, .int .i64 hi, .slice ca cn cc, .slice pa pn pc], .int .i64 (p : Int)] w fun e w' => e = .returned (.int .i64 (colOf k D cs (p : Int))) ∧ Below w.heap.size w w' := by
  rcases h with ⟨rfl, hD, hp⟩ | ⟨rfl, hp⟩ | rfl | ⟨rfl, hp, hW⟩
  · obtain ⟨h1, h2, h3, h4, h5⟩ := gray_step hD hp
    have := l8Color_gray D p (p * stepOf D) (2 ^ D) wd hi ca cn cc pa pn pc w h5 rfl h1 h2 h3 h4
    have e : colOf 1 D cs (p : Int) = ((p * stepOf D : Nat) : Int) * 16843008 + 255 := by unfold colOf; rw [if_pos rfl]; simp
    rw [e]; exact this
  · exact l8Color_rgb _ p wd hi ca cn cc pa pn pc w hp
  · exact l8Color_rgba _ _ wd hi ca cn cc pa pn pc w
  · have := l8Color_pal (D : Int) p wd hi ca cn cc pa pn pc cs w hI hn (by omega) hW
    have e : colOf 4 D cs (p : Int) = cs.getD p 0 * 256 + 255 := by unfold colOf; rw [if_neg (by decide), if_neg (by decide), if_pos rfl, Int.toNat_natCast]
    rw [e]; exact this
end Go.Proofs.Ytjiogneidioknaa
