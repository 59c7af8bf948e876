/- A picture seen by its colours. -/
import Derived.Test.YtjiogneidioknaaColTop
import Derived.Test.YtjiogneidioknaaDrawnWalks
namespace Go.Proofs.Ytjiogneidioknaa
open Go.RowKit

/-- the colours of the points -/
def colF (k : Int) (D : Nat) (cs : List Int) (Wd : Nat) (ps : List Int) : Nat → Nat → Int := fun x y => colOf k D cs (ps.getD (y * Wd + x) 0)

theorem spot_in {Wd Hi pn x y : Nat} (hx : x < Wd) (hy : y < Hi) (hW : Wd ≤ 20) (hH : Hi ≤ 20) (hm : pn = Wd * Hi) : Spot (Wd : Int) (Hi : Int) (x : Int) (y : Int) pn (y * Wd + x) x y Wd := by
  have h1 : (y + 1) * Wd ≤ Hi * Wd := Nat.mul_le_mul_right _ (by omega)
  rw [Nat.add_mul, Nat.one_mul, Nat.mul_comm Hi Wd] at h1
  have h2 : Wd * Hi ≤ 20 * 20 := Nat.mul_le_mul (by omega) (by omega)
  exact ⟨rfl, rfl, rfl, rfl, by omega, by omega⟩

theorem gray_cma (A B : Nat) (D Wd Hi : Nat) (ca : Option Addr) (cn cc : Nat) (pa : Option Addr) (pn pc : Nat) (w : World) : (method 198 56 (.agg #[.iface 49 (.agg #[.int .i64 1, .int .i64 (D : Int), .int .i64 (Wd : Int), .int .i64 (Hi : Int), .slice ca cn cc, .slice pa pn pc]), .func (.func 65) #[] #[.pointer (some ⟨A, 0, none⟩), .pointer (some ⟨B, 0, none⟩)]]) "loop.example/intarsia/impl.at").run Try.prog w = .ok (86, .agg #[.iface 49 (.agg #[.int .i64 1, .int .i64 (D : Int), .int .i64 (Wd : Int), .int .i64 (Hi : Int), .slice ca cn cc, .slice pa pn pc]), .func (.func 65) #[] #[.pointer (some ⟨A, 0, none⟩), .pointer (some ⟨B, 0, none⟩)]]) w := by kernel_rfl
theorem gray_cna (A B : Nat) (D Wd Hi : Nat) (ca : Option Addr) (cn cc : Nat) (pa : Option Addr) (pn pc : Nat) (w : World) : (nilAhead 198 56 (.agg #[.iface 49 (.agg #[.int .i64 1, .int .i64 (D : Int), .int .i64 (Wd : Int), .int .i64 (Hi : Int), .slice ca cn cc, .slice pa pn pc]), .func (.func 65) #[] #[.pointer (some ⟨A, 0, none⟩), .pointer (some ⟨B, 0, none⟩)]]) "loop.example/intarsia/impl.at").run Try.prog w = .ok (some false) w := by kernel_rfl
theorem gray_cms (A B : Nat) (D Wd Hi : Nat) (ca : Option Addr) (cn cc : Nat) (pa : Option Addr) (pn pc : Nat) (w : World) : (method 198 56 (.agg #[.iface 49 (.agg #[.int .i64 1, .int .i64 (D : Int), .int .i64 (Wd : Int), .int .i64 (Hi : Int), .slice ca cn cc, .slice pa pn pc]), .func (.func 65) #[] #[.pointer (some ⟨A, 0, none⟩), .pointer (some ⟨B, 0, none⟩)]]) "loop.example/intarsia/impl.size").run Try.prog w = .ok (85, .agg #[.int .i64 1, .int .i64 (D : Int), .int .i64 (Wd : Int), .int .i64 (Hi : Int), .slice ca cn cc, .slice pa pn pc]) w := by kernel_rfl
theorem gray_cns (A B : Nat) (D Wd Hi : Nat) (ca : Option Addr) (cn cc : Nat) (pa : Option Addr) (pn pc : Nat) (w : World) : (nilAhead 198 56 (.agg #[.iface 49 (.agg #[.int .i64 1, .int .i64 (D : Int), .int .i64 (Wd : Int), .int .i64 (Hi : Int), .slice ca cn cc, .slice pa pn pc]), .func (.func 65) #[] #[.pointer (some ⟨A, 0, none⟩), .pointer (some ⟨B, 0, none⟩)]]) "loop.example/intarsia/impl.size").run Try.prog w = .ok (some false) w := by kernel_rfl

theorem gray_cseen (A B : Nat) (D Wd Hi : Nat) (ca : Option Addr) (cn cc : Nat) (pa : Option Addr) (pn pc : Nat) (cs ps : List Int) (w : World) (hok : Im.Ok 1 (D : Int) (Wd : Int) (Hi : Int) cs ps) (hA : w.cell? ⟨A, 0, none⟩ = some (.func (.func 64) #[] #[])) (hB : w.cell? ⟨B, 0, none⟩ = some (.int .i64 (stepOf D : Int))) (hA2 : A < w.heap.size) (hB2 : B < w.heap.size) (hp : Ints w pa ps) (hpn : ps.length = pn) (hW : Wd ≤ 20) (hH : Hi ≤ 20) (hm : pn = Wd * Hi) :
    Seen 56 (.agg #[.iface 49 (.agg #[.int .i64 1, .int .i64 (D : Int), .int .i64 (Wd : Int), .int .i64 (Hi : Int), .slice ca cn cc, .slice pa pn pc]), .func (.func 65) #[] #[.pointer (some ⟨A, 0, none⟩), .pointer (some ⟨B, 0, none⟩)]]) 85 (.agg #[.int .i64 1, .int .i64 (D : Int), .int .i64 (Wd : Int), .int .i64 (Hi : Int), .slice ca cn cc, .slice pa pn pc]) 86 (.agg #[.iface 49 (.agg #[.int .i64 1, .int .i64 (D : Int), .int .i64 (Wd : Int), .int .i64 (Hi : Int), .slice ca cn cc, .slice pa pn pc]), .func (.func 65) #[] #[.pointer (some ⟨A, 0, none⟩), .pointer (some ⟨B, 0, none⟩)]]) Wd Hi (colF 1 D cs Wd ps) w.heap.size w where
  ms := gray_cms A B D Wd Hi ca cn cc pa pn pc
  ns := gray_cns A B D Wd Hi ca cn cc pa pn pc
  ma := gray_cma A B D Wd Hi ca cn cc pa pn pc
  na := gray_cna A B D Wd Hi ca cn cc pa pn pc
  es := enters_of Try.func85 (by kernel_rfl) rfl
  ea := enters_of Try.func86 (by kernel_rfl) rfl
  size := fun w' _ => size_any 1 (D : Int) (Wd : Int) (Hi : Int) ca cn cc pa pn pc w'
  at' := fun w' x y hx hy b => by
    have hs := spot_in hx hy hW hH hm
    obtain ⟨p, hpt, hPO⟩ := Im.pt_ok hok (y * Wd + x) (by rw [hpn]; exact hs.lt)
    obtain ⟨hDD, hp2⟩ : (D = 1 ∨ D = 2 ∨ D = 4 ∨ D = 8) ∧ p < 2 ^ D := by
      rcases hPO with ⟨_, h1, h2⟩ | ⟨h1, _⟩ | h1 | ⟨h1, _⟩
      · exact ⟨h1, h2⟩
      · exact absurd h1 (by decide)
      · exact absurd h1 (by decide)
      · exact absurd h1 (by decide)
    have hst : p * stepOf D ≤ 255 := (gray_step hDD hp2).2.2.1
    have hcol : colOf 1 D cs (p : Int) = (p : Int) * (stepOf D : Int) * 16843008 + 255 := by unfold colOf; rw [if_pos rfl]
    show Calls Try.prog _ _ _ fun e w'' => e = .returned (.int .i64 (colOf 1 D cs (ps.getD (y * Wd + x) 0))) ∧ _
    rw [hpt]
    exact changed_gray 1 (D : Int) (Wd : Int) (Hi : Int) (x : Int) (y : Int) (p : Int) _ A B ca cn cc pa pn pc w' (fun w'' b' => by
      have := at_any 1 (D : Int) (Wd : Int) (Hi : Int) (x : Int) (y : Int) ca cn cc pa pn pc ps w'' _ _ _ _ hs ((hp.kept b).kept b') hpn
      rw [hpt] at this; exact this) (fun w'' b' => (gray_any A B (stepOf D) p w'' (((b.trans (b'.mono b.size)).cell (p := ⟨A, 0, none⟩) hA2).trans hA) (((b.trans (b'.mono b.size)).cell (p := ⟨B, 0, none⟩) hB2).trans hB) hst).mono (fun e w3 h => ⟨by rw [h.1, hcol], by rw [h.2]; exact Below.refl _ _⟩))

theorem pal_cma (A B : Nat) (D Wd Hi : Nat) (ca : Option Addr) (cn cc : Nat) (pa : Option Addr) (pn pc : Nat) (w : World) : (method 198 56 (.agg #[.iface 49 (.agg #[.int .i64 4, .int .i64 (D : Int), .int .i64 (Wd : Int), .int .i64 (Hi : Int), .slice ca cn cc, .slice pa pn pc]), .func (.func 66) #[] #[.pointer (some ⟨A, 0, none⟩), .pointer (some ⟨B, 0, none⟩)]]) "loop.example/intarsia/impl.at").run Try.prog w = .ok (86, .agg #[.iface 49 (.agg #[.int .i64 4, .int .i64 (D : Int), .int .i64 (Wd : Int), .int .i64 (Hi : Int), .slice ca cn cc, .slice pa pn pc]), .func (.func 66) #[] #[.pointer (some ⟨A, 0, none⟩), .pointer (some ⟨B, 0, none⟩)]]) w := by kernel_rfl
theorem pal_cna (A B : Nat) (D Wd Hi : Nat) (ca : Option Addr) (cn cc : Nat) (pa : Option Addr) (pn pc : Nat) (w : World) : (nilAhead 198 56 (.agg #[.iface 49 (.agg #[.int .i64 4, .int .i64 (D : Int), .int .i64 (Wd : Int), .int .i64 (Hi : Int), .slice ca cn cc, .slice pa pn pc]), .func (.func 66) #[] #[.pointer (some ⟨A, 0, none⟩), .pointer (some ⟨B, 0, none⟩)]]) "loop.example/intarsia/impl.at").run Try.prog w = .ok (some false) w := by kernel_rfl
theorem pal_cms (A B : Nat) (D Wd Hi : Nat) (ca : Option Addr) (cn cc : Nat) (pa : Option Addr) (pn pc : Nat) (w : World) : (method 198 56 (.agg #[.iface 49 (.agg #[.int .i64 4, .int .i64 (D : Int), .int .i64 (Wd : Int), .int .i64 (Hi : Int), .slice ca cn cc, .slice pa pn pc]), .func (.func 66) #[] #[.pointer (some ⟨A, 0, none⟩), .pointer (some ⟨B, 0, none⟩)]]) "loop.example/intarsia/impl.size").run Try.prog w = .ok (85, .agg #[.int .i64 4, .int .i64 (D : Int), .int .i64 (Wd : Int), .int .i64 (Hi : Int), .slice ca cn cc, .slice pa pn pc]) w := by kernel_rfl
theorem pal_cns (A B : Nat) (D Wd Hi : Nat) (ca : Option Addr) (cn cc : Nat) (pa : Option Addr) (pn pc : Nat) (w : World) : (nilAhead 198 56 (.agg #[.iface 49 (.agg #[.int .i64 4, .int .i64 (D : Int), .int .i64 (Wd : Int), .int .i64 (Hi : Int), .slice ca cn cc, .slice pa pn pc]), .func (.func 66) #[] #[.pointer (some ⟨A, 0, none⟩), .pointer (some ⟨B, 0, none⟩)]]) "loop.example/intarsia/impl.size").run Try.prog w = .ok (some false) w := by kernel_rfl

theorem pal_cseen (A B : Nat) (D Wd Hi : Nat) (ca : Option Addr) (cn cc : Nat) (pa : Option Addr) (pn pc : Nat) (cs ps : List Int) (w : World) (hok : Im.Ok 4 (D : Int) (Wd : Int) (Hi : Int) cs ps) (hA : w.cell? ⟨A, 0, none⟩ = some (.func (.func 64) #[] #[])) (hB : w.cell? ⟨B, 4, none⟩ = some (.slice ca cn cc)) (hA2 : A < w.heap.size) (hB2 : B < w.heap.size) (hc : Ints w ca cs) (hcn : cs.length = cn) (hp : Ints w pa ps) (hpn : ps.length = pn) (hW : Wd ≤ 20) (hH : Hi ≤ 20) (hm : pn = Wd * Hi) :
    Seen 56 (.agg #[.iface 49 (.agg #[.int .i64 4, .int .i64 (D : Int), .int .i64 (Wd : Int), .int .i64 (Hi : Int), .slice ca cn cc, .slice pa pn pc]), .func (.func 66) #[] #[.pointer (some ⟨A, 0, none⟩), .pointer (some ⟨B, 0, none⟩)]]) 85 (.agg #[.int .i64 4, .int .i64 (D : Int), .int .i64 (Wd : Int), .int .i64 (Hi : Int), .slice ca cn cc, .slice pa pn pc]) 86 (.agg #[.iface 49 (.agg #[.int .i64 4, .int .i64 (D : Int), .int .i64 (Wd : Int), .int .i64 (Hi : Int), .slice ca cn cc, .slice pa pn pc]), .func (.func 66) #[] #[.pointer (some ⟨A, 0, none⟩), .pointer (some ⟨B, 0, none⟩)]]) Wd Hi (colF 4 D cs Wd ps) w.heap.size w where
  ms := pal_cms A B D Wd Hi ca cn cc pa pn pc
  ns := pal_cns A B D Wd Hi ca cn cc pa pn pc
  ma := pal_cma A B D Wd Hi ca cn cc pa pn pc
  na := pal_cna A B D Wd Hi ca cn cc pa pn pc
  es := enters_of Try.func85 (by kernel_rfl) rfl
  ea := enters_of Try.func86 (by kernel_rfl) rfl
  size := fun w' _ => size_any 4 (D : Int) (Wd : Int) (Hi : Int) ca cn cc pa pn pc w'
  at' := fun w' x y hx hy b => by
    have hs := spot_in hx hy hW hH hm
    obtain ⟨p, hpt, hPO⟩ := Im.pt_ok hok (y * Wd + x) (by rw [hpn]; exact hs.lt)
    obtain ⟨hpc, hWi⟩ : p < cs.length ∧ Within 16777215 cs := by
      rcases hPO with ⟨h1, _⟩ | ⟨h1, _⟩ | h1 | ⟨_, h1, h2⟩
      · exact absurd h1 (by decide)
      · exact absurd h1 (by decide)
      · exact absurd h1 (by decide)
      · exact ⟨h1, h2⟩
    have hcol : colOf 4 D cs (p : Int) = cs.getD p 0 * 256 + 255 := by unfold colOf; rw [if_neg (by decide), if_neg (by decide), if_pos rfl, Int.toNat_natCast]
    show Calls Try.prog _ _ _ fun e w'' => e = .returned (.int .i64 (colOf 4 D cs (ps.getD (y * Wd + x) 0))) ∧ _
    rw [hpt]
    exact changed_pal 4 (D : Int) (Wd : Int) (Hi : Int) (x : Int) (y : Int) (p : Int) _ A B ca cn cc pa pn pc w' (fun w'' b' => by
      have := at_any 4 (D : Int) (Wd : Int) (Hi : Int) (x : Int) (y : Int) ca cn cc pa pn pc ps w'' _ _ _ _ hs ((hp.kept b).kept b') hpn
      rw [hpt] at this; exact this) (fun w'' b' => (pal_any A B p cn cc ca cs w'' (((b.trans (b'.mono b.size)).cell (p := ⟨A, 0, none⟩) hA2).trans hA) (((b.trans (b'.mono b.size)).cell (p := ⟨B, 4, none⟩) hB2).trans hB) ((hc.kept b).kept b') hcn (by omega) hWi).mono (fun e w3 h => ⟨by rw [h.1, hcol], by obtain ⟨m, hm⟩ := h.2; rw [hm]; exact below_drewN (Below.refl _ _) _⟩))

theorem rgb_cma (D Wd Hi : Nat) (ca : Option Addr) (cn cc : Nat) (pa : Option Addr) (pn pc : Nat) (w : World) : (method 198 56 (.agg #[.iface 49 (.agg #[.int .i64 2, .int .i64 (D : Int), .int .i64 (Wd : Int), .int .i64 (Hi : Int), .slice ca cn cc, .slice pa pn pc]), .func (.func 64) #[] #[]]) "loop.example/intarsia/impl.at").run Try.prog w = .ok (86, .agg #[.iface 49 (.agg #[.int .i64 2, .int .i64 (D : Int), .int .i64 (Wd : Int), .int .i64 (Hi : Int), .slice ca cn cc, .slice pa pn pc]), .func (.func 64) #[] #[]]) w := by kernel_rfl
theorem rgb_cna (D Wd Hi : Nat) (ca : Option Addr) (cn cc : Nat) (pa : Option Addr) (pn pc : Nat) (w : World) : (nilAhead 198 56 (.agg #[.iface 49 (.agg #[.int .i64 2, .int .i64 (D : Int), .int .i64 (Wd : Int), .int .i64 (Hi : Int), .slice ca cn cc, .slice pa pn pc]), .func (.func 64) #[] #[]]) "loop.example/intarsia/impl.at").run Try.prog w = .ok (some false) w := by kernel_rfl
theorem rgb_cms (D Wd Hi : Nat) (ca : Option Addr) (cn cc : Nat) (pa : Option Addr) (pn pc : Nat) (w : World) : (method 198 56 (.agg #[.iface 49 (.agg #[.int .i64 2, .int .i64 (D : Int), .int .i64 (Wd : Int), .int .i64 (Hi : Int), .slice ca cn cc, .slice pa pn pc]), .func (.func 64) #[] #[]]) "loop.example/intarsia/impl.size").run Try.prog w = .ok (85, .agg #[.int .i64 2, .int .i64 (D : Int), .int .i64 (Wd : Int), .int .i64 (Hi : Int), .slice ca cn cc, .slice pa pn pc]) w := by kernel_rfl
theorem rgb_cns (D Wd Hi : Nat) (ca : Option Addr) (cn cc : Nat) (pa : Option Addr) (pn pc : Nat) (w : World) : (nilAhead 198 56 (.agg #[.iface 49 (.agg #[.int .i64 2, .int .i64 (D : Int), .int .i64 (Wd : Int), .int .i64 (Hi : Int), .slice ca cn cc, .slice pa pn pc]), .func (.func 64) #[] #[]]) "loop.example/intarsia/impl.size").run Try.prog w = .ok (some false) w := by kernel_rfl

theorem rgb_cseen (D Wd Hi : Nat) (ca : Option Addr) (cn cc : Nat) (pa : Option Addr) (pn pc : Nat) (cs ps : List Int) (w : World) (hok : Im.Ok 2 (D : Int) (Wd : Int) (Hi : Int) cs ps) (hp : Ints w pa ps) (hpn : ps.length = pn) (hW : Wd ≤ 20) (hH : Hi ≤ 20) (hm : pn = Wd * Hi) :
    Seen 56 (.agg #[.iface 49 (.agg #[.int .i64 2, .int .i64 (D : Int), .int .i64 (Wd : Int), .int .i64 (Hi : Int), .slice ca cn cc, .slice pa pn pc]), .func (.func 64) #[] #[]]) 85 (.agg #[.int .i64 2, .int .i64 (D : Int), .int .i64 (Wd : Int), .int .i64 (Hi : Int), .slice ca cn cc, .slice pa pn pc]) 86 (.agg #[.iface 49 (.agg #[.int .i64 2, .int .i64 (D : Int), .int .i64 (Wd : Int), .int .i64 (Hi : Int), .slice ca cn cc, .slice pa pn pc]), .func (.func 64) #[] #[]]) Wd Hi (colF 2 D cs Wd ps) w.heap.size w where
  ms := rgb_cms D Wd Hi ca cn cc pa pn pc
  ns := rgb_cns D Wd Hi ca cn cc pa pn pc
  ma := rgb_cma D Wd Hi ca cn cc pa pn pc
  na := rgb_cna D Wd Hi ca cn cc pa pn pc
  es := enters_of Try.func85 (by kernel_rfl) rfl
  ea := enters_of Try.func86 (by kernel_rfl) rfl
  size := fun w' _ => size_any 2 (D : Int) (Wd : Int) (Hi : Int) ca cn cc pa pn pc w'
  at' := fun w' x y hx hy b => by
    have hs := spot_in hx hy hW hH hm
    obtain ⟨p, hpt, hPO⟩ := Im.pt_ok hok (y * Wd + x) (by rw [hpn]; exact hs.lt)
    have hpb : p ≤ 16777216 := by
      rcases hPO with ⟨h1, _⟩ | ⟨_, h1⟩ | h1 | ⟨h1, _⟩
      · exact absurd h1 (by decide)
      · exact h1
      · exact absurd h1 (by decide)
      · exact absurd h1 (by decide)
    have hcol : colOf 2 D cs (p : Int) = (p : Int) * 256 + 255 := by unfold colOf; rw [if_neg (by decide), if_pos rfl]
    show Calls Try.prog _ _ _ fun e w'' => e = .returned (.int .i64 (colOf 2 D cs (ps.getD (y * Wd + x) 0))) ∧ _
    rw [hpt]
    exact changed_rgb 2 (D : Int) (Wd : Int) (Hi : Int) (x : Int) (y : Int) (p : Int) _ ca cn cc pa pn pc w' (fun w'' b' => by
      have := at_any 2 (D : Int) (Wd : Int) (Hi : Int) (x : Int) (y : Int) ca cn cc pa pn pc ps w'' _ _ _ _ hs ((hp.kept b).kept b') hpn
      rw [hpt] at this; exact this) (fun w'' _ => (solid_any (p : Int) w'' (by omega) (by omega)).mono (fun e w3 h => ⟨by rw [h.1, hcol], by rw [h.2]; exact Below.refl _ _⟩))

theorem rgba_cma (D Wd Hi : Nat) (ca : Option Addr) (cn cc : Nat) (pa : Option Addr) (pn pc : Nat) (w : World) : (method 198 56 (.agg #[.iface 49 (.agg #[.int .i64 3, .int .i64 (D : Int), .int .i64 (Wd : Int), .int .i64 (Hi : Int), .slice ca cn cc, .slice pa pn pc]), .func (.func 67) #[] #[]]) "loop.example/intarsia/impl.at").run Try.prog w = .ok (86, .agg #[.iface 49 (.agg #[.int .i64 3, .int .i64 (D : Int), .int .i64 (Wd : Int), .int .i64 (Hi : Int), .slice ca cn cc, .slice pa pn pc]), .func (.func 67) #[] #[]]) w := by kernel_rfl
theorem rgba_cna (D Wd Hi : Nat) (ca : Option Addr) (cn cc : Nat) (pa : Option Addr) (pn pc : Nat) (w : World) : (nilAhead 198 56 (.agg #[.iface 49 (.agg #[.int .i64 3, .int .i64 (D : Int), .int .i64 (Wd : Int), .int .i64 (Hi : Int), .slice ca cn cc, .slice pa pn pc]), .func (.func 67) #[] #[]]) "loop.example/intarsia/impl.at").run Try.prog w = .ok (some false) w := by kernel_rfl
theorem rgba_cms (D Wd Hi : Nat) (ca : Option Addr) (cn cc : Nat) (pa : Option Addr) (pn pc : Nat) (w : World) : (method 198 56 (.agg #[.iface 49 (.agg #[.int .i64 3, .int .i64 (D : Int), .int .i64 (Wd : Int), .int .i64 (Hi : Int), .slice ca cn cc, .slice pa pn pc]), .func (.func 67) #[] #[]]) "loop.example/intarsia/impl.size").run Try.prog w = .ok (85, .agg #[.int .i64 3, .int .i64 (D : Int), .int .i64 (Wd : Int), .int .i64 (Hi : Int), .slice ca cn cc, .slice pa pn pc]) w := by kernel_rfl
theorem rgba_cns (D Wd Hi : Nat) (ca : Option Addr) (cn cc : Nat) (pa : Option Addr) (pn pc : Nat) (w : World) : (nilAhead 198 56 (.agg #[.iface 49 (.agg #[.int .i64 3, .int .i64 (D : Int), .int .i64 (Wd : Int), .int .i64 (Hi : Int), .slice ca cn cc, .slice pa pn pc]), .func (.func 67) #[] #[]]) "loop.example/intarsia/impl.size").run Try.prog w = .ok (some false) w := by kernel_rfl

theorem rgba_cseen (D Wd Hi : Nat) (ca : Option Addr) (cn cc : Nat) (pa : Option Addr) (pn pc : Nat) (cs ps : List Int) (w : World) (hok : Im.Ok 3 (D : Int) (Wd : Int) (Hi : Int) cs ps) (hp : Ints w pa ps) (hpn : ps.length = pn) (hW : Wd ≤ 20) (hH : Hi ≤ 20) (hm : pn = Wd * Hi) :
    Seen 56 (.agg #[.iface 49 (.agg #[.int .i64 3, .int .i64 (D : Int), .int .i64 (Wd : Int), .int .i64 (Hi : Int), .slice ca cn cc, .slice pa pn pc]), .func (.func 67) #[] #[]]) 85 (.agg #[.int .i64 3, .int .i64 (D : Int), .int .i64 (Wd : Int), .int .i64 (Hi : Int), .slice ca cn cc, .slice pa pn pc]) 86 (.agg #[.iface 49 (.agg #[.int .i64 3, .int .i64 (D : Int), .int .i64 (Wd : Int), .int .i64 (Hi : Int), .slice ca cn cc, .slice pa pn pc]), .func (.func 67) #[] #[]]) Wd Hi (colF 3 D cs Wd ps) w.heap.size w where
  ms := rgba_cms D Wd Hi ca cn cc pa pn pc
  ns := rgba_cns D Wd Hi ca cn cc pa pn pc
  ma := rgba_cma D Wd Hi ca cn cc pa pn pc
  na := rgba_cna D Wd Hi ca cn cc pa pn pc
  es := enters_of Try.func85 (by kernel_rfl) rfl
  ea := enters_of Try.func86 (by kernel_rfl) rfl
  size := fun w' _ => size_any 3 (D : Int) (Wd : Int) (Hi : Int) ca cn cc pa pn pc w'
  at' := fun w' x y hx hy b => by
    have hs := spot_in hx hy hW hH hm
    obtain ⟨p, hpt, hPO⟩ := Im.pt_ok hok (y * Wd + x) (by rw [hpn]; exact hs.lt)
    have hcol : colOf 3 D cs (p : Int) = (p : Int) := by unfold colOf; rw [if_neg (by decide), if_neg (by decide), if_neg (by decide)]
    show Calls Try.prog _ _ _ fun e w'' => e = .returned (.int .i64 (colOf 3 D cs (ps.getD (y * Wd + x) 0))) ∧ _
    rw [hpt]
    exact changed_rgba 3 (D : Int) (Wd : Int) (Hi : Int) (x : Int) (y : Int) (p : Int) _ ca cn cc pa pn pc w' (fun w'' b' => by
      have := at_any 3 (D : Int) (Wd : Int) (Hi : Int) (x : Int) (y : Int) ca cn cc pa pn pc ps w'' _ _ _ _ hs ((hp.kept b).kept b') hpn
      rw [hpt] at this; exact this) (fun w'' _ => (same_any (p : Int) w'').mono (fun e w3 h => ⟨by rw [h.1, hcol], by rw [h.2]; exact Below.refl _ _⟩))

/-- a picture that is ok, seen by its colours -/
theorem colored_seen (k : Int) (D Wd Hi : Nat) (ca : Option Addr) (cn cc : Nat) (pa : Option Addr) (pn pc : Nat) (cs ps : List Int) (w : World) (hok : Im.Ok k (D : Int) (Wd : Int) (Hi : Int) cs ps) (hc : Ints w ca cs) (hcn : cs.length = cn) (hp : Ints w pa ps) (hpn : ps.length = pn) (hW : Wd ≤ 20) (hH : Hi ≤ 20) (hm : pn = Wd * Hi) :
    Calls Try.prog 44 #[.agg #[.int .i64 k, .int .i64 (D : Int), .int .i64 (Wd : Int), .int .i64 (Hi : Int), .slice ca cn cc, .slice pa pn pc]] w fun e w' => (∃ V fs rs fa ra, e = .returned (.iface 56 V) ∧ Seen 56 V fs rs fa ra Wd Hi (colF k D cs Wd ps) w'.heap.size w') ∧ Below w.heap.size w w' := by
  rcases Im.kinds hok.1 with ⟨rfl, hD⟩ | ⟨rfl, hD⟩ | ⟨rfl, hD⟩ | ⟨rfl, hD⟩
  · refine (colored_gray D (Wd : Int) (Hi : Int) ca cn cc pa pn pc w hD).mono ?_
    rintro e w' ⟨⟨A, B, rfl, hA, hB, hA2, hB2⟩, b⟩
    exact ⟨⟨_, _, _, _, _, rfl, gray_cseen A B D Wd Hi ca cn cc pa pn pc cs ps w' hok hA hB hA2 hB2 (hp.kept b) hpn hW hH hm⟩, b⟩
  · refine (colored_rgb (D : Int) (Wd : Int) (Hi : Int) ca cn cc pa pn pc w).mono ?_
    rintro e w' ⟨rfl, b⟩
    exact ⟨⟨_, _, _, _, _, rfl, rgb_cseen D Wd Hi ca cn cc pa pn pc cs ps w' hok (hp.kept b) hpn hW hH hm⟩, b⟩
  · refine (colored_rgba (D : Int) (Wd : Int) (Hi : Int) ca cn cc pa pn pc w).mono ?_
    rintro e w' ⟨rfl, b⟩
    exact ⟨⟨_, _, _, _, _, rfl, rgba_cseen D Wd Hi ca cn cc pa pn pc cs ps w' hok (hp.kept b) hpn hW hH hm⟩, b⟩
  · refine (colored_pal (D : Int) (Wd : Int) (Hi : Int) ca cn cc pa pn pc w).mono ?_
    rintro e w' ⟨⟨A, B, rfl, hA, hB, hA2, hB2⟩, b⟩
    exact ⟨⟨_, _, _, _, _, rfl, pal_cseen A B D Wd Hi ca cn cc pa pn pc cs ps w' hok hA hB hA2 hB2 (hc.kept b) hcn (hp.kept b) hpn hW hH hm⟩, b⟩

/-- all points of a view, gathered -/
theorem gathered (T : TypeId) (V : Value) (fs : Nat) (rs : Value) (fa : Nat) (ra : Value) (wd hi : Nat) (f : Nat → Nat → Int) (hwd : wd ≤ 20) (hhi : hi ≤ 20) (w : World) (S : Seen T V fs rs fa ra wd hi f w.heap.size w) :
    Calls Try.prog 43 #[.func (.func 56) #[] #[.pointer (some ⟨w.heap.size, 0, none⟩)]] (w.alloc (.cells #[.iface T V] 54)) fun e W' => (∃ y cy, e = .returned (.slice y (wd * hi) cy) ∧ Ints W' y (upto (ptF wd f) (wd * hi))) ∧ Below w.heap.size w W' := by
  have hmul : wd * hi ≤ 20 * 20 := Nat.mul_le_mul hwd hhi
  refine (collect_any 56 _ (enters_of Try.func56 (by kernel_rfl) rfl) _ (by rw [upto_length]; unfold maxLen; omega) (by rw [upto_length]; omega) _ (points_tells 1 (Nat.le_refl _) T V fs rs fa ra wd hi f hwd hhi w S)).mono ?_
  rintro e w4 ⟨⟨v, rfl, hv, _⟩, b4⟩
  have hO4 := ownI_of_row hv
  rw [upto_length] at hO4
  obtain ⟨y, cy, rfl, hOy⟩ := hO4.owns
  exact ⟨⟨y, cy, rfl, hOy.ints⟩, ((Below.refl _ _).alloc (Nat.le_refl _) _).trans (b4.mono (by simp))⟩

/-- the colours of all points -/
def cols (k : Int) (D : Nat) (cs ps : List Int) : List Int := ps.map fun p => colOf k D cs p
theorem cols_upto (k : Int) (D : Nat) (cs ps : List Int) (Wd Hi : Nat) (hpn : ps.length = Wd * Hi) : upto (ptF Wd (colF k D cs Wd ps)) (Wd * Hi) = cols k D cs ps := by
  apply List.ext_getElem
  · rw [upto_length]; simp [cols, hpn]
  · intro i h1 h2
    simp only [upto, cols, List.getElem_map, List.getElem_range]
    unfold ptF colF
    have hi : i < ps.length := by simpa [cols] using h2
    have e : i / Wd * Wd + i % Wd = i := by rw [Nat.mul_comm]; exact Nat.div_add_mod i Wd
    rw [e, List.getD_eq_getElem?_getD, List.getElem?_eq_getElem hi]; rfl

theorem drewN_add (w : World) (a b : Nat) : (w.drewN a).drewN b = w.drewN (a + b) := by
  simp [World.drewN, Nat.add_assoc]

set_option maxHeartbeats 1000000 in
theorem equal_any (a : Option Addr) (n ca : Nat) (la : List Int) (b : Option Addr) (m cb : Nat) (lb : List Int) (w : World) (ha : Ints w a la) (hb : Ints w b lb) (hna : la.length = n) (hnb : lb.length = m) (hn : n ≤ 2000000) (hm : m ≤ 2000000) :
    Calls Try.prog 42 #[.slice a n ca, .slice b m cb] w fun e w' => e = .returned (.bool (decide (la = lb))) ∧ ∃ q, w' = w.drewN q := by
  by_cases hnm : n = m
  · subst hnm
    have HA : Hid (Ints w a la) := ha
    have HB : Hid (Ints w b lb) := hb
    have HN : Hid (la.length = n ∧ lb.length = n) := ⟨hna, hnb⟩
    clear ha hb hna hnb
    go_enter Try.func42, Try.ntmps42
    go_wp2_with fail
    go_loopw [13] (fun i wr => ∃ k q : Nat, k ≤ n ∧ i = .int .i64 k ∧ (∀ j, j < k → la.getD j 0 = lb.getD j 0) ∧ wr = w.drewN q) (fun i _ => n - (intOf i).toNat)
    case atStart => exact ⟨0, 0, Nat.zero_le _, rfl, fun j hj => absurd hj (by omega), rfl⟩
    case round =>
      obtain ⟨k, q, hk, rfl, hall, hwr⟩ := hrel
      have HWR : Hid (wr = w.drewN q) := hwr
      have HALL : Hid (∀ j, j < k → la.getD j 0 = lb.getD j 0) := hall
      clear hall
      by_cases hlt : k < n
      · have hka : k < la.length := by have := HN.out.1; omega
        have hkb : k < lb.length := by have := HN.out.2; omega
        rcases HA.out with h | ⟨b1, o1, rfl, hb1, c1⟩
        · rw [h] at hka; simp at hka
        · rcases HB.out with h | ⟨b2, o2, rfl, hb2, c2⟩
          · rw [h] at hkb; simp at hkb
          · have e1 : wr.cell? ⟨b1, o1 + k, none⟩ = some (.int .i64 (la.getD k 0)) := by
              have := c1 k hka
              rw [hwr, List.getD_eq_getElem?_getD, List.getElem?_eq_getElem hka]; exact this
            have e2 : wr.cell? ⟨b2, o2 + k, none⟩ = some (.int .i64 (lb.getD k 0)) := by
              have := c2 k hkb
              rw [hwr, List.getD_eq_getElem?_getD, List.getElem?_eq_getElem hkb]; exact this
            have hki : (k : Int) < (n : Int) := by omega
            obtain ⟨u, hu⟩ : ∃ u, u = la.getD k 0 := ⟨_, rfl⟩
            obtain ⟨v, hv⟩ : ∃ v, v = lb.getD k 0 := ⟨_, rfl⟩
            rw [← hu] at e1
            rw [← hv] at e2
            have HUV : Hid (u = la.getD k 0 ∧ v = lb.getD k 0) := ⟨hu, hv⟩
            clear c1 c2 hu hv hwr
            by_cases huv : u = v
            · subst huv
              have HAL2 : Hid (∀ j, j < k + 1 → la.getD j 0 = lb.getD j 0) := fun j hj => by
                by_cases e : j < k
                · exact HALL.out j e
                · have : j = k := by omega
                  subst this
                  rw [← HUV.out.1, ← HUV.out.2]
              clear HALL HUV
              go_wp2_with fail
              go_quiet (fail)
              go_wp2_with fail
              go_roundw
              case rel => exact ⟨k + 1, q + nq, by omega, by go_num, HAL2.out, by rw [HWR.out, drewN_add]⟩
              case measure => simp [intOf]; omega
            · have HD : Hid (decide (la = lb) = false) := decide_eq_false (fun e => huv (by rw [HUV.out.1, HUV.out.2, e]))
              have hbne : (u == v) = false := by rw [beq_eq_false_iff_ne]; exact huv
              clear HALL HUV
              go_wp2_with fail
              go_quiet (fail)
              go_wp2_with fail
              go_ret
              exact ⟨by rw [HD.out]; rfl, q + nq, by rw [HWR.out, drewN_add]⟩
      · have HD : Hid (decide (la = lb) = true) := decide_eq_true (by
          apply List.ext_getElem
          · rw [HN.out.1, HN.out.2]
          · intro i h1 h2
            have := HALL.out i (by have := HN.out.1; omega)
            rw [List.getD_eq_getElem?_getD, List.getElem?_eq_getElem h1, List.getD_eq_getElem?_getD, List.getElem?_eq_getElem h2] at this
            exact this)
        have hlt' : ¬ (k : Int) < (n : Int) := by omega
        clear HALL hwr
        go_wp2_with fail
        go_ret
        exact ⟨by rw [HD.out]; rfl, q, HWR.out⟩
  · have HD : Hid (decide (la = lb) = false) := decide_eq_false (fun e => hnm (by rw [← hna, ← hnb, e]))
    have hbne : ((n : Int) == (m : Int)) = false := by rw [beq_eq_false_iff_ne]; omega
    have hbne2 : ¬ (n : Int) = (m : Int) := by omega
    clear ha hb hna hnb
    go_enter Try.func42, Try.ntmps42
    go_wp2_with fail
    go_ret
    exact ⟨by rw [HD.out]; rfl, 0, rfl⟩
end Go.Proofs.Ytjiogneidioknaa
