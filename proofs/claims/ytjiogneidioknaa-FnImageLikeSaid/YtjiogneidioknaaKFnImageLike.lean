/- Texts laid together: PicLaw, RgbSeen, RgbMath, SixRow, RnWent, ImplRgb, ColSpecTop, SpecRgb, TopRgb, PalMath, SpecPal, PtsCol, PalList, PalView, ImplPal, TopPal. -/
import Derived.Test.YtjiogneidioknaaMarkFrom
import Derived.Test.YtjiogneidioknaaImgTo
import Derived.Test.YtjiogneidioknaaRow64
import Derived.Test.YtjiogneidioknaaColSeen
import Derived.Test.YtjiogneidioknaaColTop
import Derived.Test.YtjiogneidioknaaDrawnWalks
import Derived.RangeFuncNested
import Derived.RangeFuncBound
import Derived.RangeFuncCalls
import Derived.RangeFuncLeaves
import Derived.Shelf.Abstract
import Derived.RangeFuncBox
import Derived.Test.YtjiogneidioknaaBase
import Derived.Test.YtjiogneidioknaaBlankSpec
import Derived.Test.YtjiogneidioknaaAppOne
import Derived.Deep.RegionHeld3
import Derived.Test.YtjiogneidioknaaImgOk3
import Derived.Test.YtjiogneidioknaaImgSpec3
import Derived.Test.YtjiogneidioknaaImgBox
import Derived.Test.YtjiogneidioknaaPowWalks
import Derived.StillTailTactics
import Derived.Test.YtjiogneidioknaaPtsWalks
import Derived.Test.YtjiogneidioknaaIntOwn
import Derived.Maps.OwnIn
import Derived.Sort.QuietIn
import Derived.Test.YtjiogneidioknaaPlainView
import Derived.Maps.OwnOps
/- For the laws over pictures that are made: boxes that stay, and a copy that is its own. -/
namespace Go.Proofs.Ytjiogneidioknaa
open Go.RowKit

/-- six cells of a block -/
def Bx (w : World) (B : Nat) (v0 v1 v2 v3 v4 v5 : Value) : Prop := B < w.heap.size ∧ w.cell? ⟨B, 0, none⟩ = some v0 ∧ w.cell? ⟨B, 1, none⟩ = some v1 ∧ w.cell? ⟨B, 2, none⟩ = some v2 ∧ w.cell? ⟨B, 3, none⟩ = some v3 ∧ w.cell? ⟨B, 4, none⟩ = some v4 ∧ w.cell? ⟨B, 5, none⟩ = some v5
theorem bx_new (w : World) (v0 v1 v2 v3 v4 v5 : Value) (T : TypeId) : Bx (w.alloc (.cells #[v0, v1, v2, v3, v4, v5] T)) w.heap.size v0 v1 v2 v3 v4 v5 := ⟨by simp, box_new w v0 v1 v2 v3 v4 v5 T⟩
theorem Bx.kept {w w' : World} {B : Nat} {v0 v1 v2 v3 v4 v5 : Value} (h : Bx w B v0 v1 v2 v3 v4 v5) (b : Below w.heap.size w w') : Bx w' B v0 v1 v2 v3 v4 v5 := ⟨Nat.lt_of_lt_of_le h.1 b.size, box_kept h.2 b h.1⟩
theorem Bx.out {w w' : World} {B lo hi : Nat} {v0 v1 v2 v3 v4 v5 : Value} (h : Bx w B v0 v1 v2 v3 v4 v5) (o : Outside lo hi w w') (hB : B < lo ∨ hi ≤ B) : Bx w' B v0 v1 v2 v3 v4 v5 := by
  have hb := o.rest B h.1 hB
  exact ⟨Nat.lt_of_lt_of_le h.1 o.size, (World.cell?_of_block (w := w) (a := ⟨B, 0, none⟩) hb).trans h.2.1, (World.cell?_of_block (w := w) (a := ⟨B, 1, none⟩) hb).trans h.2.2.1, (World.cell?_of_block (w := w) (a := ⟨B, 2, none⟩) hb).trans h.2.2.2.1, (World.cell?_of_block (w := w) (a := ⟨B, 3, none⟩) hb).trans h.2.2.2.2.1, (World.cell?_of_block (w := w) (a := ⟨B, 4, none⟩) hb).trans h.2.2.2.2.2.1, (World.cell?_of_block (w := w) (a := ⟨B, 5, none⟩) hb).trans h.2.2.2.2.2.2⟩

/-- two lists of the call's own in blocks of a stretch, apart -/
def Two (w : World) (lo hi : Nat) (x : Option Addr) (cs : List Int) (y : Option Addr) (ps : List Int) : Prop := ∃ mid, lo ≤ mid ∧ mid ≤ hi ∧ hi ≤ w.heap.size ∧ OwnsIn w lo mid x cs ∧ OwnsIn w mid hi y ps
theorem Two.kept {w w' : World} {lo hi : Nat} {x y : Option Addr} {cs ps : List Int} (h : Two w lo hi x cs y ps) (b : Below w.heap.size w w') : Two w' lo hi x cs y ps := by
  obtain ⟨m, h1, h2, h3, h4, h5⟩ := h
  exact ⟨m, h1, h2, Nat.le_trans h3 b.size, h4.kept b, h5.kept b⟩
theorem Two.out {w w' : World} {lo hi lo' hi' : Nat} {x y : Option Addr} {cs ps : List Int} (h : Two w lo hi x cs y ps) (o : Outside lo' hi' w w') (ho : hi ≤ lo' ∨ hi' ≤ lo) : Two w' lo hi x cs y ps := by
  obtain ⟨m, h1, h2, h3, h4, h5⟩ := h
  exact ⟨m, h1, h2, Nat.le_trans h3 o.size, h4.out o (by omega), h5.out o (by omega)⟩
theorem Two.ints {w : World} {lo hi : Nat} {x y : Option Addr} {cs ps : List Int} (h : Two w lo hi x cs y ps) : Ints w x cs ∧ Ints w y ps := by
  obtain ⟨m, h1, h2, h3, h4, h5⟩ := h
  exact ⟨h4.ints, h5.ints⟩
theorem Pair2.two {w : World} {lo : Nat} {x y : Option Addr} {cs ps : List Int} (h : Pair2 w lo x cs y ps) (hlo : lo ≤ w.heap.size) : Two w lo w.heap.size x cs y ps := by
  obtain ⟨m, h1, h2, h3, h4⟩ := h
  by_cases hm : m ≤ w.heap.size
  · refine ⟨m, h1, hm, Nat.le_refl _, ?_, h4.inn⟩
    rcases h3 with e | ⟨b, rfl, hb⟩
    · exact .inl e
    · rcases h2 with e | ⟨b', e, h5, h6, h7⟩
      · exact .inl e
      · cases e; exact .inr ⟨b, rfl, h5, hb, own_of rfl h6 h7⟩
  · have hps : ps = [] := by
      rcases h4 with e | ⟨b, rfl, hb, hb2, _⟩
      · exact e
      · omega
    exact ⟨w.heap.size, hlo, Nat.le_refl _, Nat.le_refl _, h2.inn, .inl hps⟩

theorem toImage_two (k d wd hi : Int) (ca : Option Addr) (cn cc : Nat) (pa : Option Addr) (pn pc : Nat) (cs ps : List Int) (w : World) (hc : Ints w ca cs) (hcn : cs.length = cn) (hcl : cn ≤ 1048576) (hp : Ints w pa ps) (hpn : ps.length = pn) (hpl : pn ≤ 1048576) :
    Calls Try.prog 8 #[.agg #[.int .i64 k, .int .i64 d, .int .i64 wd, .int .i64 hi, .slice ca cn cc, .slice pa pn pc]] w fun e w' => (∃ x y, e = .returned (.agg #[.int .i64 k, .int .i64 d, .int .i64 wd, .int .i64 hi, .slice x cn cn, .slice y pn pn]) ∧ Two w' w.heap.size w'.heap.size x cs y ps) ∧ Below w.heap.size w w' := by
  refine (toImage_exact k d wd hi ca cn cc pa pn pc cs ps w hc hcn hcl hp hpn hpl).mono ?_
  rintro e w' ⟨rfl, rfl⟩
  refine ⟨⟨_, _, rfl, ?_⟩, toW_below _ _ _ _ _ _ _ _ _ _ _ _ _⟩
  unfold toW
  generalize hW : ((w.alloc (.cells #[.int .i64 k, .int .i64 d, .int .i64 wd, .int .i64 hi, .slice ca cn cc, .slice pa pn pc] 24)).alloc (.cells #[.int .i64 k, .int .i64 d, .int .i64 wd, .int .i64 hi, .slice (some ⟨w.heap.size + 1 + 1 + 1, 0, none⟩) cn cn, .slice (some ⟨w.heap.size + 1 + 1 + 1 + 1, 0, none⟩) pn pn] 26)).alloc (.cells #[.int .i64 k, .int .i64 d, .int .i64 wd, .int .i64 hi, .slice (some ⟨w.heap.size + 1 + 1 + 1, 0, none⟩) cn cn, .slice (some ⟨w.heap.size + 1 + 1 + 1 + 1, 0, none⟩) pn pn] 26) = W
  have hs : W.heap.size = w.heap.size + 1 + 1 + 1 := by rw [← hW]; simp
  rw [← hs]
  have h1 := own_cp W cs cn hcn
  have h2 := own_cp (W.alloc (.cells (cp cs cn) 3)) ps pn hpn
  rw [World.size_alloc] at h2
  refine ⟨W.heap.size + 1, by omega, by simp, Nat.le_refl _, .inr ⟨W.heap.size, rfl, by omega, by omega, ?_⟩, .inr ⟨W.heap.size + 1, rfl, Nat.le_refl _, by simp, ?_⟩⟩
  · rw [hcn]; exact h1.kept ((Below.refl _ _).alloc (Nat.le_refl _) _)
  · rw [hpn]; exact h2

theorem mark_two (k d wd hi : Int) (x y : Option Addr) (cn cx pn cy lo hi' : Nat) (cs ps : List Int) (w : World) (h : Two w lo hi' x cs y ps) (hcn : cs.length = cn) (hpn : ps.length = pn) (hcl : cn ≤ 1048576) (hpl : pn ≤ 1048576) :
    Calls Try.prog 11 #[.agg #[.int .i64 k, .int .i64 d, .int .i64 wd, .int .i64 hi, .slice x cn cx, .slice y pn cy], .int .i64 1] w fun e w' => e = .returned (.int .i64 ((1 + cn + pn : Nat) : Int)) ∧ Two w' lo hi' x (marksS 1 cn) y (marksS (1 + cn) pn) ∧ Outside lo hi' w w' := by
  obtain ⟨m, h1, h2, h3, h4, h5⟩ := h
  refine (mark_image k d wd hi x y cn cx pn cy lo m hi' cs ps w h4 h5 hcn hpn hcl hpl h1 h2 h3).mono ?_
  rintro e w' ⟨rfl, g1, g2, g3⟩
  exact ⟨rfl, ⟨m, h1, h2, Nat.le_trans h3 g3.size, g1, g2⟩, g3⟩
theorem held_two (k d wd hi : Int) (x y : Option Addr) (cn cx pn cy lo hi' : Nat) (w : World) (h : Two w lo hi' x (marksS 1 cn) y (marksS (1 + cn) pn)) (hcl : cn ≤ 1048576) (hpl : pn ≤ 1048576) :
    Calls Try.prog 12 #[.agg #[.int .i64 k, .int .i64 d, .int .i64 wd, .int .i64 hi, .slice x cn cx, .slice y pn cy], .int .i64 1] w fun e w' => e = .returned (.int .i64 ((1 + cn + pn : Nat) : Int)) ∧ Below w.heap.size w w' := by
  obtain ⟨m, h1, h2, h3, h4, h5⟩ := h
  exact held_image k d wd hi x y cn cx pn cy lo m hi' w h4 h5 hcl hpl
end Go.Proofs.Ytjiogneidioknaa

/- A coloured picture, each point of which is told without its density. -/
namespace Go.Proofs.Ytjiogneidioknaa
open Go.RowKit

set_option maxHeartbeats 400000 in
theorem bare_any (c : Nat) (w : World) (hc : c ≤ 4294967295) :
    Calls Try.prog 54 #[.int .i64 (c : Int)] w fun e w' => e = .returned (.int .i64 ((c : Int) / 256)) ∧ w' = w := by
  go_enter Try.func54, Try.ntmps54
  go_wp2_with fail
  go_ret
  exact ⟨rfl, rfl⟩

theorem nest_ma (V : Value) (w : World) : (method 198 56 (.agg #[.iface 56 V, .func (.func 54) #[] #[]]) "loop.example/intarsia/impl.at").run Try.prog w = .ok (86, (.agg #[.iface 56 V, .func (.func 54) #[] #[]])) w := by kernel_rfl
theorem nest_na (V : Value) (w : World) : (nilAhead 198 56 (.agg #[.iface 56 V, .func (.func 54) #[] #[]]) "loop.example/intarsia/impl.at").run Try.prog w = .ok (some false) w := by kernel_rfl

/-- the size of what is told otherwise is that of what lies beneath -/
def Nest (V : Value) (fs : Nat) (rs : Value) : Prop := (∀ w, (method 198 56 (.agg #[.iface 56 V, .func (.func 54) #[] #[]]) "loop.example/intarsia/impl.size").run Try.prog w = .ok (fs, rs) w) ∧ ∀ w, (nilAhead 198 56 (.agg #[.iface 56 V, .func (.func 54) #[] #[]]) "loop.example/intarsia/impl.size").run Try.prog w = .ok (some false) w

set_option maxHeartbeats 2000000 in
set_option maxRecDepth 20000 in
theorem nest_at (V : Value) (fa : Nat) (ra : Value) (x y : Int) (v : Nat) (w : World) (m1 : ∀ w, (method 198 56 V "loop.example/intarsia/impl.at").run Try.prog w = .ok (fa, ra) w) (_m2 : ∀ w, (nilAhead 198 56 V "loop.example/intarsia/impl.at").run Try.prog w = .ok (some false) w)
    (ea : ∀ args w', (callFunc fa args).run Try.prog w' = .ok (.enter fa args) w') (hv : v ≤ 4294967295)
    (hat : ∀ w', Below w.heap.size w w' → Calls Try.prog fa #[ra, .int .i64 x, .int .i64 y] w' fun e w'' => e = .returned (.int .i64 (v : Int)) ∧ Below w'.heap.size w' w'') :
    Calls Try.prog 86 #[(.agg #[.iface 56 V, .func (.func 54) #[] #[]]), .int .i64 x, .int .i64 y] w fun e w' => e = .returned (.int .i64 ((v : Int) / 256)) ∧ Below w.heap.size w w' := by
  have HAT : Hid (∀ w', Below w.heap.size w w' → Calls Try.prog fa #[ra, .int .i64 x, .int .i64 y] w' fun e w'' => e = .returned (.int .i64 (v : Int)) ∧ Below w'.heap.size w' w'') := hat
  have HFN : Hid (∀ w', Calls Try.prog 54 #[.int .i64 (v : Int)] w' fun e w'' => e = .returned (.int .i64 ((v : Int) / 256)) ∧ w'' = w') := fun w' => bare_any v w' hv
  clear hat hv
  have hB0 : Below w.heap.size w (w.alloc (.cells #[.iface 56 V, .func (.func 54) #[] #[]] 56)) := (Below.refl _ _).alloc (Nat.le_refl _) _
  have b0 : (w.alloc (.cells #[.iface 56 V, .func (.func 54) #[] #[]] 56)).cell? ⟨w.heap.size, 0, none⟩ = some (.iface 56 V) := by rw [World.cell?_alloc_at _ _ _ _ rfl]; rfl
  have b1 : (w.alloc (.cells #[.iface 56 V, .func (.func 54) #[] #[]] 56)).cell? ⟨w.heap.size, 1, none⟩ = some (.func (.func 54) #[] #[]) := by rw [World.cell?_alloc_at _ _ _ _ rfl]; rfl
  generalize hv : (v : Int) / 256 = u at *
  clear hv
  go_enter Try.func86, Try.ntmps86
  go_wp2_with fail
  go_region_held3 (fun w' => w'.cell? ⟨w.heap.size, 0, none⟩ = some (.iface 56 V) ∧ w'.cell? ⟨w.heap.size, 1, none⟩ = some (.func (.func 54) #[] #[])) (go_keep) (first | (go_at_call 54; refine (HFN.out _).mono ?_; rintro e w3 ⟨rfl, rfl⟩) | (refine (HAT.out _ hB0.drew).mono ?_; rintro e w2 ⟨rfl, b2⟩; have bw2 : Below w.heap.size w w2 := hB0.trans ((box_drew b2).mono (by simp)); have hlt : w.heap.size < (w.alloc (.cells #[.iface 56 V, .func (.func 54) #[] #[]] 56)).heap.size := (by simp); have c0 := ((box_drew b2).cell (p := ⟨w.heap.size, 0, none⟩) hlt).trans b0; have c1 := ((box_drew b2).cell (p := ⟨w.heap.size, 1, none⟩) hlt).trans b1))
  all_goals
    clear b2
    go_wp2_with fail
    go_ret
    exact ⟨rfl, bw2⟩

theorem nest_seen (V : Value) (fs : Nat) (rs : Value) (fa : Nat) (ra : Value) (Wd Hi : Nat) (f : Nat → Nat → Int) (w : World) (S : Seen 56 V fs rs fa ra Wd Hi f w.heap.size w) (hN : Nest V fs rs) (hf : ∀ x y, x < Wd → y < Hi → ∃ v : Nat, f x y = (v : Int) ∧ v ≤ 4294967295) :
    Seen 56 (.agg #[.iface 56 V, .func (.func 54) #[] #[]]) fs rs 86 (.agg #[.iface 56 V, .func (.func 54) #[] #[]]) Wd Hi (fun x y => f x y / 256) w.heap.size w where
  ms := hN.1
  ns := hN.2
  ma := nest_ma V
  na := nest_na V
  es := S.es
  ea := enters_of Try.func86 (by kernel_rfl) rfl
  size := S.size
  at' := fun w' x y hx hy b => by
    obtain ⟨v, hv, hvb⟩ := hf x y hx hy
    show Calls _ _ _ _ fun e w'' => e = .returned (.int .i64 (f x y / 256)) ∧ _
    rw [hv]
    refine nest_at V fa ra x y v w' S.ma S.na S.ea hvb (fun w'' b' => ?_)
    have := S.at' w'' x y hx hy (b.trans (b'.mono b.size))
    rw [hv] at this; exact this

theorem gray_nest (A B : Nat) (D Wd Hi : Nat) (ca : Option Addr) (cn cc : Nat) (pa : Option Addr) (pn pc : Nat) : Nest (.agg #[.iface 49 (.agg #[.int .i64 1, .int .i64 (D : Int), .int .i64 (Wd : Int), .int .i64 (Hi : Int), .slice ca cn cc, .slice pa pn pc]), .func (.func 65) #[] #[.pointer (some ⟨A, 0, none⟩), .pointer (some ⟨B, 0, none⟩)]]) 85 (.agg #[.int .i64 1, .int .i64 (D : Int), .int .i64 (Wd : Int), .int .i64 (Hi : Int), .slice ca cn cc, .slice pa pn pc]) :=
  ⟨fun w => by kernel_rfl, fun w => by kernel_rfl⟩
theorem pal_nest (A B : Nat) (D Wd Hi : Nat) (ca : Option Addr) (cn cc : Nat) (pa : Option Addr) (pn pc : Nat) : Nest (.agg #[.iface 49 (.agg #[.int .i64 4, .int .i64 (D : Int), .int .i64 (Wd : Int), .int .i64 (Hi : Int), .slice ca cn cc, .slice pa pn pc]), .func (.func 66) #[] #[.pointer (some ⟨A, 0, none⟩), .pointer (some ⟨B, 0, none⟩)]]) 85 (.agg #[.int .i64 4, .int .i64 (D : Int), .int .i64 (Wd : Int), .int .i64 (Hi : Int), .slice ca cn cc, .slice pa pn pc]) :=
  ⟨fun w => by kernel_rfl, fun w => by kernel_rfl⟩
theorem rgb_nest (D Wd Hi : Nat) (ca : Option Addr) (cn cc : Nat) (pa : Option Addr) (pn pc : Nat) : Nest (.agg #[.iface 49 (.agg #[.int .i64 2, .int .i64 (D : Int), .int .i64 (Wd : Int), .int .i64 (Hi : Int), .slice ca cn cc, .slice pa pn pc]), .func (.func 64) #[] #[]]) 85 (.agg #[.int .i64 2, .int .i64 (D : Int), .int .i64 (Wd : Int), .int .i64 (Hi : Int), .slice ca cn cc, .slice pa pn pc]) :=
  ⟨fun w => by kernel_rfl, fun w => by kernel_rfl⟩
theorem rgba_nest (D Wd Hi : Nat) (ca : Option Addr) (cn cc : Nat) (pa : Option Addr) (pn pc : Nat) : Nest (.agg #[.iface 49 (.agg #[.int .i64 3, .int .i64 (D : Int), .int .i64 (Wd : Int), .int .i64 (Hi : Int), .slice ca cn cc, .slice pa pn pc]), .func (.func 67) #[] #[]]) 85 (.agg #[.int .i64 3, .int .i64 (D : Int), .int .i64 (Wd : Int), .int .i64 (Hi : Int), .slice ca cn cc, .slice pa pn pc]) :=
  ⟨fun w => by kernel_rfl, fun w => by kernel_rfl⟩

theorem colored_nest (k : Int) (D Wd Hi : Nat) (ca : Option Addr) (cn cc : Nat) (pa : Option Addr) (pn pc : Nat) (cs ps : List Int) (w : World) (hok : Im.Ok k (D : Int) (Wd : Int) (Hi : Int) cs ps) (hc : Ints w ca cs) (hcn : cs.length = cn) (hp : Ints w pa ps) (hpn : ps.length = pn) (hW : Wd ≤ 20) (hH : Hi ≤ 20) (hm : pn = Wd * Hi) :
    Calls Try.prog 44 #[.agg #[.int .i64 k, .int .i64 (D : Int), .int .i64 (Wd : Int), .int .i64 (Hi : Int), .slice ca cn cc, .slice pa pn pc]] w fun e w' => (∃ V fs rs fa ra, e = .returned (.iface 56 V) ∧ Nest V fs rs ∧ Seen 56 V fs rs fa ra Wd Hi (colF k D cs Wd ps) w'.heap.size w') ∧ Below w.heap.size w w' := by
  rcases Im.kinds hok.1 with ⟨rfl, hD⟩ | ⟨rfl, hD⟩ | ⟨rfl, hD⟩ | ⟨rfl, hD⟩
  · refine (colored_gray D (Wd : Int) (Hi : Int) ca cn cc pa pn pc w hD).mono ?_
    rintro e w' ⟨⟨A, B, rfl, hA, hB, hA2, hB2⟩, b⟩
    exact ⟨⟨_, _, _, _, _, rfl, gray_nest A B D Wd Hi ca cn cc pa pn pc, gray_cseen A B D Wd Hi ca cn cc pa pn pc cs ps w' hok hA hB hA2 hB2 (hp.kept b) hpn hW hH hm⟩, b⟩
  · refine (colored_rgb (D : Int) (Wd : Int) (Hi : Int) ca cn cc pa pn pc w).mono ?_
    rintro e w' ⟨rfl, b⟩
    exact ⟨⟨_, _, _, _, _, rfl, rgb_nest D Wd Hi ca cn cc pa pn pc, rgb_cseen D Wd Hi ca cn cc pa pn pc cs ps w' hok (hp.kept b) hpn hW hH hm⟩, b⟩
  · refine (colored_rgba (D : Int) (Wd : Int) (Hi : Int) ca cn cc pa pn pc w).mono ?_
    rintro e w' ⟨rfl, b⟩
    exact ⟨⟨_, _, _, _, _, rfl, rgba_nest D Wd Hi ca cn cc pa pn pc, rgba_cseen D Wd Hi ca cn cc pa pn pc cs ps w' hok (hp.kept b) hpn hW hH hm⟩, b⟩
  · refine (colored_pal (D : Int) (Wd : Int) (Hi : Int) ca cn cc pa pn pc w).mono ?_
    rintro e w' ⟨⟨A, B, rfl, hA, hB, hA2, hB2⟩, b⟩
    exact ⟨⟨_, _, _, _, _, rfl, pal_nest A B D Wd Hi ca cn cc pa pn pc, pal_cseen A B D Wd Hi ca cn cc pa pn pc cs ps w' hok hA hB hA2 hB2 (hc.kept b) hcn (hp.kept b) hpn hW hH hm⟩, b⟩
end Go.Proofs.Ytjiogneidioknaa

/- Colours of the points of a picture that is ok: how great they are. -/
namespace Go.Proofs.Ytjiogneidioknaa
open Go.RowKit

theorem step_le' (D : Nat) (h : D = 1 ∨ D = 2 ∨ D = 4 ∨ D = 8) (p : Int) (h0 : 0 ≤ p) (h1 : p ≤ ((2 ^ D : Nat) : Int) - 1) : 0 ≤ p * (stepOf D : Int) ∧ p * (stepOf D : Int) ≤ 255 := by
  rcases h with rfl | rfl | rfl | rfl
  · rw [show (stepOf 1 : Int) = 255 by decide]; simp at h1; omega
  · rw [show (stepOf 2 : Int) = 85 by decide]; simp at h1; omega
  · rw [show (stepOf 4 : Int) = 17 by decide]; simp at h1; omega
  · rw [show (stepOf 8 : Int) = 1 by decide]; simp at h1; omega

theorem col_bounds {k wd hi : Int} {D : Nat} {cs ps : List Int} (hok : Im.Ok k (D : Int) wd hi cs ps) {p : Int} (hm : p ∈ ps) :
    0 ≤ colOf k D cs p ∧ colOf k D cs p ≤ 4294967295 ∧ (k ≠ 3 → colOf k D cs p % 256 = 255) := by
  obtain ⟨hd, _, _, hco, hlen, hW⟩ := hok
  have hp := hW p hm
  unfold colOf
  unfold Im.most at hp
  rcases Im.kinds hd with ⟨rfl, hD⟩ | ⟨rfl, rfl⟩ | ⟨rfl, rfl⟩ | ⟨rfl, hD⟩
  · rw [if_pos rfl]
    rw [if_neg (by decide), Int.toNat_natCast] at hp
    have := step_le' D hD p hp.1 hp.2
    generalize p * (stepOf D : Int) = q at *
    refine ⟨by omega, by omega, fun _ => by omega⟩
  · rw [if_neg (by decide), if_pos rfl]
    rw [if_neg (by decide)] at hp
    simp at hp
    refine ⟨by omega, by omega, fun _ => by omega⟩
  · rw [if_neg (by decide), if_neg (by decide), if_neg (by decide)]
    rw [if_neg (by decide)] at hp
    simp at hp
    refine ⟨by omega, by omega, fun h => absurd rfl h⟩
  · rw [if_neg (by decide), if_neg (by decide), if_pos rfl]
    rw [if_pos rfl] at hp
    obtain ⟨h1, _, hin⟩ := hco.2 rfl
    have hx : p.toNat < cs.length := by omega
    have := hin (cs.getD p.toNat 0) (by rw [List.getD_eq_getElem?_getD, List.getElem?_eq_getElem hx]; exact List.getElem_mem hx)
    generalize cs.getD p.toNat 0 = q at *
    refine ⟨by omega, by omega, fun _ => by omega⟩
end Go.Proofs.Ytjiogneidioknaa

/- Six cells of a box written one by one are the box written whole. -/
namespace Go.Proofs.Ytjiogneidioknaa
open Go.RowKit

theorem setRow_setRow (w : World) (g : Nat) (a b : Array Value) : (w.setRow g a).setRow g b = w.setRow g b := by
  unfold World.setRow
  simp only
  congr 1
  apply Array.ext_getElem?
  intro i
  rw [Array.getElem?_modify, Array.getElem?_modify, Array.getElem?_modify]
  by_cases e : g = i
  · subst e
    simp only [if_true]
    cases w.heap[g]? with
    | none => rfl
    | some o => cases o <;> rfl
  · simp [e]
theorem setRow_setCell {w : World} {g : Nat} {cur : Array Value} {t : TypeId} (h : w.heap[g]? = some (.cells cur t (0, 0))) (a : Array Value) (i : Nat) (v : Value) : (w.setRow g a).setCell ⟨g, i, none⟩ v = w.setRow g (a.setIfInBounds i v) := by
  rw [setCell_eq_setRow (w.setRow g a) g i a t (0, 0) v (setRow_heap w g cur a t (0, 0) h), setRow_setRow]
theorem six_row {w : World} {g : Nat} {t : TypeId} {a0 a1 a2 a3 a4 a5 : Value} (h : w.heap[g]? = some (.cells #[a0, a1, a2, a3, a4, a5] t (0, 0))) (v0 v1 v2 v3 v4 v5 : Value) :
    (((((w.setCell ⟨g, 0, none⟩ v0).setCell ⟨g, 1, none⟩ v1).setCell ⟨g, 2, none⟩ v2).setCell ⟨g, 3, none⟩ v3).setCell ⟨g, 4, none⟩ v4).setCell ⟨g, 5, none⟩ v5 = w.setRow g #[v0, v1, v2, v3, v4, v5] := by
  rw [setCell_eq_setRow w g 0 _ t (0, 0) v0 h, setRow_setCell h, setRow_setCell h, setRow_setCell h, setRow_setCell h, setRow_setCell h]
  rfl
end Go.Proofs.Ytjiogneidioknaa

/- What a round of a loop over an iterator may do: new blocks, a row of the call's own, one box. -/
namespace Go.Proofs.Ytjiogneidioknaa
open Go.RowKit Go.Shelf

/-- what lies below n₀ is as it was, but for the block o -/
def Beside (o n₀ : Nat) (W W' : World) : Prop := W.heap.size ≤ W'.heap.size ∧ ∀ k, k < n₀ → k ≠ o → W'.heap[k]? = W.heap[k]?
theorem Beside.trans {o n₀ : Nat} {A B C : World} (h : Beside o n₀ A B) (k : Beside o n₀ B C) : Beside o n₀ A C := ⟨Nat.le_trans h.1 k.1, fun i hi ho => (k.2 i hi ho).trans (h.2 i hi ho)⟩
theorem Beside.of {o n₀ : Nat} {A B : World} (h : Below n₀ A B) : Beside o n₀ A B := ⟨h.size, fun i hi _ => h.block i hi⟩
theorem Beside.book {o n₀ : Nat} {w : World} (hn : n₀ ≤ w.heap.size) (W : World) (l : Nat) (x x' : Obj) (hl : w.heap.size ≤ l) (h : W.heap[l]? = some x) (h1 : x.isCells = false) (h2 : x.isWalk = false) : Beside o n₀ W (W.putObj l x') := .of (belowK_b hn W l x x' hl h h1 h2)

/-- from W to W': new blocks, rows from n₀ on that are no T, and the box A -/
structure Went (A n₀ : Nat) (T : TypeId) (W W' : World) : Prop where
  ko : KeepsOthers W W'
  bs : Beside A n₀ W W'
  bl : Below A W W'
  bx : ∀ (k : Nat) (cs : Array Value) (fr : Nat × Nat), W.heap[k]? = some (.cells cs T fr) → W'.heap[k]? = some (.cells cs T fr)

theorem Went.refl (A n₀ : Nat) (T : TypeId) (W : World) : Went A n₀ T W W := ⟨.refl _, .of (Below.refl _ _), Below.refl _ _, fun _ _ _ h => h⟩
theorem Went.trans {A n₀ : Nat} {T : TypeId} {W X Y : World} (h : Went A n₀ T W X) (k : Went A n₀ T X Y) : Went A n₀ T W Y :=
  ⟨h.ko.trans k.ko, h.bs.trans k.bs, h.bl.trans k.bl, fun i cs fr hi => k.bx i cs fr (h.bx i cs fr hi)⟩
theorem Went.drew {A n₀ : Nat} {T : TypeId} {W X : World} (h : Went A n₀ T W X) : Went A n₀ T W X.drew :=
  h.trans ⟨KeepsOthers.drew _, .of (Below.refl _ _).drew, (Below.refl _ _).drew, fun _ _ _ h => h⟩
theorem Went.alloc {A n₀ : Nat} {T : TypeId} {W X : World} (h : Went A n₀ T W X) (hn : n₀ ≤ X.heap.size) (hA : A ≤ X.heap.size) (o : Obj) : Went A n₀ T W (X.alloc o) :=
  h.trans ⟨KeepsOthers.alloc _ _, .of ((Below.refl _ _).alloc hn _), (Below.refl _ _).alloc hA _, fun k _ _ hk => (Below.heap_alloc X o k (Array.getElem?_eq_some_iff.1 hk).1).trans hk⟩
/-- an append to a row of the call's own -/
theorem Went.append {A n₀ k : Nat} {T e : TypeId} {W X Y : World} {v : Value} {xs : List Value} (h : Went A n₀ T W X) (hrow : X.ownsRow n₀ e 1 v k xs) (hT : T ≠ e) (hg : X.grownBy Y v.ownBlock) (hn : n₀ ≤ X.heap.size) (hA : A ≤ n₀) : Went A n₀ T W Y := by
  have hown : ∀ (j : Nat), v.ownBlock = some j → n₀ ≤ j ∧ ∃ cur, X.heap[j]? = some (.cells cur e (0, 0)) := fun j hj => by
    rcases hrow.2 with ⟨rfl, _⟩ | ⟨g, cap, cur, rfl, h1, h2, _⟩
    · cases hj
    · simp [Value.ownBlock] at hj; subst hj; exact ⟨h1, cur, h2⟩
  refine h.trans ⟨KeepsOthers.of_grownBy hg (fun j o ej hj => ?_), .of ((Below.refl _ _).grown hg hn (fun j hj => (hown j hj).1)), (Below.refl _ _).grown hg (by omega) (fun j hj => Nat.le_trans hA (hown j hj).1), fun j cs fr hj => ?_⟩
  · obtain ⟨_, cur, hc⟩ := hown j ej
    rw [hc] at hj; cases hj; rfl
  · refine (hg.block j (Array.getElem?_eq_some_iff.1 hj).1 (fun ej => ?_)).trans hj
    obtain ⟨_, cur, hc⟩ := hown j ej.symm
    rw [hc] at hj; cases hj; exact hT rfl
/-- a store into the box -/
theorem Went.store {A n₀ : Nat} {T t : TypeId} {W X : World} {u : Value} (h : Went A n₀ T W X) (hb : Boxed X A t u) (hT : T ≠ t) (v : Value) : Went A n₀ T W (X.setCell ⟨A, 0, none⟩ v) := by
  have hk : ∀ k, k ≠ A → (X.setCell ⟨A, 0, none⟩ v).heap[k]? = X.heap[k]? := fun k hk => Below.heap_setCell X ⟨A, 0, none⟩ v k hk
  refine h.trans ⟨KeepsOthers.setCell _ _ _, ⟨by simp, fun k _ hne => hk k hne⟩, (Below.refl A X).setCell (p := ⟨A, 0, none⟩) (Nat.le_refl _) _, fun k cs fr hc => ?_⟩
  by_cases e : k = A
  · subst e
    rw [show X.heap[k]? = _ from hb] at hc; cases hc; exact (hT rfl).elim
  · rw [hk k e]; exact hc
/-- a call that makes new blocks alone -/
theorem Went.call {A n₀ : Nat} {T : TypeId} {W X Y : World} (h : Went A n₀ T W X) (b : Below X.heap.size X Y) (hn : n₀ ≤ X.heap.size) (hA : A ≤ n₀) : Went A n₀ T W Y :=
  h.trans ⟨⟨b.size, fun k o hk _ => (b.block k (Array.getElem?_eq_some_iff.1 hk).1).trans hk⟩, .of (b.mono hn), b.mono (by omega), fun k _ _ hk => (b.block k (Array.getElem?_eq_some_iff.1 hk).1).trans hk⟩

theorem lt_of_at {w : World} {k : Nat} {o : Obj} (h : w.heap[k]? = some o) : k < w.heap.size := (Array.getElem?_eq_some_iff.1 h).1
theorem cell_two0 {w : World} {k : Nat} {a b : Value} {T : TypeId} (h : w.heap[k]? = some (.cells #[a, b] T (0, 0))) : w.cell? ⟨k, 0, none⟩ = some a := by simp [World.cell?, h]
theorem cell_two1 {w : World} {k : Nat} {a b : Value} {T : TypeId} (h : w.heap[k]? = some (.cells #[a, b] T (0, 0))) : w.cell? ⟨k, 1, none⟩ = some b := by simp [World.cell?, h]

end Go.Proofs.Ytjiogneidioknaa

/- ImageRgb of the program. -/
namespace Go.Proofs.Ytjiogneidioknaa
open Go.RowKit Go.Shelf

attribute [local go_sem] Oper.semAt_some

theorem heap_setCell_other (w : World) (a : Addr) (u : Value) (k : Nat) (h : k ≠ a.block) : (w.setCell a u).heap[k]? = w.heap[k]? := by
  simp only [World.setCell, Array.getElem?_modify]
  rw [if_neg (Ne.symm h)]

theorem heap_alloc3_mid (w : World) (a b c : Obj) : (((w.alloc a).alloc b).alloc c).heap[w.heap.size + 1]? = some b :=
  (Below.heap_alloc _ _ _ (by simp)).trans (by have := World.alloc_heap_new (w.alloc a) b; rwa [World.size_alloc] at this)
theorem heap_alloc3_end (w : World) (a b c : Obj) : (((w.alloc a).alloc b).alloc c).heap[w.heap.size + 2]? = some c := by
  have := World.alloc_heap_new ((w.alloc a).alloc b) c; rwa [World.size_alloc, World.size_alloc] at this
theorem heap_alloc3_first (w : World) (a b c : Obj) : (((w.alloc a).alloc b).alloc c).heap[w.heap.size]? = some a :=
  (Below.heap_alloc _ _ _ (by simp; omega)).trans ((Below.heap_alloc _ _ _ (by simp)).trans (World.alloc_heap_new w a))

set_option maxHeartbeats 1000000 in
set_option maxRecDepth 20000 in
theorem impl_rgb_no (k d wd hi : Int) (ca : Option Addr) (cn cc : Nat) (pa : Option Addr) (pn pc : Nat) (w : World)
    (hO : ∀ w', Below w.heap.size w w' → Calls Try.prog 16 #[.agg #[.int .i64 k, .int .i64 d, .int .i64 wd, .int .i64 hi, .slice ca cn cc, .slice pa pn pc]] w' fun e w'' => e = .returned (.bool false) ∧ Below w'.heap.size w' w'') :
    Calls Try.prog 18 #[.agg #[.int .i64 k, .int .i64 d, .int .i64 wd, .int .i64 hi, .slice ca cn cc, .slice pa pn pc]] w fun e w' => e = .returned (.tuple #[.agg #[.int .i64 0, .int .i64 0, .int .i64 0, .int .i64 0, .slice none 0 0, .slice none 0 0], .bool false]) ∧ Below w.heap.size w w' := by
  have hB0 : Below w.heap.size w (((w.alloc (.cells #[.int .i64 k, .int .i64 d, .int .i64 wd, .int .i64 hi, .slice ca cn cc, .slice pa pn pc] 26)).alloc (.cells #[.int .i64 0, .int .i64 0, .int .i64 0, .int .i64 0, .slice none 0 0, .slice none 0 0] 26)).alloc (.cells #[.bool false] 4)) := (((Below.refl _ _).alloc (Nat.le_refl _) _).alloc (by simp) _).alloc (by simp; omega) _
  have HO : Hid (∀ w', Below w.heap.size w w' → Calls Try.prog 16 #[.agg #[.int .i64 k, .int .i64 d, .int .i64 wd, .int .i64 hi, .slice ca cn cc, .slice pa pn pc]] w' fun e w'' => e = .returned (.bool false) ∧ Below w'.heap.size w' w'') := hO
  clear hO
  have HZ : Hid ((((w.alloc (.cells #[.int .i64 k, .int .i64 d, .int .i64 wd, .int .i64 hi, .slice ca cn cc, .slice pa pn pc] 26)).alloc (.cells #[.int .i64 0, .int .i64 0, .int .i64 0, .int .i64 0, .slice none 0 0, .slice none 0 0] 26)).alloc (.cells #[.bool false] 4)).heap[w.heap.size + 1]? = some (.cells #[.int .i64 0, .int .i64 0, .int .i64 0, .int .i64 0, .slice none 0 0, .slice none 0 0] 26 (0, 0))) := heap_alloc3_mid _ _ _ _
  have HF : Hid ((((w.alloc (.cells #[.int .i64 k, .int .i64 d, .int .i64 wd, .int .i64 hi, .slice ca cn cc, .slice pa pn pc] 26)).alloc (.cells #[.int .i64 0, .int .i64 0, .int .i64 0, .int .i64 0, .slice none 0 0, .slice none 0 0] 26)).alloc (.cells #[.bool false] 4)).heap[w.heap.size + 2]? = some (.cells #[.bool false] 4 (0, 0))) := heap_alloc3_end _ _ _ _
  go_enter Try.func18, Try.ntmps18
  go_wp2_with fail
  refine (HO.out _ hB0).mono ?_
  rintro e w1 ⟨rfl, b1⟩
  have bel1 := hB0.trans (b1.mono hB0.size)
  have hz1 : w1.heap[w.heap.size + 1]? = some (.cells #[.int .i64 0, .int .i64 0, .int .i64 0, .int .i64 0, .slice none 0 0, .slice none 0 0] 26 (0, 0)) := (b1.block _ (by simp)).trans HZ.out
  have hf1 : Boxed w1 (w.heap.size + 2) 4 (.bool false) := (b1.block _ (by simp)).trans HF.out
  have hI6 : (Try.prog.info? 26).map (·.size) = some (#[Value.int .i64 0, .int .i64 0, .int .i64 0, .int .i64 0, .slice none 0 0, .slice none 0 0]).size := by kernel_rfl
  have h16 : (#[Value.int .i64 0, .int .i64 0, .int .i64 0, .int .i64 0, .slice none 0 0, .slice none 0 0]).all (·.oneCell') = true := by simp [Value.oneCell']
  have hs2 := setRow_heap w1 (w.heap.size + 1) _ #[.int .i64 0, .int .i64 0, .int .i64 0, .int .i64 0, .slice none 0 0, .slice none 0 0] _ _ hz1
  obtain ⟨⟨z0, z1, z2, z3, z4, z5⟩, _⟩ := box6 hs2
  have hf2 : Boxed (w1.setRow (w.heap.size + 1) #[.int .i64 0, .int .i64 0, .int .i64 0, .int .i64 0, .slice none 0 0, .slice none 0 0]) (w.heap.size + 2) 4 (.bool false) := (setRow_other _ _ _ _ (by omega)).trans hf1
  have hfc := hf2.cell
  have hff := hf2.frozen
  clear b1 hB0 HO HZ HF hf1
  go_wp2_with (refine wpList_store_row rfl 26 (.tmp 2) (.tmp 9) rfl (w.heap.size + 1) #[.int .i64 0, .int .i64 0, .int .i64 0, .int .i64 0, .slice none 0 0, .slice none 0 0] rfl rfl 26 #[.int .i64 0, .int .i64 0, .int .i64 0, .int .i64 0, .slice none 0 0, .slice none 0 0] hz1 hI6 rfl h16 ?_)
  refine bodyPost_ret (v := .tuple #[.agg #[.int .i64 0, .int .i64 0, .int .i64 0, .int .i64 0, .slice none 0 0, .slice none 0 0], .bool false]) (by simp [results, Try.results18, go_sem, z0, z1, z2, z3, z4, z5, hfc]) rfl ⟨rfl, ?_⟩
  exact (bel1.trans ((below_setRow _ _ _).mono (by omega))).setCell (by show w.heap.size ≤ w.heap.size + 1 + 1; omega) _

theorem Owns.above {w w' : World} {lo : Nat} {a : Option Addr} {l : List Int} (h : Owns w lo a l) (hs : w.heap.size ≤ w'.heap.size) (hb : ∀ k, lo ≤ k → w'.heap[k]? = w.heap[k]?) : Owns w' lo a l := by
  rcases h with e | ⟨b, rfl, hlo, h2, h3⟩
  · exact .inl e
  · have hh := hb b hlo
    exact .inr ⟨b, rfl, hlo, Nat.lt_of_lt_of_le h2 hs, fun i hi => ⟨(World.cell?_of_block (w := w) (a := ⟨b, i, none⟩) hh).trans (h3 i hi).1, (World.frozen?_of_block (w := w) (a := ⟨b, i, none⟩) hh).trans (h3 i hi).2⟩⟩
theorem Pair2.above {w w' : World} {lo : Nat} {x y : Option Addr} {cs ps : List Int} (h : Pair2 w lo x cs y ps) (hs : w.heap.size ≤ w'.heap.size) (hb : ∀ k, lo ≤ k → w'.heap[k]? = w.heap[k]?) : Pair2 w' lo x cs y ps := by
  obtain ⟨m, h1, h2, h3, h4⟩ := h
  exact ⟨m, h1, h2.above hs hb, h3, h4.above hs (fun k hk => hb k (Nat.le_trans h1 hk))⟩

/-- a point that is less than dense was met: what is answered lies there -/
def RgbX (w : World) (c : Code) (pre : List Int) (W : World) : Prop :=
  c = .ret ∧ (∃ z ∈ pre, ¬ z.tmod 256 = 255) ∧ W.heap[w.heap.size + 1]? = some (.cells #[.int .i64 0, .int .i64 0, .int .i64 0, .int .i64 0, .slice none 0 0, .slice none 0 0] 26 (0, 0)) ∧ W.heap[w.heap.size + 2]? = some (.cells #[.bool false] 4 (0, 0)) ∧ Below w.heap.size w W

theorem rgbX_own (w : World) (c : Code) (B : Nat) (hB : w.heap.size + 3 ≤ B) : OwnFrom B (RgbX w c) := by
  rintro pre X Y row ⟨h1, h2, h3, h4, h5⟩ hg hrow
  have hne : ∀ k, k < w.heap.size + 3 → some k ≠ row := fun k hk e => by have := (hrow k e.symm).1; omega
  exact ⟨h1, h2, (hg.block _ (lt_of_at h3) (hne _ (by omega))).trans h3, (hg.block _ (lt_of_at h4) (hne _ (by omega))).trans h4, h5.grown hg h5.size (fun k e => by have := (hrow k e).1; omega)⟩

def RgbI (W0 : World) (pre : List Int) (W : World) : Prop := (∀ z ∈ pre, z.tmod 256 = 255) ∧ Below W0.heap.size W0 W

theorem rgbI_own (W0 : World) : OwnFrom W0.heap.size (RgbI W0) := by
  rintro pre X Y row ⟨h1, h2⟩ hg hrow
  exact ⟨h1, h2.grown hg h2.size (fun k e => (hrow k e).1)⟩

set_option maxRecDepth 100000 in
set_option maxHeartbeats 4000000 in
theorem impl_rgb_in (k : Int) (D Wd Hi : Nat) (ca : Option Addr) (cn cc : Nat) (pa : Option Addr) (pn pc : Nat) (cs ps : List Int) (w : World) (hok : Im.Ok k (D : Int) (Wd : Int) (Hi : Int) cs ps) (hc : Ints w ca cs) (hcn : cs.length = cn) (hp : Ints w pa ps) (hpn : ps.length = pn) (hW : Wd ≤ 20) (hH : Hi ≤ 20) (hm : pn = Wd * Hi)
    (hO : ∀ w', Below w.heap.size w w' → Calls Try.prog 16 #[.agg #[.int .i64 k, .int .i64 (D : Int), .int .i64 (Wd : Int), .int .i64 (Hi : Int), .slice ca cn cc, .slice pa pn pc]] w' fun e w'' => e = .returned (.bool true) ∧ Below w'.heap.size w' w'') :
    CallsIn Fence.wide 2 Try.prog 18 #[.agg #[.int .i64 k, .int .i64 (D : Int), .int .i64 (Wd : Int), .int .i64 (Hi : Int), .slice ca cn cc, .slice pa pn pc]] w fun e w' =>
      (((∀ z ∈ cols k D cs ps, z.tmod 256 = 255) ∧ ∃ x cx y cy, e = .returned (.tuple #[.agg #[.int .i64 2, .int .i64 24, .int .i64 (Wd : Int), .int .i64 (Hi : Int), .slice x 0 cx, .slice y (Wd * Hi) cy], .bool true]) ∧ Pair2 w' w.heap.size x [] y (upto (ptF Wd (fun x y => colF k D cs Wd ps x y / 256)) (Wd * Hi))) ∨
       ((∃ z ∈ cols k D cs ps, ¬ z.tmod 256 = 255) ∧ e = .returned (.tuple #[.agg #[.int .i64 0, .int .i64 0, .int .i64 0, .int .i64 0, .slice none 0 0, .slice none 0 0], .bool false]))) ∧ Below w.heap.size w w' := by
  have hro : Fence.wide.round = none := rfl
  have hB0 : Below w.heap.size w (((w.alloc (.cells #[.int .i64 k, .int .i64 (D : Int), .int .i64 (Wd : Int), .int .i64 (Hi : Int), .slice ca cn cc, .slice pa pn pc] 26)).alloc (.cells #[.int .i64 0, .int .i64 0, .int .i64 0, .int .i64 0, .slice none 0 0, .slice none 0 0] 26)).alloc (.cells #[.bool false] 4)) := (((Below.refl _ _).alloc (Nat.le_refl _) _).alloc (by simp) _).alloc (by simp; omega) _
  have HO : Hid (∀ w', Below w.heap.size w w' → Calls Try.prog 16 #[.agg #[.int .i64 k, .int .i64 (D : Int), .int .i64 (Wd : Int), .int .i64 (Hi : Int), .slice ca cn cc, .slice pa pn pc]] w' fun e w'' => e = .returned (.bool true) ∧ Below w'.heap.size w' w'') := hO
  clear hO
  have HZ : Hid ((((w.alloc (.cells #[.int .i64 k, .int .i64 (D : Int), .int .i64 (Wd : Int), .int .i64 (Hi : Int), .slice ca cn cc, .slice pa pn pc] 26)).alloc (.cells #[.int .i64 0, .int .i64 0, .int .i64 0, .int .i64 0, .slice none 0 0, .slice none 0 0] 26)).alloc (.cells #[.bool false] 4)).heap[w.heap.size + 1]? = some (.cells #[.int .i64 0, .int .i64 0, .int .i64 0, .int .i64 0, .slice none 0 0, .slice none 0 0] 26 (0, 0))) := heap_alloc3_mid _ _ _ _
  have HF : Hid ((((w.alloc (.cells #[.int .i64 k, .int .i64 (D : Int), .int .i64 (Wd : Int), .int .i64 (Hi : Int), .slice ca cn cc, .slice pa pn pc] 26)).alloc (.cells #[.int .i64 0, .int .i64 0, .int .i64 0, .int .i64 0, .slice none 0 0, .slice none 0 0] 26)).alloc (.cells #[.bool false] 4)).heap[w.heap.size + 2]? = some (.cells #[.bool false] 4 (0, 0))) := heap_alloc3_end _ _ _ _
  have A0 : Hid (Bx (((w.alloc (.cells #[.int .i64 k, .int .i64 (D : Int), .int .i64 (Wd : Int), .int .i64 (Hi : Int), .slice ca cn cc, .slice pa pn pc] 26)).alloc (.cells #[.int .i64 0, .int .i64 0, .int .i64 0, .int .i64 0, .slice none 0 0, .slice none 0 0] 26)).alloc (.cells #[.bool false] 4)) w.heap.size (.int .i64 k) (.int .i64 (D : Int)) (.int .i64 (Wd : Int)) (.int .i64 (Hi : Int)) (.slice ca cn cc) (.slice pa pn pc)) := ((bx_new w _ _ _ _ _ _ 26).kept ((Below.refl _ _).alloc (Nat.le_refl _) _)).kept ((Below.refl _ _).alloc (Nat.le_refl _) _)
  have HCN : Hid (∀ w', Below w.heap.size w w' → Calls Try.prog 44 #[.agg #[.int .i64 k, .int .i64 (D : Int), .int .i64 (Wd : Int), .int .i64 (Hi : Int), .slice ca cn cc, .slice pa pn pc]] w' fun e w'' => (∃ V fs rs fa ra, e = .returned (.iface 56 V) ∧ Nest V fs rs ∧ Seen 56 V fs rs fa ra Wd Hi (colF k D cs Wd ps) w''.heap.size w'') ∧ Below w'.heap.size w' w'') := fun w' b => colored_nest k D Wd Hi ca cn cc pa pn pc cs ps w' hok (hc.kept b) hcn (hp.kept b) hpn hW hH hm
  have HCO : Hid (upto (ptF Wd (colF k D cs Wd ps)) (Wd * Hi) = cols k D cs ps) := cols_upto k D cs ps Wd Hi (by rw [hpn, hm])
  have HFB : Hid (∀ x y, x < Wd → y < Hi → ∃ v : Nat, colF k D cs Wd ps x y = (v : Int) ∧ v ≤ 4294967295) := fun x y hx hy => by
    have hs := (spot_in hx hy hW hH hm).lt
    have hjl : y * Wd + x < ps.length := by rw [hpn]; exact hs
    have hmm : ps.getD (y * Wd + x) 0 ∈ ps := by rw [List.getD_eq_getElem?_getD, List.getElem?_eq_getElem hjl]; exact List.getElem_mem hjl
    obtain ⟨b0, b1, _⟩ := col_bounds hok hmm
    obtain ⟨c, hc⟩ := Int.eq_ofNat_of_zero_le b0
    exact ⟨c, hc, by omega⟩
  clear hok hc hcn hp hpn hm
  refine callsIn_of_wp_marks Try.func18 rfl trivial ?_ hro
  simp only [Try.ntmps18, List.size_toArray, List.length_cons, List.length_nil, Nat.reduceAdd, Nat.reduceSub, Array.replicate_succ, Array.replicate_zero, List.push_toArray, List.append_toArray, List.nil_append, List.cons_append]
  gi_wp2
  refine ⟨trivial, ?_⟩
  gi_wp2
  refine (callsIn_wide.2 (HO.out _ hB0)).mono ?_
  rintro e w1 ⟨rfl, b1⟩
  have bel1 := hB0.trans (b1.mono hB0.size)
  have A1 : Hid (Bx w1 w.heap.size (.int .i64 k) (.int .i64 (D : Int)) (.int .i64 (Wd : Int)) (.int .i64 (Hi : Int)) (.slice ca cn cc) (.slice pa pn pc)) := A0.out.kept b1
  have HZ1 : Hid (w1.heap[w.heap.size + 1]? = some (.cells #[.int .i64 0, .int .i64 0, .int .i64 0, .int .i64 0, .slice none 0 0, .slice none 0 0] 26 (0, 0))) := (b1.block _ (by simp)).trans HZ.out
  have HF1 : Hid (w1.heap[w.heap.size + 2]? = some (.cells #[.bool false] 4 (0, 0))) := (b1.block _ (by simp)).trans HF.out
  have hlt1 : w.heap.size + 3 ≤ w1.heap.size := Nat.le_trans (by simp) b1.size
  clear b1 hB0 HO A0 HZ HF
  obtain ⟨_, a0, a1, a2, a3, a4, a5⟩ := A1.out
  gi_wp2
  refine ⟨trivial, ?_⟩
  gi_wp2
  refine (callsIn_wide.2 (HCN.out w1 bel1)).mono ?_
  rintro e w2 ⟨⟨V, fs, rs, fa, ra, rfl, _, S⟩, b2⟩
  clear a0 a1 a2 a3 a4 a5
  gi_wp2
  refine ⟨trivial, ?_⟩
  gi_wp2
  refine (callsIn_wide.2 (pointsOf_any _ _ w2)).mono ?_
  rintro e w3 ⟨rfl, hw3⟩
  have HT := points_tells 1 (Nat.le_refl _) _ V fs rs fa ra Wd Hi _ hW hH w2 S
  rw [HCO.out] at HT
  rw [← hw3] at HT
  have b3 : Below w1.heap.size w1 w3 := by rw [hw3]; exact b2.alloc b2.size _
  have bel3 : Below w.heap.size w w3 := bel1.trans (b3.mono bel1.size)
  have A3 : Hid (Bx w3 w.heap.size (.int .i64 k) (.int .i64 (D : Int)) (.int .i64 (Wd : Int)) (.int .i64 (Hi : Int)) (.slice ca cn cc) (.slice pa pn pc)) := A1.out.kept b3
  have HZ3 : Hid (w3.heap[w.heap.size + 1]? = some (.cells #[.int .i64 0, .int .i64 0, .int .i64 0, .int .i64 0, .slice none 0 0, .slice none 0 0] 26 (0, 0))) := (b3.block _ (by omega)).trans HZ1.out
  have HF3 : Hid (w3.heap[w.heap.size + 2]? = some (.cells #[.bool false] 4 (0, 0))) := (b3.block _ (by omega)).trans HF1.out
  have hlt3 : w.heap.size + 3 ≤ w3.heap.size := Nat.le_trans hlt1 b3.size
  clear b3 b2 S hw3 A1 HZ1 HF1 hlt1 bel1
  gi_wp2
  refine wpIn_rangeFunc_ownG hro (by omega) (gf := 56) (lb := _) rfl trivial (enters_of Try.func56 (by kernel_rfl) rfl) HT belowK_t (belowK_b (Nat.le_refl _)) (Below.refl _ _) (fun _ => rfl)
    (RgbI w3) (RgbX w) (rgbI_own w3) (fun c => rgbX_own w c _ hlt3) ⟨fun z hz => by simp at hz, Below.refl _ _⟩
    (fun x => { tmps := #[.agg #[.int .i64 k, .int .i64 (D : Int), .int .i64 (Wd : Int), .int .i64 (Hi : Int), .slice ca cn cc, .slice pa pn pc], .pointer (some ⟨w.heap.size, 0, none⟩), .pointer (some ⟨w.heap.size + 1, 0, none⟩), .pointer (some ⟨w.heap.size + 2, 0, none⟩), .int .i64 x, undef, .agg #[.int .i64 k, .int .i64 (D : Int), .int .i64 (Wd : Int), .int .i64 (Hi : Int), .slice ca cn cc, .slice pa pn pc], .bool true, .bool false, undef, .agg #[.int .i64 k, .int .i64 (D : Int), .int .i64 (Wd : Int), .int .i64 (Hi : Int), .slice ca cn cc, .slice pa pn pc], .iface 56 V, .func (.func 56) #[] #[.pointer (some ⟨w2.heap.size, 0, none⟩)], .int .i64 x, undef, undef, undef, undef, undef, undef, undef, undef, undef, undef], defers := [] }) ?assign ?body ?done ?stop
  case assign =>
    intro l x W K hK
    gi_wp2
    exact hK
  case body =>
    rintro l pre x W ⟨hd, hB⟩ hlt
    have hI6 : (Try.prog.info? 26).map (·.size) = some (#[Value.int .i64 0, .int .i64 0, .int .i64 0, .int .i64 0, .slice none 0 0, .slice none 0 0]).size := by kernel_rfl
    have h16 : (#[Value.int .i64 0, .int .i64 0, .int .i64 0, .int .i64 0, .slice none 0 0, .slice none 0 0]).all (·.oneCell') = true := by simp [Value.oneCell']
    by_cases hx : x.tmod 256 = 255
    · have hb : (x.tmod 256 != 255) = false := by rw [hx]; rfl
      have HX : Hid (x.tmod 256 = 255) := hx
      clear hx
      gi_wp2
      refine ⟨KeepsFrom.refl _ _, Below.refl _ _, ?_, hB⟩
      intro z hz
      rcases List.mem_append.1 hz with h | h
      · exact hd z h
      · rw [List.mem_singleton.1 h]; exact HX.out
    · have hb : (x.tmod 256 != 255) = true := by rw [bne_iff_ne]; exact hx
      have hzW : W.heap[w.heap.size + 1]? = some (.cells #[.int .i64 0, .int .i64 0, .int .i64 0, .int .i64 0, .slice none 0 0, .slice none 0 0] 26 (0, 0)) := (hB.block _ (by omega)).trans HZ3.out
      have hfW : Boxed W (w.heap.size + 2) 4 (.bool false) := (hB.block _ (by omega)).trans HF3.out
      have HQ : Hid (RgbX w .ret (pre ++ [x]) ((W.setRow (w.heap.size + 1) #[.int .i64 0, .int .i64 0, .int .i64 0, .int .i64 0, .slice none 0 0, .slice none 0 0]).setCell ⟨w.heap.size + 2, 0, none⟩ (.bool false)) ∧ KeepsFrom w3.heap.size W ((W.setRow (w.heap.size + 1) #[.int .i64 0, .int .i64 0, .int .i64 0, .int .i64 0, .slice none 0 0, .slice none 0 0]).setCell ⟨w.heap.size + 2, 0, none⟩ (.bool false))) := by
        have hs := setRow_heap W (w.heap.size + 1) _ #[.int .i64 0, .int .i64 0, .int .i64 0, .int .i64 0, .slice none 0 0, .slice none 0 0] _ _ hzW
        have hf2 : Boxed (W.setRow (w.heap.size + 1) #[.int .i64 0, .int .i64 0, .int .i64 0, .int .i64 0, .slice none 0 0, .slice none 0 0]) (w.heap.size + 2) 4 (.bool false) := (setRow_other _ _ _ _ (by omega)).trans hfW
        refine ⟨⟨rfl, ⟨x, by simp, hx⟩, ?_, hf2.set _, ?_⟩, ?_, ?_⟩
        · rw [heap_setCell_other _ _ _ _ (by show w.heap.size + 1 ≠ w.heap.size + 2; omega)]; exact hs
        · exact ((bel3.trans (hB.mono bel3.size)).trans ((below_setRow _ _ _).mono (by omega))).setCell (by show w.heap.size ≤ w.heap.size + 2; omega) _
        · simp
        · intro j o hj ho _
          rw [heap_setCell_other _ _ _ _ (by show j ≠ w.heap.size + 2; omega), setRow_other _ _ _ _ (by omega)]; exact ho
      obtain ⟨⟨z0, z1, z2, z3, z4, z5⟩, f0, f1, f2, f3, f4, f5⟩ := box6 hzW
      have hfc := hfW.cell
      have hff := hfW.frozen
      have hsix := six_row hzW (.int .i64 0) (.int .i64 0) (.int .i64 0) (.int .i64 0) (.slice none 0 0) (.slice none 0 0)
      have HSX : Hid (((((((W.setCell ⟨w.heap.size + 1, 0, none⟩ (.int .i64 0)).setCell ⟨w.heap.size + 1, 1, none⟩ (.int .i64 0)).setCell ⟨w.heap.size + 1, 2, none⟩ (.int .i64 0)).setCell ⟨w.heap.size + 1, 3, none⟩ (.int .i64 0)).setCell ⟨w.heap.size + 1, 4, none⟩ (.slice none 0 0)).setCell ⟨w.heap.size + 1, 5, none⟩ (.slice none 0 0)).setCell ⟨w.heap.size + 2, 0, none⟩ (.bool false) = (W.setRow (w.heap.size + 1) #[.int .i64 0, .int .i64 0, .int .i64 0, .int .i64 0, .slice none 0 0, .slice none 0 0]).setCell ⟨w.heap.size + 2, 0, none⟩ (.bool false)) := by show _ = _; rw [hsix]
      clear hsix hzW hfW hd hB hI6 h16
      gi_wp2
      rw [HSX.out]
      exact ⟨HQ.out.2, HQ.out.1⟩
  case done =>
    rintro DD ys W hD hys ⟨hd, hB⟩ hK
    subst hys
    have AW : Hid (Bx W w.heap.size (.int .i64 k) (.int .i64 (D : Int)) (.int .i64 (Wd : Int)) (.int .i64 (Hi : Int)) (.slice ca cn cc) (.slice pa pn pc)) := A3.out.kept hB
    have belW : Below w.heap.size w W := bel3.trans (hB.mono bel3.size)
    have HKD : Hid (W.heap[DD]? = some (.deferred (some []))) := hK
    have hDW : DD < W.heap.size := lt_of_at hK
    have HZW : Hid (W.heap[w.heap.size + 1]? = some (.cells #[.int .i64 0, .int .i64 0, .int .i64 0, .int .i64 0, .slice none 0 0, .slice none 0 0] 26 (0, 0))) := (hB.block _ (by omega)).trans HZ3.out
    have HFW : Hid (W.heap[w.heap.size + 2]? = some (.cells #[.bool false] 4 (0, 0))) := (hB.block _ (by omega)).trans HF3.out
    have hltW : w.heap.size + 3 ≤ W.heap.size := Nat.le_trans hlt3 hB.size
    clear hB hK A3 bel3 HZ3 HF3 HT
    obtain ⟨_, a0, a1, a2, a3, a4, a5⟩ := AW.out
    gi_wp2
    refine ⟨trivial, ?_⟩
    gi_wp2
    refine (callsIn_wide.2 (HCN.out W belW)).mono ?_
    rintro e w5 ⟨⟨V2, fs2, rs2, fa2, ra2, rfl, hN2, S2⟩, b5⟩
    have bel5 := belW.trans (b5.mono belW.size)
    have HS5 := nest_seen V2 fs2 rs2 fa2 ra2 Wd Hi _ w5 S2 hN2 HFB.out
    have HM : Hid (Calls Try.prog 32 #[.iface 56 (.agg #[.iface 56 V2, .func (.func 54) #[] #[]]), .int .i64 2, .int .i64 24, .slice none 0 0] w5 fun e w'' =>
        (∃ x cx y cy, e = .returned (.agg #[.int .i64 2, .int .i64 24, .int .i64 (Wd : Int), .int .i64 (Hi : Int), .slice x 0 cx, .slice y (Wd * Hi) cy]) ∧ Pair2 w'' w5.heap.size x [] y (upto (ptF Wd (fun x y => colF k D cs Wd ps x y / 256)) (Wd * Hi))) ∧ Below w5.heap.size w5 w'') :=
      drawn_any 56 _ _ _ _ _ Wd Hi _ hW hH 2 24 none 0 0 [] w5 HS5 (.inl rfl) rfl (by omega)
    clear a0 a1 a2 a3 a4 a5 HS5 S2 hN2 HCN
    gi_wp2
    refine ⟨trivial, ?_⟩
    gi_wp2
    refine (callsIn_wide.2 HM.out).mono ?_
    rintro e w6 ⟨⟨x, cx, y, cy, rfl, hP⟩, b6⟩
    have b56 : Below W.heap.size W w6 := b5.trans (b6.mono b5.size)
    have hz6 : w6.heap[w.heap.size + 1]? = some (.cells #[.int .i64 0, .int .i64 0, .int .i64 0, .int .i64 0, .slice none 0 0, .slice none 0 0] 26 (0, 0)) := (b56.block _ (by omega)).trans HZW.out
    have hf6 : Boxed w6 (w.heap.size + 2) 4 (.bool false) := (b56.block _ (by omega)).trans HFW.out
    have hk6 : w6.heap[DD]? = some (.deferred (some [])) := (b56.block _ hDW).trans HKD.out
    have bel6 : Below w.heap.size w w6 := belW.trans (b56.mono belW.size)
    have hsix := six_row hz6 (.int .i64 2) (.int .i64 24) (.int .i64 (Wd : Int)) (.int .i64 (Hi : Int)) (.slice x 0 cx) (.slice y (Wd * Hi) cy)
    obtain ⟨⟨z0, z1, z2, z3, z4, z5⟩, f0, f1, f2, f3, f4, f5⟩ := box6 hz6
    have hf7 : Boxed (w6.setRow (w.heap.size + 1) #[.int .i64 2, .int .i64 24, .int .i64 (Wd : Int), .int .i64 (Hi : Int), .slice x 0 cx, .slice y (Wd * Hi) cy]) (w.heap.size + 1 + 1) 4 (.bool false) := (setRow_other _ _ _ _ (by omega)).trans hf6
    have hfc := hf7.cell
    have hff := hf7.frozen
    have HP6 : Hid (Pair2 w6 w5.heap.size x [] y (upto (ptF Wd (fun x y => colF k D cs Wd ps x y / 256)) (Wd * Hi))) := hP
    have hb5s := b5.size
    have hb6s := b6.size
    clear b56 b6 b5 hP HM
    gi_wp2
    obtain ⟨w7, hw7⟩ : ∃ w7, w7 = (w6.setRow (w.heap.size + 1) #[.int .i64 2, .int .i64 24, .int .i64 (Wd : Int), .int .i64 (Hi : Int), .slice x 0 cx, .slice y (Wd * Hi) cy]).setCell ⟨w.heap.size + 1 + 1, 0, none⟩ (.bool true) := ⟨_, rfl⟩
    rw [← hw7]
    have hz7 : w7.heap[w.heap.size + 1]? = some (.cells #[.int .i64 2, .int .i64 24, .int .i64 (Wd : Int), .int .i64 (Hi : Int), .slice x 0 cx, .slice y (Wd * Hi) cy] 26 (0, 0)) := by
      rw [hw7, heap_setCell_other _ _ _ _ (by show w.heap.size + 1 ≠ w.heap.size + 1 + 1; omega)]; exact setRow_heap w6 (w.heap.size + 1) _ _ _ _ hz6
    have hb7 : Boxed w7 (w.heap.size + 1 + 1) 4 (.bool true) := by rw [hw7]; exact hf7.set _
    have hsame : ∀ k, w.heap.size + 3 ≤ k → w7.heap[k]? = w6.heap[k]? := fun k hk => by
      rw [hw7, heap_setCell_other _ _ _ _ (by show k ≠ w.heap.size + 1 + 1; omega), setRow_other _ _ _ _ (by omega)]
    have hs7 : w7.heap.size = w6.heap.size := by rw [hw7]; simp
    have hk7 : w7.heap[DD]? = some (.deferred (some [])) := (hsame DD (by omega)).trans hk6
    have bel7 : Below w.heap.size w w7 := by rw [hw7]; exact (bel6.trans ((below_setRow _ _ _).mono (by omega))).setCell (by show w.heap.size ≤ w.heap.size + 1 + 1; omega) _
    refine ⟨by simp, .inl ⟨_, _, rfl, run_takeDeferred hk7, ?_⟩⟩
    have hz8 : (w7.putObj DD (.deferred none)).heap[w.heap.size + 1]? = some (.cells #[.int .i64 2, .int .i64 24, .int .i64 (Wd : Int), .int .i64 (Hi : Int), .slice x 0 cx, .slice y (Wd * Hi) cy] 26 (0, 0)) := (World.putObj_heap_other (by omega)).trans hz7
    have hb8 : Boxed (w7.putObj DD (.deferred none)) (w.heap.size + 1 + 1) 4 (.bool true) := (World.putObj_heap_other (by omega)).trans hb7
    obtain ⟨⟨q0, q1, q2, q3, q4, q5⟩, _⟩ := box6 hz8
    have q6 := hb8.cell
    refine ⟨.tuple #[.agg #[.int .i64 2, .int .i64 24, .int .i64 (Wd : Int), .int .i64 (Hi : Int), .slice x 0 cx, .slice y (Wd * Hi) cy], .bool true], by simp [results, Try.results18, go_sem, q0, q1, q2, q3, q4, q5, q6], .inl ⟨hd, x, cx, y, cy, rfl, ?_⟩, bel7.trans (belowK_b (w := w) (Nat.le_refl _) w7 DD _ _ (by omega) hk7 rfl rfl)⟩
    exact (HP6.out.above (by simp [hs7]) (fun k hk => (World.putObj_heap_other (by omega)).trans (hsame k (by omega)))).lower (by omega)
  case stop =>
    rintro DD c pre W hD hpre ⟨rfl, ⟨z, hz, hz2⟩, h3, h4, h5⟩ hK
    gi_wp2
    refine ⟨by simp, .inl ⟨_, _, rfl, run_takeDeferred hK, ?_⟩⟩
    have hz8 : (W.putObj DD (.deferred none)).heap[w.heap.size + 1]? = some (.cells #[.int .i64 0, .int .i64 0, .int .i64 0, .int .i64 0, .slice none 0 0, .slice none 0 0] 26 (0, 0)) := (World.putObj_heap_other (by omega)).trans h3
    have hb8 : Boxed (W.putObj DD (.deferred none)) (w.heap.size + 1 + 1) 4 (.bool false) := (World.putObj_heap_other (by omega)).trans h4
    obtain ⟨⟨q0, q1, q2, q3, q4, q5⟩, _⟩ := box6 hz8
    have q6 := hb8.cell
    exact ⟨.tuple #[.agg #[.int .i64 0, .int .i64 0, .int .i64 0, .int .i64 0, .slice none 0 0, .slice none 0 0], .bool false], by simp [results, Try.results18, go_sem, q0, q1, q2, q3, q4, q5, q6], .inr ⟨⟨z, hpre.subset hz, hz2⟩, rfl⟩, h5.trans (belowK_b (w := w) (Nat.le_refl _) W DD _ _ (by omega) hK rfl rfl)⟩
end Go.Proofs.Ytjiogneidioknaa

/- ImageColor of the specification, for every picture and place. -/
namespace Go.Proofs.Ytjiogneidioknaa
open Go.RowKit

end Go.Proofs.Ytjiogneidioknaa

/- ImageRgb of the specification. -/
namespace Go.Proofs.Ytjiogneidioknaa
open Go.RowKit

/-- no colour is less than dense -/
def denseB (l : List Int) : Bool := l.all fun c => c % 256 == 255
theorem denseB_no {l : List Int} {c : Int} (h : c ∈ l) (hc : ¬ c % 256 = 255) : denseB l = false := by
  unfold denseB; rw [List.all_eq_false]; exact ⟨c, h, by simpa using hc⟩
theorem denseB_yes {l : List Int} (h : ∀ c ∈ l, c % 256 = 255) : denseB l = true := by
  unfold denseB; rw [List.all_eq_true]; intro c hc; simpa using h c hc
/-- what is red, green and blue of colours -/
def bares (l : List Int) : List Int := l.map (· / 256)

set_option maxHeartbeats 1000000 in
set_option maxRecDepth 20000 in
theorem spec_rgb_no (k d wd hi : Int) (ca : Option Addr) (cn cc : Nat) (pa : Option Addr) (pn pc : Nat) (w : World)
    (hO : ∀ w', Below w.heap.size w w' → Calls Try.prog 17 #[.agg #[.int .i64 k, .int .i64 d, .int .i64 wd, .int .i64 hi, .slice ca cn cc, .slice pa pn pc]] w' fun e w'' => e = .returned (.bool false) ∧ Below w'.heap.size w' w'') :
    Calls Try.prog 24 #[.agg #[.int .i64 k, .int .i64 d, .int .i64 wd, .int .i64 hi, .slice ca cn cc, .slice pa pn pc]] w fun e w' => e = .returned (.tuple #[.agg #[.int .i64 0, .int .i64 0, .int .i64 0, .int .i64 0, .slice none 0 0, .slice none 0 0], .bool false]) ∧ Below w.heap.size w w' := by
  have hB0 : Below w.heap.size w ((w.alloc (.cells #[.int .i64 k, .int .i64 d, .int .i64 wd, .int .i64 hi, .slice ca cn cc, .slice pa pn pc] 26)).alloc (.cells #[.int .i64 0, .int .i64 0, .int .i64 0, .int .i64 0, .slice none 0 0, .slice none 0 0] 26)) := ((Below.refl _ _).alloc (Nat.le_refl _) _).alloc (by simp) _
  have HO : Hid (∀ w', Below w.heap.size w w' → Calls Try.prog 17 #[.agg #[.int .i64 k, .int .i64 d, .int .i64 wd, .int .i64 hi, .slice ca cn cc, .slice pa pn pc]] w' fun e w'' => e = .returned (.bool false) ∧ Below w'.heap.size w' w'') := hO
  clear hO
  have HZ : Hid (((w.alloc (.cells #[.int .i64 k, .int .i64 d, .int .i64 wd, .int .i64 hi, .slice ca cn cc, .slice pa pn pc] 26)).alloc (.cells #[.int .i64 0, .int .i64 0, .int .i64 0, .int .i64 0, .slice none 0 0, .slice none 0 0] 26)).heap[w.heap.size + 1]? = some (.cells #[.int .i64 0, .int .i64 0, .int .i64 0, .int .i64 0, .slice none 0 0, .slice none 0 0] 26 (0, 0))) := heap_alloc2_new _ _ _
  go_enter Try.func24, Try.ntmps24
  go_wp2_with fail
  refine (HO.out _ hB0).mono ?_
  rintro e w1 ⟨rfl, b1⟩
  have bel1 := hB0.trans (b1.mono hB0.size)
  have hz1 : w1.heap[w.heap.size + 1]? = some (.cells #[.int .i64 0, .int .i64 0, .int .i64 0, .int .i64 0, .slice none 0 0, .slice none 0 0] 26 (0, 0)) := (b1.block _ (by simp)).trans HZ.out
  clear b1 hB0 HO HZ
  have hI6 : (Try.prog.info? 26).map (·.size) = some (#[Value.int .i64 0, .int .i64 0, .int .i64 0, .int .i64 0, .slice none 0 0, .slice none 0 0]).size := by kernel_rfl
  have h16 : (#[Value.int .i64 0, .int .i64 0, .int .i64 0, .int .i64 0, .slice none 0 0, .slice none 0 0]).all (·.oneCell') = true := by simp [Value.oneCell']
  have hs2 := setRow_heap w1 (w.heap.size + 1) _ #[.int .i64 0, .int .i64 0, .int .i64 0, .int .i64 0, .slice none 0 0, .slice none 0 0] _ _ hz1
  obtain ⟨⟨z0, z1, z2, z3, z4, z5⟩, _⟩ := box6 hs2
  go_wp2_with (refine wpList_store_row rfl 26 (.tmp 2) (.tmp 10) rfl (w.heap.size + 1) #[.int .i64 0, .int .i64 0, .int .i64 0, .int .i64 0, .slice none 0 0, .slice none 0 0] rfl rfl 26 #[.int .i64 0, .int .i64 0, .int .i64 0, .int .i64 0, .slice none 0 0, .slice none 0 0] hz1 hI6 rfl h16 ?_)
  refine bodyPost_ret (v := .tuple #[.agg #[.int .i64 0, .int .i64 0, .int .i64 0, .int .i64 0, .slice none 0 0, .slice none 0 0], .bool false]) (by simp [results, Try.results24, go_sem, z0, z1, z2, z3, z4, z5]) rfl ⟨rfl, ?_⟩
  exact bel1.trans ((below_setRow _ _ _).mono (by omega))

set_option maxHeartbeats 4000000 in
set_option maxRecDepth 20000 in
theorem spec_rgb_own (k : Int) (D Wd Hi : Nat) (ca : Option Addr) (cn cc : Nat) (pa : Option Addr) (pn pc : Nat) (cs ps : List Int) (w : World) (ok : Im.Ok k (D : Int) (Wd : Int) (Hi : Int) cs ps) (hc : Ints w ca cs) (hcn : cs.length = cn) (hp : Ints w pa ps) (hpn : ps.length = pn) (hW : Wd ≤ 20) (hH : Hi ≤ 20) (hm : pn = Wd * Hi)
    (hOA : ∀ w', Below w.heap.size w w' → Calls Try.prog 17 #[.agg #[.int .i64 k, .int .i64 (D : Int), .int .i64 (Wd : Int), .int .i64 (Hi : Int), .slice ca cn cc, .slice pa pn pc]] w' fun e w'' => e = .returned (.bool true) ∧ Below w'.heap.size w' w'') :
    Calls Try.prog 24 #[.agg #[.int .i64 k, .int .i64 (D : Int), .int .i64 (Wd : Int), .int .i64 (Hi : Int), .slice ca cn cc, .slice pa pn pc]] w fun e w' =>
      ((denseB (cols k D cs ps) = true ∧ ∃ y cy, e = .returned (.tuple #[.agg #[.int .i64 2, .int .i64 24, .int .i64 (Wd : Int), .int .i64 (Hi : Int), .slice none 0 0, .slice y pn cy], .bool true]) ∧ Owns w' w.heap.size y (bares (cols k D cs ps))) ∨
       (denseB (cols k D cs ps) = false ∧ e = .returned (.tuple #[.agg #[.int .i64 0, .int .i64 0, .int .i64 0, .int .i64 0, .slice none 0 0, .slice none 0 0], .bool false]))) ∧ Below w.heap.size w w' := by
  obtain ⟨i0, hi0, hz0, hz1', hz2⟩ := info_parts info_int
  have hB0 : Below w.heap.size w ((w.alloc (.cells #[.int .i64 k, .int .i64 (D : Int), .int .i64 (Wd : Int), .int .i64 (Hi : Int), .slice ca cn cc, .slice pa pn pc] 26)).alloc (.cells #[.int .i64 0, .int .i64 0, .int .i64 0, .int .i64 0, .slice none 0 0, .slice none 0 0] 26)) := ((Below.refl _ _).alloc (Nat.le_refl _) _).alloc (by simp) _
  have A0 : Hid (Bx ((w.alloc (.cells #[.int .i64 k, .int .i64 (D : Int), .int .i64 (Wd : Int), .int .i64 (Hi : Int), .slice ca cn cc, .slice pa pn pc] 26)).alloc (.cells #[.int .i64 0, .int .i64 0, .int .i64 0, .int .i64 0, .slice none 0 0, .slice none 0 0] 26)) w.heap.size (.int .i64 k) (.int .i64 (D : Int)) (.int .i64 (Wd : Int)) (.int .i64 (Hi : Int)) (.slice ca cn cc) (.slice pa pn pc)) := (bx_new w _ _ _ _ _ _ 26).kept ((Below.refl _ _).alloc (Nat.le_refl _) _)
  have HZ : Hid (((w.alloc (.cells #[.int .i64 k, .int .i64 (D : Int), .int .i64 (Wd : Int), .int .i64 (Hi : Int), .slice ca cn cc, .slice pa pn pc] 26)).alloc (.cells #[.int .i64 0, .int .i64 0, .int .i64 0, .int .i64 0, .slice none 0 0, .slice none 0 0] 26)).heap[w.heap.size + 1]? = some (.cells #[.int .i64 0, .int .i64 0, .int .i64 0, .int .i64 0, .slice none 0 0, .slice none 0 0] 26 (0, 0))) := heap_alloc2_new _ _ _
  have HOA : Hid (∀ w', Below w.heap.size w w' → Calls Try.prog 17 #[.agg #[.int .i64 k, .int .i64 (D : Int), .int .i64 (Wd : Int), .int .i64 (Hi : Int), .slice ca cn cc, .slice pa pn pc]] w' fun e w'' => e = .returned (.bool true) ∧ Below w'.heap.size w' w'') := hOA
  have HLA : Hid (∀ (x : Nat) (w' : World), Below w.heap.size w w' → PtOk k D cs x → Calls Try.prog 45 #[.agg #[.int .i64 k, .int .i64 (D : Int), .int .i64 (Wd : Int), .int .i64 (Hi : Int), .slice ca cn cc, .slice pa pn pc], .int .i64 (x : Int)] w' fun e w'' => e = .returned (.int .i64 (colOf k D cs (x : Int))) ∧ Below w'.heap.size w' w'') := fun x w' b h => l8Color_any k D x (Wd : Int) (Hi : Int) ca cn cc pa pn pc cs w' (hc.kept b) hcn h
  have HP : Hid (∀ w', Below w.heap.size w w' → Ints w' pa ps) := fun w' b => hp.kept b
  have HPO : Hid (∀ j, j < pn → ∃ (p c : Nat), ps.getD j 0 = (p : Int) ∧ PtOk k D cs p ∧ colOf k D cs (p : Int) = (c : Int) ∧ c ≤ 4294967295) := fun j hj => by
    obtain ⟨p, h1, h2⟩ := Im.pt_ok ok j (by omega)
    have hjl : j < ps.length := by omega
    have hm : (p : Int) ∈ ps := by rw [← h1, List.getD_eq_getElem?_getD, List.getElem?_eq_getElem hjl]; exact List.getElem_mem hjl
    obtain ⟨b0, b1, _⟩ := col_bounds ok hm
    obtain ⟨c, hc⟩ := Int.eq_ofNat_of_zero_le b0
    exact ⟨p, c, h1, h2, hc, by omega⟩
  have HN : Hid (ps.length = pn) := hpn
  have hmul : Wd * Hi ≤ 20 * 20 := Nat.mul_le_mul hW hH
  have hpb : pn ≤ 400 := by omega
  clear hOA ok hc hcn hp hpn hm hmul
  go_enter Try.func24, Try.ntmps24
  go_wp2_with fail
  refine (HOA.out _ hB0).mono ?_
  rintro e w1 ⟨rfl, b1⟩
  have A1 : Hid (Bx w1 w.heap.size (.int .i64 k) (.int .i64 (D : Int)) (.int .i64 (Wd : Int)) (.int .i64 (Hi : Int)) (.slice ca cn cc) (.slice pa pn pc)) := A0.out.kept b1
  have HZ1 : Hid (w1.heap[w.heap.size + 1]? = some (.cells #[.int .i64 0, .int .i64 0, .int .i64 0, .int .i64 0, .slice none 0 0, .slice none 0 0] 26 (0, 0))) := (b1.block _ (by simp)).trans HZ.out
  have bel1 : Below w.heap.size w w1 := hB0.trans (b1.mono hB0.size)
  have hlt1 : w.heap.size + 1 < w1.heap.size := Nat.lt_of_lt_of_le (by simp) b1.size
  clear b1 hB0 A0 HOA HZ
  obtain ⟨_, a0, a1, a2, a3, a4, a5⟩ := A1.out
  go_wp2_with fail
  clear a0 a1 a2 a3 a4 a5
  obtain ⟨WX, hWX⟩ : ∃ WX, WX = w1.alloc (.cells #[.int .i64 2, .int .i64 24, .int .i64 (Wd : Int), .int .i64 (Hi : Int), .slice none 0 0, .slice none 0 0] 26) := ⟨_, rfl⟩
  have HX0 : Hid (Bx WX w1.heap.size (.int .i64 2) (.int .i64 24) (.int .i64 (Wd : Int)) (.int .i64 (Hi : Int)) (.slice none 0 0) (.slice none 0 0) ∧ WX.frozen? ⟨w1.heap.size, 5, none⟩ = false ∧ Below w1.heap.size w1 WX ∧ w1.heap.size + 1 ≤ WX.heap.size) := by
    have hb := heap_alloc_new w1 (.cells #[.int .i64 2, .int .i64 24, .int .i64 (Wd : Int), .int .i64 (Hi : Int), .slice none 0 0, .slice none 0 0] 26)
    refine ⟨by rw [hWX]; exact bx_new w1 _ _ _ _ _ _ 26, by rw [hWX]; exact (box6 hb).2.2.2.2.2.2, by rw [hWX]; exact (Below.refl _ _).alloc (Nat.le_refl _) _, by rw [hWX]; simp⟩
  rw [← hWX]
  clear hWX
  go_loopw [5] (fun i wr => ∃ (j : Nat) (v : Value), j ≤ pn ∧ i = .int .i64 (j : Int) ∧ OwnI wr (w1.heap.size + 1) v j (bares (cols k D cs (ps.take j))) ∧ (∀ c ∈ cols k D cs (ps.take j), c % 256 = 255) ∧ Bx wr w1.heap.size (.int .i64 2) (.int .i64 24) (.int .i64 (Wd : Int)) (.int .i64 (Hi : Int)) (.slice none 0 0) v ∧ wr.frozen? ⟨w1.heap.size, 5, none⟩ = false ∧ Below w1.heap.size w1 wr) (fun i _ => pn - (intOf i).toNat)
  case atStart => exact ⟨0, .slice none 0 0, Nat.zero_le _, rfl, World.ownsRow_nil _ _ _ _, fun c hc => by simp [cols] at hc, HX0.out.1, HX0.out.2.1, HX0.out.2.2.1⟩
  case round =>
    obtain ⟨j, v, hj, rfl, hown, hall, hbx, hfz, hbel⟩ := hrel
    have HOw : Hid (OwnI wr (w1.heap.size + 1) v j (bares (cols k D cs (ps.take j)))) := hown
    have HAL : Hid (∀ c ∈ cols k D cs (ps.take j), c % 256 = 255) := hall
    have Ar : Hid (Bx wr w.heap.size (.int .i64 k) (.int .i64 (D : Int)) (.int .i64 (Wd : Int)) (.int .i64 (Hi : Int)) (.slice ca cn cc) (.slice pa pn pc)) := A1.out.kept hbel
    have HBX : Hid (Bx wr w1.heap.size (.int .i64 2) (.int .i64 24) (.int .i64 (Wd : Int)) (.int .i64 (Hi : Int)) (.slice none 0 0) v ∧ wr.frozen? ⟨w1.heap.size, 5, none⟩ = false) := ⟨hbx, hfz⟩
    have belr : Below w.heap.size w wr := bel1.trans (hbel.mono bel1.size)
    have hXr : w1.heap.size + 1 ≤ wr.heap.size := hbx.1
    have HZr : Hid (wr.heap[w.heap.size + 1]? = some (.cells #[.int .i64 0, .int .i64 0, .int .i64 0, .int .i64 0, .slice none 0 0, .slice none 0 0] 26 (0, 0))) := (hbel.block _ hlt1).trans HZ1.out
    clear hown hall hbx hfz HX0
    obtain ⟨_, a0, a1, a2, a3, a4, a5⟩ := Ar.out
    by_cases hlt : j < pn
    · obtain ⟨p, c, hpv, hPO1, hcol, hcb⟩ := HPO.out j hlt
      have hj1 : j < ps.length := by have := HN.out; omega
      have HTK : Hid (cols k D cs (ps.take (j + 1)) = cols k D cs (ps.take j) ++ [(c : Int)] ∧ (c : Int) ∈ cols k D cs ps) := by
        have hg : ps[j] = (p : Int) := by rw [← hpv, List.getD_eq_getElem?_getD, List.getElem?_eq_getElem hj1]; rfl
        refine ⟨?_, ?_⟩
        · rw [List.take_succ_eq_append_getElem hj1]
          unfold cols
          rw [List.map_append, List.map_singleton, hg, hcol]
        · unfold cols
          rw [← hcol, ← hg]; exact List.mem_map_of_mem (List.getElem_mem hj1)
      rcases HP.out wr belr with h | ⟨b, off, rfl, hbl, c1⟩
      · rw [h] at hj1; simp at hj1
      have e1 : wr.cell? ⟨b, off + j, none⟩ = some (.int .i64 (p : Int)) := by
        rw [c1 j hj1, ← hpv, List.getD_eq_getElem?_getD, List.getElem?_eq_getElem hj1]; rfl
      have hji : (j : Int) < (pn : Int) := by omega
      have HLp : Hid (∀ w' : World, Below w.heap.size w w' → Calls Try.prog 45 #[.agg #[.int .i64 k, .int .i64 (D : Int), .int .i64 (Wd : Int), .int .i64 (Hi : Int), .slice ca cn cc, .slice (some ⟨b, off, none⟩) pn pc], .int .i64 (p : Int)] w' fun e w'' => e = .returned (.int .i64 (c : Int)) ∧ Below w'.heap.size w' w'') := fun w' b => by rw [← hcol]; exact HLA.out p w' b hPO1
      clear c1 hpv hj1 hcol hPO1 HLA HPO HP
      go_wp2_with fail
      go_region_held3 (fun w' => w'.cell? ⟨w.heap.size, 0, none⟩ = some (.int .i64 k) ∧ w'.cell? ⟨w.heap.size, 1, none⟩ = some (.int .i64 (D : Int)) ∧ w'.cell? ⟨w.heap.size, 2, none⟩ = some (.int .i64 (Wd : Int)) ∧ w'.cell? ⟨w.heap.size, 3, none⟩ = some (.int .i64 (Hi : Int)) ∧ w'.cell? ⟨w.heap.size, 4, none⟩ = some (.slice ca cn cc) ∧ w'.cell? ⟨w.heap.size, 5, none⟩ = some (.slice (some ⟨b, off, none⟩) pn pc) ∧ w'.cell? ⟨b, off + j, none⟩ = some (.int .i64 (p : Int))) (go_keep) ((go_at_call 45; refine (HLp.out wr.drew belr.drew).mono ?_; rintro e w5 ⟨rfl, b5⟩; have b5' : Below wr.heap.size wr w5 := box_drew b5; obtain ⟨m0, m1, m2, m3, m4, m5⟩ := box_kept ⟨a0, a1, a2, a3, a4, a5⟩ b5' (World.block_lt_of_cell? _ _ a0); have r1 := (b5'.cell (p := ⟨b, off + j, none⟩) hbl).trans e1))
      all_goals
        clear b5 m0 m1 m2 m3 m4 m5 r1 a0 a1 a2 a3 a4 a5 e1
        have hown5 : OwnI w5 (w1.heap.size + 1) v j (bares (cols k D cs (ps.take j))) := World.ownsRow.kept (show World.ownsRow _ _ _ _ _ _ _ from HOw.out) (grown_of_below b5') (by cases v.ownBlock <;> simp)
        have hbx5 : Bx w5 w1.heap.size (.int .i64 2) (.int .i64 24) (.int .i64 (Wd : Int)) (.int .i64 (Hi : Int)) (.slice none 0 0) v := HBX.out.1.kept b5'
        have hfz5 : w5.frozen? ⟨w1.heap.size, 5, none⟩ = false := (b5'.frozen (p := ⟨w1.heap.size, 5, none⟩) hXr).trans HBX.out.2
        have bel5 : Below w1.heap.size w1 w5 := hbel.trans (b5'.mono (by omega))
        have hs5 : w1.heap.size + 1 ≤ w5.heap.size := Nat.le_trans hXr b5'.size
        have hz5 : w5.heap[w.heap.size + 1]? = some (.cells #[.int .i64 0, .int .i64 0, .int .i64 0, .int .i64 0, .slice none 0 0, .slice none 0 0] 26 (0, 0)) := (b5'.block _ (by omega)).trans HZr.out
        clear b5' hbel HOw HBX HZr
        by_cases hdn : (c : Int) % 256 = 255
        · have hbn : ((c : Int) % 256 != 255) = false := by rw [hdn]; rfl
          have HAL2 : Hid (∀ z ∈ cols k D cs (ps.take (j + 1)), z % 256 = 255) := by
            intro z hz
            rw [HTK.out.1] at hz
            rcases List.mem_append.1 hz with h | h
            · exact HAL.out z h
            · rw [List.mem_singleton.1 h]; exact hdn
          have HBR : Hid (bares (cols k D cs (ps.take (j + 1))) = bares (cols k D cs (ps.take j)) ++ [(c : Int) / 256]) := by
            show _ = _
            rw [HTK.out.1]; unfold bares; rw [List.map_append]; rfl
          generalize hL : bares (cols k D cs (ps.take j)) = L at *
          obtain ⟨hXlt, x0, x1, x2, x3, x4, x5⟩ := hbx5
          obtain ⟨u, hu⟩ : ∃ u, u = (c : Int) / 256 := ⟨_, rfl⟩
          rw [← hu] at HBR
          have HX6 : Hid (Bx w5 w1.heap.size (.int .i64 2) (.int .i64 24) (.int .i64 (Wd : Int)) (.int .i64 (Hi : Int)) (.slice none 0 0) v) := ⟨hXlt, x0, x1, x2, x3, x4, x5⟩
          have x5' : (w5.alloc (.cells #[.int .i64 u] 3)).cell? ⟨w1.heap.size, 5, none⟩ = some v := (World.cell?_alloc_some w5 _ _ (by rw [x5]; rfl)).trans x5
          clear hdn HAL hL x0 x1 x2 x3 x4
          go_wp2_with (at_builtin; rw [← hu]; refine wpList_app1 w5 (by rfl) _ _ (by rfl) (w1.heap.size + 1) v j L u (by rfl) hown5 (by rfl) (by omega) hs5 ?_)
          intro g cap w6 hown6 hgr
          have hnx : v.ownBlock ≠ some w1.heap.size := fun e => by have := (World.ownsRow.lt hown5 _ e).1; omega
          have x6 : w6.cell? ⟨w1.heap.size, 5, none⟩ = some v := (hgr.cell (a := ⟨w1.heap.size, 5, none⟩) hXlt hnx).trans x5
          have hblk : w6.heap[w1.heap.size]? = w5.heap[w1.heap.size]? := hgr.block w1.heap.size hXlt (fun e => hnx e.symm)
          have f6 : w6.frozen? ⟨w1.heap.size, 5, none⟩ = false := (World.frozen?_of_block (w := w5) (a := ⟨w1.heap.size, 5, none⟩) hblk).trans hfz5
          have bel6 : Below w1.heap.size w1 w6 := hgr.below bel5 (by omega) (by omega)
          have HX7 : Hid (Bx (w6.setCell ⟨w1.heap.size, 5, none⟩ (.slice (some ⟨g, 0, none⟩) (j + 1) cap)) w1.heap.size (.int .i64 2) (.int .i64 24) (.int .i64 (Wd : Int)) (.int .i64 (Hi : Int)) (.slice none 0 0) (.slice (some ⟨g, 0, none⟩) (j + 1) cap)) := by
            obtain ⟨_, q0, q1, q2, q3, q4, _⟩ := HX6.out
            have old : ∀ i (y : Value), i ≠ 5 → w5.cell? ⟨w1.heap.size, i, none⟩ = some y → (w6.setCell ⟨w1.heap.size, 5, none⟩ (.slice (some ⟨g, 0, none⟩) (j + 1) cap)).cell? ⟨w1.heap.size, i, none⟩ = some y := fun i y hi h =>
              (World.cell?_setCell_other _ _ _ _ (fun e => hi (by have := congrArg Addr.off e; simpa using this.symm))).trans ((World.cell?_of_block (w := w5) (a := ⟨w1.heap.size, i, none⟩) hblk).trans h)
            exact ⟨by simp; exact Nat.lt_of_lt_of_le hXlt hgr.size, old 0 _ (by decide) q0, old 1 _ (by decide) q1, old 2 _ (by decide) q2, old 3 _ (by decide) q3, old 4 _ (by decide) q4, World.cell?_setCell_same _ _ _ x6⟩
          have HF7 : Hid ((w6.setCell ⟨w1.heap.size, 5, none⟩ (.slice (some ⟨g, 0, none⟩) (j + 1) cap)).frozen? ⟨w1.heap.size, 5, none⟩ = false) := by show _ = _; rw [World.frozen?_setCell]; exact f6
          have HO7 : Hid (OwnI (w6.setCell ⟨w1.heap.size, 5, none⟩ (.slice (some ⟨g, 0, none⟩) (j + 1) cap)) (w1.heap.size + 1) (.slice (some ⟨g, 0, none⟩) (j + 1) cap) (j + 1) (L ++ [u])) := by
            show OwnI _ _ _ _ _
            rw [hu]
            exact ownsRow_setCell_below (show World.ownsRow _ _ _ _ _ _ _ from hown6) (a := ⟨w1.heap.size, 5, none⟩) (show w1.heap.size < w1.heap.size + 1 by omega) _
          have HB7 : Hid (Below w1.heap.size w1 (w6.setCell ⟨w1.heap.size, 5, none⟩ (.slice (some ⟨g, 0, none⟩) (j + 1) cap))) := bel6.setCell (Nat.le_refl _) _
          clear hgr hown6 hown5 bel5 bel6 x5 x5' HX6 hfz5 hz5 hblk
          go_wp2_with fail
          go_roundw
          case rel => exact ⟨j + 1, _, by omega, by go_num, by rw [HBR.out]; exact HO7.out, HAL2.out, HX7.out, HF7.out, HB7.out⟩
          case measure => simp [intOf]; omega
        · have hbn : ((c : Int) % 256 != 255) = true := by rw [bne_iff_ne]; exact hdn
          have HND : Hid (denseB (cols k D cs ps) = false) := denseB_no HTK.out.2 hdn
          have hI6 : (Try.prog.info? 26).map (·.size) = some (#[Value.int .i64 0, .int .i64 0, .int .i64 0, .int .i64 0, .slice none 0 0, .slice none 0 0]).size := by kernel_rfl
          have h16 : (#[Value.int .i64 0, .int .i64 0, .int .i64 0, .int .i64 0, .slice none 0 0, .slice none 0 0]).all (·.oneCell') = true := by simp [Value.oneCell']
          have hs2 := setRow_heap w5 (w.heap.size + 1) _ #[.int .i64 0, .int .i64 0, .int .i64 0, .int .i64 0, .slice none 0 0, .slice none 0 0] _ _ hz5
          obtain ⟨⟨z0, z1, z2, z3, z4, z5⟩, _⟩ := box6 hs2
          have belw5 : Below w.heap.size w w5 := bel1.trans (bel5.mono bel1.size)
          clear hown5 hbx5 hfz5 HAL HTK
          go_wp2_with (refine wpList_store_row rfl 26 (.tmp 2) (.tmp 33) rfl (w.heap.size + 1) #[.int .i64 0, .int .i64 0, .int .i64 0, .int .i64 0, .slice none 0 0, .slice none 0 0] rfl rfl 26 #[.int .i64 0, .int .i64 0, .int .i64 0, .int .i64 0, .slice none 0 0, .slice none 0 0] hz5 hI6 rfl h16 ?_)
          refine bodyPost_ret (v := .tuple #[.agg #[.int .i64 0, .int .i64 0, .int .i64 0, .int .i64 0, .slice none 0 0, .slice none 0 0], .bool false]) (by simp [results, Try.results24, go_sem, z0, z1, z2, z3, z4, z5]) rfl ⟨.inr ⟨HND.out, rfl⟩, ?_⟩
          exact belw5.trans ((below_setRow _ _ _).mono (by omega))
    · obtain rfl : j = pn := by omega
      have HTA : Hid (ps.take j = ps) := by show _ = _; rw [List.take_of_length_le (by have := HN.out; omega)]
      rw [HTA.out] at HOw HAL
      obtain ⟨hXlt, x0, x1, x2, x3, x4, x5⟩ := HBX.out.1
      obtain ⟨y, cy, rfl, hOy⟩ := HOw.out.owns
      have HDN : Hid (denseB (cols k D cs ps) = true) := denseB_yes HAL.out
      have hzr := HZr.out
      have hI6 : (Try.prog.info? 26).map (·.size) = some (#[Value.int .i64 2, .int .i64 24, .int .i64 (Wd : Int), .int .i64 (Hi : Int), .slice none 0 0, .slice y j cy]).size := by kernel_rfl
      have h16 : (#[Value.int .i64 2, .int .i64 24, .int .i64 (Wd : Int), .int .i64 (Hi : Int), .slice none 0 0, .slice y j cy]).all (·.oneCell') = true := by simp [Value.oneCell']
      have hs2 := setRow_heap wr (w.heap.size + 1) _ #[.int .i64 2, .int .i64 24, .int .i64 (Wd : Int), .int .i64 (Hi : Int), .slice none 0 0, .slice y j cy] _ _ hzr
      obtain ⟨⟨z0, z1, z2, z3, z4, z5⟩, _⟩ := box6 hs2
      have HIY : Hid (Owns (wr.setRow (w.heap.size + 1) #[.int .i64 2, .int .i64 24, .int .i64 (Wd : Int), .int .i64 (Hi : Int), .slice none 0 0, .slice y j cy]) w.heap.size y (bares (cols k D cs ps))) := (hOy.row (by omega) _).lower (by omega)
      clear HAL HOw HBX hOy HPO HP HLA
      go_wp2_with (refine wpList_store_row rfl 26 (.tmp 2) (.tmp 41) rfl (w.heap.size + 1) #[.int .i64 2, .int .i64 24, .int .i64 (Wd : Int), .int .i64 (Hi : Int), .slice none 0 0, .slice y j cy] rfl rfl 26 #[.int .i64 0, .int .i64 0, .int .i64 0, .int .i64 0, .slice none 0 0, .slice none 0 0] hzr hI6 rfl h16 ?_)
      refine bodyPost_ret (v := .tuple #[.agg #[.int .i64 2, .int .i64 24, .int .i64 (Wd : Int), .int .i64 (Hi : Int), .slice none 0 0, .slice y j cy], .bool true]) (by simp [results, Try.results24, go_sem, z0, z1, z2, z3, z4, z5]) rfl ⟨.inl ⟨HDN.out, y, cy, rfl, HIY.out⟩, ?_⟩
      exact belr.trans ((below_setRow _ _ _).mono (by omega))
theorem spec_rgb_ok (k : Int) (D Wd Hi : Nat) (ca : Option Addr) (cn cc : Nat) (pa : Option Addr) (pn pc : Nat) (cs ps : List Int) (w : World) (ok : Im.Ok k (D : Int) (Wd : Int) (Hi : Int) cs ps) (hc : Ints w ca cs) (hcn : cs.length = cn) (hp : Ints w pa ps) (hpn : ps.length = pn) (hW : Wd ≤ 20) (hH : Hi ≤ 20) (hm : pn = Wd * Hi)
    (hOA : ∀ w', Below w.heap.size w w' → Calls Try.prog 17 #[.agg #[.int .i64 k, .int .i64 (D : Int), .int .i64 (Wd : Int), .int .i64 (Hi : Int), .slice ca cn cc, .slice pa pn pc]] w' fun e w'' => e = .returned (.bool true) ∧ Below w'.heap.size w' w'') :
    Calls Try.prog 24 #[.agg #[.int .i64 k, .int .i64 (D : Int), .int .i64 (Wd : Int), .int .i64 (Hi : Int), .slice ca cn cc, .slice pa pn pc]] w fun e w' =>
      ((denseB (cols k D cs ps) = true ∧ ∃ y cy, e = .returned (.tuple #[.agg #[.int .i64 2, .int .i64 24, .int .i64 (Wd : Int), .int .i64 (Hi : Int), .slice none 0 0, .slice y pn cy], .bool true]) ∧ Ints w' y (bares (cols k D cs ps))) ∨
       (denseB (cols k D cs ps) = false ∧ e = .returned (.tuple #[.agg #[.int .i64 0, .int .i64 0, .int .i64 0, .int .i64 0, .slice none 0 0, .slice none 0 0], .bool false]))) ∧ Below w.heap.size w w' := by
  refine (spec_rgb_own k D Wd Hi ca cn cc pa pn pc cs ps w ok hc hcn hp hpn hW hH hm hOA).mono ?_
  rintro e w' ⟨h | h, b⟩
  · obtain ⟨h1, y, cy, h2, h3⟩ := h
    exact ⟨.inl ⟨h1, y, cy, h2, h3.ints⟩, b⟩
  · exact ⟨.inr h, b⟩
end Go.Proofs.Ytjiogneidioknaa

/- ImageRgb at every picture, of both. -/
namespace Go.Proofs.Ytjiogneidioknaa
open Go.RowKit

theorem Im.okB_open {k d wd hi : Int} {cs ps : List Int} (h : Im.okB k d wd hi cs ps = true) : Im.Ok k d wd hi cs ps := @of_decide_eq_true _ (Classical.propDecidable _) h

/-- whether a picture can be made one of red, green and blue -/
noncomputable def rgB (k d wd hi : Int) (cs ps : List Int) : Bool := Im.okB k d wd hi cs ps && denseB (cols k d.toNat cs ps)
/-- a field of what comes out -/
noncomputable def rgK (k d wd hi : Int) (cs ps : List Int) (v : Int) : Int := if rgB k d wd hi cs ps then v else 0
/-- its points -/
noncomputable def rgL (k d wd hi : Int) (cs ps : List Int) : List Int := if rgB k d wd hi cs ps then bares (cols k d.toNat cs ps) else []
theorem bares_len (l : List Int) : (bares l).length = l.length := by simp [bares]
theorem cols_len (k : Int) (D : Nat) (cs ps : List Int) : (cols k D cs ps).length = ps.length := by simp [cols]

theorem rg_yes {k wd hi : Int} {D : Nat} {cs ps : List Int} (h : Im.okB k (D : Int) wd hi cs ps = true) (hd : denseB (cols k D cs ps) = true) :
    rgB k (D : Int) wd hi cs ps = true ∧ rgL k (D : Int) wd hi cs ps = bares (cols k D cs ps) ∧ ∀ v, rgK k (D : Int) wd hi cs ps v = v := by
  have hB : rgB k (D : Int) wd hi cs ps = true := by unfold rgB; rw [h, Int.toNat_natCast, hd]; rfl
  exact ⟨hB, by unfold rgL; rw [hB, Int.toNat_natCast]; rfl, fun v => by unfold rgK; rw [hB]; rfl⟩
theorem rg_no {k d wd hi : Int} {cs ps : List Int} (h : Im.okB k d wd hi cs ps = false ∨ denseB (cols k d.toNat cs ps) = false) :
    rgB k d wd hi cs ps = false ∧ rgL k d wd hi cs ps = [] ∧ ∀ v, rgK k d wd hi cs ps v = 0 := by
  have hB : rgB k d wd hi cs ps = false := by
    unfold rgB
    rcases h with h | h <;> rw [h] <;> simp
  exact ⟨hB, by unfold rgL; rw [hB]; rfl, fun v => by unfold rgK; rw [hB]; rfl⟩
theorem rgL_len (k d wd hi : Int) (cs ps : List Int) : (rgL k d wd hi cs ps).length ≤ 1048576 := by
  unfold rgL
  split
  · next h =>
    unfold rgB at h
    rw [Bool.and_eq_true] at h
    obtain ⟨_, hw, hh, _, hm, _⟩ := Im.okB_open h.1
    rw [bares_len, cols_len]
    obtain ⟨Wd, rfl⟩ := Int.eq_ofNat_of_zero_le (show 0 ≤ wd by omega)
    obtain ⟨Hi, rfl⟩ := Int.eq_ofNat_of_zero_le (show 0 ≤ hi by omega)
    have e : ((Wd * Hi : Nat) : Int) = (Wd : Int) * (Hi : Int) := by simp
    have : Wd * Hi ≤ 20 * 20 := Nat.mul_le_mul (by omega) (by omega)
    omega
  · simp
theorem rgb_upto (k : Int) (D : Nat) (cs ps : List Int) (Wd Hi : Nat) (h : ps.length = Wd * Hi) : upto (ptF Wd (fun x y => colF k D cs Wd ps x y / 256)) (Wd * Hi) = bares (cols k D cs ps) := by
  rw [← cols_upto k D cs ps Wd Hi h]
  unfold bares upto
  rw [List.map_map]; rfl
theorem tmod_col {k wd hi : Int} {D : Nat} {cs ps : List Int} (hok : Im.Ok k (D : Int) wd hi cs ps) {c : Int} (hc : c ∈ cols k D cs ps) : c.tmod 256 = c % 256 := by
  unfold cols at hc
  obtain ⟨p, hp, rfl⟩ := List.mem_map.1 hc
  exact Int.tmod_eq_emod_of_nonneg (col_bounds hok hp).1

theorem spec_rgb (k d wd hi : Int) (ca : Option Addr) (cn cc : Nat) (pa : Option Addr) (pn pc : Nat) (cs ps : List Int) (w : World) (hc : Ints w ca cs) (hcn : cs.length = cn) (hcl : cn ≤ 1048576) (hp : Ints w pa ps) (hpn : ps.length = pn) (_hpl : pn ≤ 1048576) :
    Calls Try.prog 24 #[.agg #[.int .i64 k, .int .i64 d, .int .i64 wd, .int .i64 hi, .slice ca cn cc, .slice pa pn pc]] w fun e w'' => (∃ x cx y cy, e = .returned (.tuple #[.agg #[.int .i64 (rgK k d wd hi cs ps 2), .int .i64 (rgK k d wd hi cs ps 24), .int .i64 (rgK k d wd hi cs ps wd), .int .i64 (rgK k d wd hi cs ps hi), .slice x 0 cx, .slice y (rgL k d wd hi cs ps).length cy], .bool (rgB k d wd hi cs ps)]) ∧ Ints w'' x [] ∧ Ints w'' y (rgL k d wd hi cs ps)) ∧ Below w.heap.size w w'' := by
  rcases hok : Im.okB k d wd hi cs ps with _ | _
  · refine (spec_rgb_no k d wd hi ca cn cc pa pn pc w (fun w'' b => by have := spec_imageOk k d wd hi ca cn cc pa pn pc w'' cs ps (hc.kept b) hcn hcl (hp.kept b) hpn; rw [hok] at this; exact this)).mono ?_
    rintro e w'' ⟨rfl, b⟩
    obtain ⟨hB, hL, hK⟩ := rg_no (k := k) (d := d) (wd := wd) (hi := hi) (cs := cs) (ps := ps) (.inl hok)
    refine ⟨⟨none, 0, none, 0, ?_, .inl rfl, .inl hL⟩, b⟩
    rw [hB, hK, hK, hK, hK, hL]; rfl
  · have hOk := Im.okB_open hok
    obtain ⟨hd, hw, hh, _, hm, _⟩ := hOk
    obtain ⟨Wd, rfl⟩ := Int.eq_ofNat_of_zero_le (show 0 ≤ wd by omega)
    obtain ⟨Hi, rfl⟩ := Int.eq_ofNat_of_zero_le (show 0 ≤ hi by omega)
    obtain ⟨D, rfl, _, _⟩ := Im.dep_all hd
    have e : ((Wd * Hi : Nat) : Int) = (Wd : Int) * (Hi : Int) := by simp
    have hmm : pn = Wd * Hi := by omega
    have hOk := Im.okB_open hok
    · skip
      refine (spec_rgb_ok k D Wd Hi ca cn cc pa pn pc cs ps w hOk hc hcn hp hpn (by omega) (by omega) hmm (fun w'' b => by
        have := spec_imageOk k D Wd Hi ca cn cc pa pn pc w'' cs ps (hc.kept b) hcn hcl (hp.kept b) hpn
        rw [hok] at this; exact this)).mono ?_
      rintro e w'' ⟨h | h, b⟩
      · obtain ⟨hd, y, cy, rfl, hy⟩ := h
        obtain ⟨hB, hL, hK⟩ := rg_yes hok hd
        refine ⟨⟨none, 0, y, cy, ?_, .inl rfl, ?_⟩, b⟩
        · rw [hB, hK, hK, hK, hK, hL, bares_len, cols_len, hpn]
        · rw [hL]; exact hy
      · obtain ⟨hd, rfl⟩ := h
        obtain ⟨hB, hL, hK⟩ := rg_no (d := (D : Int)) (wd := (Wd : Int)) (hi := (Hi : Int)) (k := k) (cs := cs) (ps := ps) (.inr hd)
        refine ⟨⟨none, 0, none, 0, ?_, .inl rfl, .inl hL⟩, b⟩
        rw [hB, hK, hK, hK, hK, hL]; rfl

theorem impl_rgb (k d wd hi : Int) (ca : Option Addr) (cn cc : Nat) (pa : Option Addr) (pn pc : Nat) (cs ps : List Int) (w : World) (hc : Ints w ca cs) (hcn : cs.length = cn) (hcl : cn ≤ 1048576) (hp : Ints w pa ps) (hpn : ps.length = pn) (hpl : pn ≤ 1048576) :
    Calls Try.prog 18 #[.agg #[.int .i64 k, .int .i64 d, .int .i64 wd, .int .i64 hi, .slice ca cn cc, .slice pa pn pc]] w fun e w'' => (∃ x cx y cy, e = .returned (.tuple #[.agg #[.int .i64 (rgK k d wd hi cs ps 2), .int .i64 (rgK k d wd hi cs ps 24), .int .i64 (rgK k d wd hi cs ps wd), .int .i64 (rgK k d wd hi cs ps hi), .slice x 0 cx, .slice y (rgL k d wd hi cs ps).length cy], .bool (rgB k d wd hi cs ps)]) ∧ Pair2 w'' w.heap.size x [] y (rgL k d wd hi cs ps)) ∧ Below w.heap.size w w'' := by
  rcases hok : Im.okB k d wd hi cs ps with _ | _
  · refine (impl_rgb_no k d wd hi ca cn cc pa pn pc w (fun w'' b => by have := impl_imageOk k d wd hi ca cn cc pa pn pc w'' cs ps (hc.kept b) hcn hcl (hp.kept b) hpn (by omega); rw [hok] at this; exact this)).mono ?_
    rintro e w'' ⟨rfl, b⟩
    obtain ⟨hB, hL, hK⟩ := rg_no (k := k) (d := d) (wd := wd) (hi := hi) (cs := cs) (ps := ps) (.inl hok)
    refine ⟨⟨none, 0, none, 0, ?_, ⟨w.heap.size, Nat.le_refl _, .inl rfl, .inl rfl, .inl hL⟩⟩, b⟩
    rw [hB, hK, hK, hK, hK, hL]; rfl
  · have hOk := Im.okB_open hok
    obtain ⟨hd, hw, hh, _, hm, _⟩ := hOk
    obtain ⟨Wd, rfl⟩ := Int.eq_ofNat_of_zero_le (show 0 ≤ wd by omega)
    obtain ⟨Hi, rfl⟩ := Int.eq_ofNat_of_zero_le (show 0 ≤ hi by omega)
    obtain ⟨D, rfl, _, _⟩ := Im.dep_all hd
    have e : ((Wd * Hi : Nat) : Int) = (Wd : Int) * (Hi : Int) := by simp
    have hmm : pn = Wd * Hi := by omega
    have hOk := Im.okB_open hok
    · skip
      refine (callsIn_wide.1 (impl_rgb_in k D Wd Hi ca cn cc pa pn pc cs ps w hOk hc hcn hp hpn (by omega) (by omega) hmm (fun w'' b => by
        have := impl_imageOk k D Wd Hi ca cn cc pa pn pc w'' cs ps (hc.kept b) hcn hcl (hp.kept b) hpn (by omega)
        rw [hok] at this; exact this))).mono ?_
      rintro e w'' ⟨h | h, b⟩
      · obtain ⟨hd, x, cx, y, cy, rfl, hP⟩ := h
        have hd' : denseB (cols k D cs ps) = true := denseB_yes (fun c hc => by
          have h1 := hd c hc
          rwa [tmod_col hOk hc] at h1)
        obtain ⟨hB, hL, hK⟩ := rg_yes hok hd'
        refine ⟨⟨x, cx, y, cy, ?_, ?_⟩, b⟩
        · rw [hB, hK, hK, hK, hK, hL, bares_len, cols_len, hpn, hmm]
        · rw [hL, ← rgb_upto k D cs ps Wd Hi (by rw [hpn, hmm])]; exact hP
      · obtain ⟨⟨z, hz, hz2⟩, rfl⟩ := h
        have hd' : denseB (cols k D cs ps) = false := denseB_no hz (by rwa [tmod_col hOk hz] at hz2)
        obtain ⟨hB, hL, hK⟩ := rg_no (d := (D : Int)) (wd := (Wd : Int)) (hi := (Hi : Int)) (k := k) (cs := cs) (ps := ps) (.inr hd')
        refine ⟨⟨none, 0, none, 0, ?_, ⟨w.heap.size, Nat.le_refl _, .inl rfl, .inl rfl, .inl hL⟩⟩, b⟩
        rw [hB, hK, hK, hK, hK, hL]; rfl
end Go.Proofs.Ytjiogneidioknaa

/- Colours as they come first, and the place of each in their list. -/
namespace Go.Proofs.Ytjiogneidioknaa

/-- a list, and what is not yet in it behind -/
def palAdd (acc : List Int) (x : Int) : List Int := if x ∈ acc then acc else acc ++ [x]
/-- colours as they come first -/
def palList (l : List Int) : List Int := l.foldl palAdd []
def palAt (acc : List Int) (x : Int) : Nat := acc.idxOf x
/-- the place of each -/
def palPix (l : List Int) : List Int := l.map fun x => (palAt (palList l) x : Int)
/-- of how many bits -/
def palDepth (n : Nat) : Nat := if n ≤ 2 then 1 else if n ≤ 4 then 2 else if n ≤ 16 then 4 else if n ≤ 256 then 8 else 16
/-- the place, or -1 -/
def palFind (acc : List Int) (x : Int) : Int := if x ∈ acc then (palAt acc x : Int) else -1

theorem palDepth_pos (n : Nat) : 1 ≤ palDepth n := by
  unfold palDepth
  (repeat' split) <;> omega
theorem palDepth_small {n : Nat} (h : n ≤ 256) : palDepth n ≤ 8 := by
  unfold palDepth
  (repeat' split) <;> omega
theorem palDepth_big {n : Nat} (h : ¬ n ≤ 256) : ¬ palDepth n ≤ 8 := by
  unfold palDepth
  (repeat' split) <;> omega
theorem palList_nil : palList [] = [] := rfl
theorem palList_snoc (l : List Int) (x : Int) : palList (l ++ [x]) = palAdd (palList l) x := by simp [palList, List.foldl_append]
theorem palAdd_in {acc : List Int} {x : Int} (h : x ∈ acc) : palAdd acc x = acc := if_pos h
theorem palAdd_new {acc : List Int} {x : Int} (h : x ∉ acc) : palAdd acc x = acc ++ [x] := if_neg h
theorem mem_palAdd {acc : List Int} {x y : Int} : y ∈ palAdd acc x ↔ y ∈ acc ∨ y = x := by
  unfold palAdd
  split
  · next h => exact ⟨.inl, fun h' => by rcases h' with h' | rfl; exact h'; exact h⟩
  · simp
theorem mem_fold (l acc : List Int) (y : Int) : y ∈ l.foldl palAdd acc ↔ y ∈ acc ∨ y ∈ l := by
  induction l generalizing acc with
  | nil => simp
  | cons a l ih => rw [List.foldl_cons, ih, mem_palAdd, List.mem_cons, or_assoc]
theorem mem_palList (l : List Int) (y : Int) : y ∈ palList l ↔ y ∈ l := by unfold palList; rw [mem_fold]; simp
theorem palAdd_len (acc : List Int) (x : Int) : (palAdd acc x).length ≤ acc.length + 1 := by
  unfold palAdd
  split
  · omega
  · simp
theorem fold_len (l acc : List Int) : (l.foldl palAdd acc).length ≤ acc.length + l.length := by
  induction l generalizing acc with
  | nil => simp
  | cons a l ih =>
    rw [List.foldl_cons, List.length_cons]
    have h1 := ih (palAdd acc a)
    have h2 := palAdd_len acc a
    omega
theorem palList_len (l : List Int) : (palList l).length ≤ l.length := by have := fold_len l []; simpa [palList] using this
theorem palAdd_nodup {acc : List Int} {x : Int} (h : acc.Nodup) : (palAdd acc x).Nodup := by
  unfold palAdd
  split
  · exact h
  · next hn =>
    rw [List.nodup_append]
    refine ⟨h, by simp, fun a ha b hb => ?_⟩
    rw [List.mem_singleton] at hb
    subst hb
    exact fun e => hn (e ▸ ha)
theorem palList_nodup (l : List Int) : (palList l).Nodup := by
  unfold palList
  suffices h : ∀ acc : List Int, acc.Nodup → (l.foldl palAdd acc).Nodup from h [] List.nodup_nil
  induction l with
  | nil => exact fun acc h => h
  | cons a l ih => exact fun acc h => ih _ (palAdd_nodup h)
theorem palAt_lt {acc : List Int} {x : Int} (h : x ∈ acc) : palAt acc x < acc.length := List.idxOf_lt_length_of_mem h
theorem palAt_get {acc : List Int} {x : Int} (h : x ∈ acc) : acc[palAt acc x]? = some x := by
  rw [List.getElem?_eq_getElem (palAt_lt h)]
  exact congrArg some (List.getElem_idxOf (palAt_lt h))
theorem palAt_add {acc : List Int} {x y : Int} (h : x ∈ acc) : palAt (palAdd acc y) x = palAt acc x := by
  unfold palAdd
  split
  · rfl
  · unfold palAt; rw [List.idxOf_append, if_pos h]
theorem palAt_new {acc : List Int} {x : Int} (h : x ∉ acc) : palAt (acc ++ [x]) x = acc.length := by
  unfold palAt
  rw [List.idxOf_append, if_neg h]
  simp
theorem palPix_snoc (l : List Int) (x : Int) : palPix (l ++ [x]) = palPix l ++ [(palAt (palList (l ++ [x])) x : Int)] := by
  unfold palPix
  rw [List.map_append, List.map_singleton]
  congr 1
  apply List.map_congr_left
  intro y hy
  rw [palList_snoc, palAt_add ((mem_palList l y).2 hy)]
theorem palPix_len (l : List Int) : (palPix l).length = l.length := by simp [palPix]
theorem palFind_in {acc : List Int} {x : Int} (h : x ∈ acc) : palFind acc x = (palAt acc x : Int) := if_pos h
theorem palFind_new {acc : List Int} {x : Int} (h : x ∉ acc) : palFind acc x = -1 := if_neg h
theorem palAt_first {acc : List Int} {x : Int} {j : Nat} (hj : j < acc.length) (h : acc[j] = x) (hn : x ∉ acc.take j) : palAt acc x = j := by
  unfold palAt
  have e : acc = acc.take j ++ x :: acc.drop (j + 1) := by rw [← h, List.getElem_cons_drop, List.take_append_drop]
  rw [e, List.idxOf_append, if_neg hn]
  simp [Nat.min_eq_left (Nat.le_of_lt hj)]
/-- an order that tells of each place: what is told of the k-th -/
theorem palPix_lt (l : List Int) {p : Int} (h : p ∈ palPix l) : 0 ≤ p ∧ p < (palList l).length := by
  unfold palPix at h
  obtain ⟨x, hx, rfl⟩ := List.mem_map.1 h
  have := palAt_lt ((mem_palList l x).2 hx)
  omega
end Go.Proofs.Ytjiogneidioknaa

/- ImagePal of the specification. -/
namespace Go.Proofs.Ytjiogneidioknaa
open Go.RowKit

set_option maxHeartbeats 1000000 in
theorem l8Find_any (a : Option Addr) (n c : Nat) (l : List Int) (x : Int) (w : World) (h : Ints w a l) (hn : l.length = n) (hb : n ≤ 1048576) :
    Calls Try.prog 25 #[.slice a n c, .int .i64 x] w fun e w' => e = .returned (.int .i64 (palFind l x)) ∧ w' = w := by
  have HI : Hid (Ints w a l) := h
  have HN : Hid (l.length = n) := hn
  clear h hn
  go_enter Try.func25, Try.ntmps25
  go_wp2_with fail
  go_loop [5] (fun i => ∃ k : Nat, k ≤ n ∧ i = .int .i64 (k : Int) ∧ x ∉ l.take k) (fun i => n - (intOf i).toNat)
  case atStart => exact ⟨0, Nat.zero_le _, rfl, by simp⟩
  case round =>
    obtain ⟨k, hk, rfl, hno⟩ := hrel
    have HNO : Hid (x ∉ l.take k) := hno
    clear hno
    by_cases hlt : k < n
    · have hkl : k < l.length := by have := HN.out; omega
      rcases HI.out with e | ⟨b, off, rfl, hbb, hc⟩
      · rw [e] at hkl; simp at hkl
      · have hck := hc k hkl
        obtain ⟨z, hz⟩ : ∃ z, z = l[k] := ⟨_, rfl⟩
        rw [← hz] at hck
        have HZ : Hid (z = l[k]) := hz
        clear hz hc
        by_cases hxz : z = x
        · have HA : Hid (palFind l x = (k : Int)) := by
            have hm : x ∈ l := by rw [← hxz, HZ.out]; exact List.getElem_mem hkl
            show _ = _
            rw [palFind_in hm, palAt_first hkl (by rw [← HZ.out]; exact hxz) HNO.out]
          go_wp2_with fail
          go_ret
          exact ⟨ret_int HA.out.symm, rfl⟩
        · have HA : Hid (x ∉ l.take (k + 1)) := by
            show _ ∉ _
            rw [List.take_succ_eq_append_getElem hkl, List.mem_append, List.mem_singleton]
            rintro (h | h)
            · exact HNO.out h
            · exact hxz (by rw [HZ.out]; exact h.symm)
          go_wp2_with fail
          go_round
          case rel => exact ⟨k + 1, by omega, by go_num, HA.out⟩
          case measure => simp [intOf]; omega
    · have HA : Hid (palFind l x = -1) := palFind_new (by
        have := HNO.out
        rwa [List.take_of_length_le (by have := HN.out; omega)] at this)
      go_wp2_with fail
      go_ret
      exact ⟨ret_int HA.out.symm, rfl⟩

theorem setCell_row {w : World} {B : Nat} {cur : Array Value} {T : TypeId} (h : w.heap[B]? = some (.cells cur T (0, 0))) (i : Nat) (x : Value) : (w.setCell ⟨B, i, none⟩ x).heap[B]? = some (.cells (cur.setIfInBounds i x) T (0, 0)) := by
  rw [setCell_eq_setRow w B i cur T (0, 0) x h]
  exact setRow_heap w B cur _ T (0, 0) h

theorem OwnI.grew {base g n m : Nat} {w0 w' : World} {v u : Value} {l : List Int} (h : OwnI w0 base u m l) (hg : Grew base w0 w' v g) (hf : ∀ k, v.ownBlock = some k → u.ownBlock ≠ some k) : OwnI w' base u m l ∧ ∀ k cap, (Value.slice (some ⟨g, 0, none⟩) n cap).ownBlock = some k → u.ownBlock ≠ some k := by
  have hlt : ∀ k, u.ownBlock = some k → base ≤ k ∧ k < w0.heap.size := fun k hk => World.ownsRow.lt h k hk
  refine ⟨?_, fun k cap e => ?_⟩
  · obtain ⟨h1, h2⟩ := h
    refine ⟨h1, ?_⟩
    rcases h2 with h2 | ⟨g2, cap, cur, rfl, hb, hc, hr⟩
    · exact .inl h2
    · have := hlt g2 rfl
      exact .inr ⟨g2, cap, cur, rfl, hb, (hg.block g2 this.2 (fun e => hf g2 e.symm rfl)).trans hc, hr⟩
  · have e' : g = k := by injection e
    subst e'
    intro eu
    rcases hg.at_ with e1 | e1
    · exact hf g e1 eu
    · have := (hlt g eu).2; omega

theorem palDepth_more {d nC : Nat} (h : d = 1 ∨ d = 2 ∨ d = 4 ∨ d = 8 ∨ d = 16) (hn : nC ≤ 400) (hlt : 2 ^ d < nC) : d * 2 ≤ palDepth nC ∧ d ≤ 8 ∧ (d * 2 = 1 ∨ d * 2 = 2 ∨ d * 2 = 4 ∨ d * 2 = 8 ∨ d * 2 = 16) := by
  unfold palDepth
  rcases h with rfl | rfl | rfl | rfl | rfl <;> simp at hlt ⊢ <;> (try split) <;> (try split) <;> (try split) <;> (try split) <;> omega
theorem palDepth_end {d nC : Nat} (h : d = 1 ∨ d = 2 ∨ d = 4 ∨ d = 8 ∨ d = 16) (hd : d ≤ palDepth nC) (hlt : ¬ 2 ^ d < nC) : d = palDepth nC := by
  unfold palDepth at *
  rcases h with rfl | rfl | rfl | rfl | rfl <;> simp at hlt <;> (repeat' split at hd) <;> (repeat' split) <;> omega
/-- a number in memory -/
def cellN (w : World) (a : Addr) : Nat := match w.cell? a with | some v => (intOf v).toNat | none => 0
theorem cellN_of {w : World} {a : Addr} {n : Nat} (h : w.cell? a = some (.int .i64 (n : Int))) : cellN w a = n := by unfold cellN; rw [h]; simp [intOf]

set_option maxHeartbeats 1000000 in
set_option maxRecDepth 20000 in
theorem spec_pal_no (k d wd hi : Int) (ca : Option Addr) (cn cc : Nat) (pa : Option Addr) (pn pc : Nat) (w : World)
    (hO : ∀ w', Below w.heap.size w w' → Calls Try.prog 24 #[.agg #[.int .i64 k, .int .i64 d, .int .i64 wd, .int .i64 hi, .slice ca cn cc, .slice pa pn pc]] w' fun e w'' => (∃ x cx y cy, e = .returned (.tuple #[.agg #[.int .i64 0, .int .i64 0, .int .i64 0, .int .i64 0, .slice x 0 cx, .slice y 0 cy], .bool false])) ∧ Below w'.heap.size w' w'') :
    Calls Try.prog 7 #[.agg #[.int .i64 k, .int .i64 d, .int .i64 wd, .int .i64 hi, .slice ca cn cc, .slice pa pn pc]] w fun e w' => e = .returned (.tuple #[.agg #[.int .i64 0, .int .i64 0, .int .i64 0, .int .i64 0, .slice none 0 0, .slice none 0 0], .bool false]) ∧ Below w.heap.size w w' := by
  have hB0 : Below w.heap.size w ((w.alloc (.cells #[.int .i64 k, .int .i64 d, .int .i64 wd, .int .i64 hi, .slice ca cn cc, .slice pa pn pc] 26)).alloc (.cells #[.int .i64 0, .int .i64 0, .int .i64 0, .int .i64 0, .slice none 0 0, .slice none 0 0] 26)) := ((Below.refl _ _).alloc (Nat.le_refl _) _).alloc (by simp) _
  have HO : Hid (∀ w', Below w.heap.size w w' → Calls Try.prog 24 #[.agg #[.int .i64 k, .int .i64 d, .int .i64 wd, .int .i64 hi, .slice ca cn cc, .slice pa pn pc]] w' fun e w'' => (∃ x cx y cy, e = .returned (.tuple #[.agg #[.int .i64 0, .int .i64 0, .int .i64 0, .int .i64 0, .slice x 0 cx, .slice y 0 cy], .bool false])) ∧ Below w'.heap.size w' w'') := hO
  clear hO
  have HZ : Hid (((w.alloc (.cells #[.int .i64 k, .int .i64 d, .int .i64 wd, .int .i64 hi, .slice ca cn cc, .slice pa pn pc] 26)).alloc (.cells #[.int .i64 0, .int .i64 0, .int .i64 0, .int .i64 0, .slice none 0 0, .slice none 0 0] 26)).heap[w.heap.size + 1]? = some (.cells #[.int .i64 0, .int .i64 0, .int .i64 0, .int .i64 0, .slice none 0 0, .slice none 0 0] 26 (0, 0))) := heap_alloc2_new _ _ _
  go_enter Try.func7, Try.ntmps7
  go_wp2_with fail
  refine (HO.out _ hB0).mono ?_
  rintro e w1 ⟨⟨x, cx, y, cy, rfl⟩, b1⟩
  have bel1 := hB0.trans (b1.mono hB0.size)
  have b2 : Below w1.heap.size w1 (w1.alloc (.cells #[.int .i64 0, .int .i64 0, .int .i64 0, .int .i64 0, .slice x 0 cx, .slice y 0 cy] 26)) := (Below.refl _ _).alloc (Nat.le_refl _) _
  have hz1 : (w1.alloc (.cells #[.int .i64 0, .int .i64 0, .int .i64 0, .int .i64 0, .slice x 0 cx, .slice y 0 cy] 26)).heap[w.heap.size + 1]? = some (.cells #[.int .i64 0, .int .i64 0, .int .i64 0, .int .i64 0, .slice none 0 0, .slice none 0 0] 26 (0, 0)) := (b2.block _ (Nat.lt_of_lt_of_le (by simp) b1.size)).trans ((b1.block _ (by simp)).trans HZ.out)
  have bel2 := bel1.trans (b2.mono bel1.size)
  clear b1 hB0 HO HZ bel1 b2
  have hI6 : (Try.prog.info? 26).map (·.size) = some (#[Value.int .i64 0, .int .i64 0, .int .i64 0, .int .i64 0, .slice none 0 0, .slice none 0 0]).size := by kernel_rfl
  have h16 : (#[Value.int .i64 0, .int .i64 0, .int .i64 0, .int .i64 0, .slice none 0 0, .slice none 0 0]).all (·.oneCell') = true := by simp [Value.oneCell']
  have hs2 := setRow_heap _ (w.heap.size + 1) _ #[.int .i64 0, .int .i64 0, .int .i64 0, .int .i64 0, .slice none 0 0, .slice none 0 0] _ _ hz1
  obtain ⟨⟨z0, z1, z2, z3, z4, z5⟩, _⟩ := box6 hs2
  go_wp2_with (refine wpList_store_row rfl 26 (.tmp 2) (.tmp 16) rfl (w.heap.size + 1) #[.int .i64 0, .int .i64 0, .int .i64 0, .int .i64 0, .slice none 0 0, .slice none 0 0] rfl rfl 26 #[.int .i64 0, .int .i64 0, .int .i64 0, .int .i64 0, .slice none 0 0, .slice none 0 0] hz1 hI6 rfl h16 ?_)
  refine bodyPost_ret (v := .tuple #[.agg #[.int .i64 0, .int .i64 0, .int .i64 0, .int .i64 0, .slice none 0 0, .slice none 0 0], .bool false]) (by simp [results, Try.results7, go_sem, z0, z1, z2, z3, z4, z5]) rfl ⟨rfl, ?_⟩
  exact bel2.trans ((below_setRow _ _ _).mono (by omega))

set_option linter.unusedSimpArgs false in
set_option maxHeartbeats 4000000 in
set_option maxRecDepth 20000 in
theorem spec_pal_own (k d wd hi : Int) (ca : Option Addr) (cn cc : Nat) (pa : Option Addr) (pn pc : Nat) (n : Nat) (L : List Int) (w : World) (hL : L.length = n) (hn : n ≤ 400)
    (hO : ∀ w', Below w.heap.size w w' → Calls Try.prog 24 #[.agg #[.int .i64 k, .int .i64 d, .int .i64 wd, .int .i64 hi, .slice ca cn cc, .slice pa pn pc]] w' fun e w'' => (∃ x cx y cy, e = .returned (.tuple #[.agg #[.int .i64 2, .int .i64 24, .int .i64 wd, .int .i64 hi, .slice x 0 cx, .slice y n cy], .bool true]) ∧ Ints w'' y L) ∧ Below w'.heap.size w' w'') :
    Calls Try.prog 7 #[.agg #[.int .i64 k, .int .i64 d, .int .i64 wd, .int .i64 hi, .slice ca cn cc, .slice pa pn pc]] w fun e w' =>
      (((palList L).length ≤ 256 ∧ ∃ x cx y cy, e = .returned (.tuple #[.agg #[.int .i64 4, .int .i64 (palDepth (palList L).length : Int), .int .i64 wd, .int .i64 hi, .slice x (palList L).length cx, .slice y n cy], .bool true]) ∧ Owns w' w.heap.size x (palList L) ∧ Owns w' w.heap.size y (palPix L)) ∨
       (256 < (palList L).length ∧ e = .returned (.tuple #[.agg #[.int .i64 0, .int .i64 0, .int .i64 0, .int .i64 0, .slice none 0 0, .slice none 0 0], .bool false]))) ∧ Below w.heap.size w w' := by
  have hB0 : Below w.heap.size w ((w.alloc (.cells #[.int .i64 k, .int .i64 d, .int .i64 wd, .int .i64 hi, .slice ca cn cc, .slice pa pn pc] 26)).alloc (.cells #[.int .i64 0, .int .i64 0, .int .i64 0, .int .i64 0, .slice none 0 0, .slice none 0 0] 26)) := ((Below.refl _ _).alloc (Nat.le_refl _) _).alloc (by simp) _
  have HO : Hid (∀ w', Below w.heap.size w w' → Calls Try.prog 24 #[.agg #[.int .i64 k, .int .i64 d, .int .i64 wd, .int .i64 hi, .slice ca cn cc, .slice pa pn pc]] w' fun e w'' => (∃ x cx y cy, e = .returned (.tuple #[.agg #[.int .i64 2, .int .i64 24, .int .i64 wd, .int .i64 hi, .slice x 0 cx, .slice y n cy], .bool true]) ∧ Ints w'' y L) ∧ Below w'.heap.size w' w'') := hO
  clear hO
  have A0 : Hid (Bx ((w.alloc (.cells #[.int .i64 k, .int .i64 d, .int .i64 wd, .int .i64 hi, .slice ca cn cc, .slice pa pn pc] 26)).alloc (.cells #[.int .i64 0, .int .i64 0, .int .i64 0, .int .i64 0, .slice none 0 0, .slice none 0 0] 26)) w.heap.size (.int .i64 k) (.int .i64 d) (.int .i64 wd) (.int .i64 hi) (.slice ca cn cc) (.slice pa pn pc)) := (bx_new w _ _ _ _ _ _ 26).kept ((Below.refl _ _).alloc (Nat.le_refl _) _)
  have HZ : Hid (((w.alloc (.cells #[.int .i64 k, .int .i64 d, .int .i64 wd, .int .i64 hi, .slice ca cn cc, .slice pa pn pc] 26)).alloc (.cells #[.int .i64 0, .int .i64 0, .int .i64 0, .int .i64 0, .slice none 0 0, .slice none 0 0] 26)).heap[w.heap.size + 1]? = some (.cells #[.int .i64 0, .int .i64 0, .int .i64 0, .int .i64 0, .slice none 0 0, .slice none 0 0] 26 (0, 0))) := heap_alloc2_new _ _ _
  have HL : Hid (L.length = n) := hL
  have HFI : Hid (∀ (a : Option Addr) (n c : Nat) (l : List Int) (x : Int) (w' : World), Ints w' a l → l.length = n → n ≤ 1048576 → Calls Try.prog 25 #[.slice a n c, .int .i64 x] w' fun e w'' => e = .returned (.int .i64 (palFind l x)) ∧ w'' = w') := l8Find_any
  have HPW : Hid (∀ (m : Nat) (w' : World), m ≤ 60 → Calls Try.prog 26 #[.int .i64 m] w' fun e w'' => e = .returned (.int .i64 ((2 ^ m : Nat) : Int)) ∧ w'' = w') := l1Pow_any
  clear hL
  go_enter Try.func7, Try.ntmps7
  go_wp2_with fail
  refine (HO.out _ hB0).mono ?_
  rintro e w1 ⟨⟨x, cx, y, cy, rfl, hy⟩, b1⟩
  have bel1 : Below w.heap.size w w1 := hB0.trans (b1.mono hB0.size)
  have A1 : Hid (Bx (w1.alloc (.cells #[.int .i64 2, .int .i64 24, .int .i64 wd, .int .i64 hi, .slice x 0 cx, .slice y n cy] 26)) w.heap.size (.int .i64 k) (.int .i64 d) (.int .i64 wd) (.int .i64 hi) (.slice ca cn cc) (.slice pa pn pc)) := (A0.out.kept b1).kept ((Below.refl _ _).alloc (Nat.le_refl _) _)
  have HZ1 : Hid (w1.heap[w.heap.size + 1]? = some (.cells #[.int .i64 0, .int .i64 0, .int .i64 0, .int .i64 0, .slice none 0 0, .slice none 0 0] 26 (0, 0))) := (b1.block _ (by simp)).trans HZ.out
  have hlt1 : w.heap.size + 1 < w1.heap.size := Nat.lt_of_lt_of_le (by simp) b1.size
  have HY : Hid (Ints w1 y L) := hy
  clear b1 hB0 A0 HO HZ hy
  obtain ⟨_, a0, a1, a2, a3, a4, a5⟩ := A1.out
  go_wp2_with fail
  clear a0 a1 a2 a3 a4 a5
  obtain ⟨WX, hWX⟩ : ∃ WX, WX = (w1.alloc (.cells #[.int .i64 2, .int .i64 24, .int .i64 wd, .int .i64 hi, .slice x 0 cx, .slice y n cy] 26)).alloc (.cells #[.int .i64 4, .int .i64 1, .int .i64 wd, .int .i64 hi, .slice none 0 0, .slice none 0 0] 26) := ⟨_, rfl⟩
  have HX0 : Hid (Bx WX w1.heap.size (.int .i64 2) (.int .i64 24) (.int .i64 wd) (.int .i64 hi) (.slice x 0 cx) (.slice y n cy) ∧ WX.heap[w1.heap.size + 1]? = some (.cells #[.int .i64 4, .int .i64 1, .int .i64 wd, .int .i64 hi, .slice none 0 0, .slice none 0 0] 26 (0, 0)) ∧ Below w1.heap.size w1 WX) :=
    ⟨by rw [hWX]; exact (bx_new w1 _ _ _ _ _ _ 26).kept ((Below.refl _ _).alloc (Nat.le_refl _) _), by rw [hWX]; exact heap_alloc2_new _ _ _, by rw [hWX]; exact ((Below.refl _ _).alloc (Nat.le_refl _) _).alloc (by simp) _⟩
  have hszX : WX.heap.size = w1.heap.size + 2 := by rw [hWX]; simp
  rw [← hWX]
  clear hWX A1
  have HZX : Hid (WX.heap[w.heap.size + 1]? = some (.cells #[.int .i64 0, .int .i64 0, .int .i64 0, .int .i64 0, .slice none 0 0, .slice none 0 0] 26 (0, 0))) := (HX0.out.2.2.block _ hlt1).trans HZ1.out
  have hltX : w1.heap.size + 1 < WX.heap.size := by omega
  have HBX : Hid (Below w.heap.size w WX) := bel1.trans (HX0.out.2.2.mono bel1.size)
  clear HZ1 hszX bel1
  go_loopw [7] (fun i wr => ∃ (j nC : Nat) (v u : Value), j ≤ n ∧ i = .int .i64 (j : Int) ∧ nC = (palList (L.take j)).length ∧ wr.heap[w1.heap.size + 1]? = some (.cells #[.int .i64 4, .int .i64 1, .int .i64 wd, .int .i64 hi, v, u] 26 (0, 0)) ∧ OwnI wr (w1.heap.size + 2) v nC (palList (L.take j)) ∧ OwnI wr (w1.heap.size + 2) u j (palPix (L.take j)) ∧ (∀ k, v.ownBlock = some k → u.ownBlock ≠ some k) ∧ Below (w1.heap.size + 1) WX wr) (fun i _ => n - (intOf i).toNat)
  case atStart => exact ⟨0, 0, .slice none 0 0, .slice none 0 0, Nat.zero_le _, rfl, rfl, HX0.out.2.1, World.ownsRow_nil _ _ _ _, World.ownsRow_nil _ _ _ _, (fun k h => by cases h), Below.refl _ _⟩
  case round =>
    obtain ⟨j, nC, v, u, hj, rfl, hnC, hcl, hv, hu, hfar, hbel⟩ := hrel
    have HNC : Hid (nC = (palList (L.take j)).length) := hnC
    have HC : Hid (wr.heap[w1.heap.size + 1]? = some (.cells #[.int .i64 4, .int .i64 1, .int .i64 wd, .int .i64 hi, v, u] 26 (0, 0))) := hcl
    have HV : Hid (OwnI wr (w1.heap.size + 2) v nC (palList (L.take j))) := hv
    have HU : Hid (OwnI wr (w1.heap.size + 2) u j (palPix (L.take j))) := hu
    have HF : Hid (∀ k, v.ownBlock = some k → u.ownBlock ≠ some k) := hfar
    have hnb : nC ≤ 400 := by
      have h1 := palList_len (L.take j)
      have h2 : (L.take j).length ≤ j := List.length_take_le _ _
      omega
    have hPlt : w1.heap.size + 1 < wr.heap.size := lt_of_block hcl
    have HXr : Hid (Bx wr w1.heap.size (.int .i64 2) (.int .i64 24) (.int .i64 wd) (.int .i64 hi) (.slice x 0 cx) (.slice y n cy)) := by
      obtain ⟨_, q0, q1, q2, q3, q4, q5⟩ := HX0.out.1
      exact ⟨by omega, (hbel.cell (p := ⟨w1.heap.size, 0, none⟩) (by show w1.heap.size < _; omega)).trans q0, (hbel.cell (p := ⟨w1.heap.size, 1, none⟩) (by show w1.heap.size < _; omega)).trans q1, (hbel.cell (p := ⟨w1.heap.size, 2, none⟩) (by show w1.heap.size < _; omega)).trans q2, (hbel.cell (p := ⟨w1.heap.size, 3, none⟩) (by show w1.heap.size < _; omega)).trans q3, (hbel.cell (p := ⟨w1.heap.size, 4, none⟩) (by show w1.heap.size < _; omega)).trans q4, (hbel.cell (p := ⟨w1.heap.size, 5, none⟩) (by show w1.heap.size < _; omega)).trans q5⟩
    have HYr : Hid (Ints wr y L) := HY.out.kept (HX0.out.2.2.trans (hbel.mono (by omega)))
    have HBr : Hid (Below (w1.heap.size + 1) WX wr) := hbel
    clear hcl hv hu hfar hnC hbel
    obtain ⟨_, x0, x1, x2, x3, x4, x5⟩ := HXr.out
    obtain ⟨⟨p0, p1, p2, p3, p4, p5⟩, f0, f1, f2, f3, f4, f5⟩ := box6 HC.out
    by_cases hlt : j < n
    · have hjl : j < L.length := by have := HL.out; omega
      obtain ⟨b, off, rfl, hblt, hcel⟩ : ∃ b off, y = some ⟨b, off, none⟩ ∧ b < w1.heap.size ∧ ∀ i (h : i < L.length), w1.cell? ⟨b, off + i, none⟩ = some (.int .i64 L[i]) := by
        rcases HY.out with e | h
        · rw [e] at hjl; simp at hjl
        · exact h
      have hck : wr.cell? ⟨b, off + j, none⟩ = some (.int .i64 L[j]) := ((HX0.out.2.2.trans (HBr.out.mono (by omega))).cell (p := ⟨b, off + j, none⟩) hblt).trans (hcel j hjl)
      have hTK : L.take (j + 1) = L.take j ++ [L[j]] := List.take_succ_eq_append_getElem hjl
      generalize L[j] = z at hck hTK
      clear hcel HYr
      obtain ⟨ao, cv, rfl, hOv⟩ := HV.out.owns
      by_cases hin : z ∈ palList (L.take j)
      · obtain ⟨K, hK⟩ : ∃ K, K = palAt (palList (L.take j)) z := ⟨_, rfl⟩
        have HLT : Hid (palList (L.take (j + 1)) = palList (L.take j)) := by show _ = _; rw [hTK, palList_snoc, palAdd_in hin]
        have HPT : Hid (palPix (L.take (j + 1)) = palPix (L.take j) ++ [(K : Int)]) := by show _ = _; rw [hTK, palPix_snoc, palList_snoc, palAdd_in hin, hK]
        have HN9 : Hid (nC = (palList (L.take (j + 1))).length) := by show _ = _; rw [HLT.out]; exact HNC.out
        have HFQ : Hid (∀ q, Calls Try.prog 25 #[.slice ao nC cv, .int .i64 z] (wr.drewN q) fun e w' => e = .returned (.int .i64 (K : Int)) ∧ w' = wr.drewN q) := fun q => by
          have := HFI.out ao nC cv _ z (wr.drewN q) (hOv.ints.kept ⟨rfl, rfl, rfl, Nat.le_refl _, fun _ _ => rfl⟩) HNC.out.symm (by omega)
          rw [palFind_in hin, ← hK] at this; exact this
        have hKn : K < nC := by rw [hK, HNC.out]; exact palAt_lt hin
        have hnn : decide ((K : Int) < 0) = false := by simp
        clear hK hin hTK hOv HZX HPW
        go_wp2_with fail
        go_quiet ((go_at_call 25; exact Calls.quiet_of_same (HFQ.out _)))
        obtain ⟨w5, hw5⟩ : ∃ w5, w5 = wr.drewN nq := ⟨_, rfl⟩
        have HCw5 : Hid (w5.heap[w1.heap.size + 1]? = some (.cells #[.int .i64 4, .int .i64 1, .int .i64 wd, .int .i64 hi, (.slice ao nC cv), u] 26 (0, 0))) := by show _ = _; rw [hw5]; exact HC.out
        have HVw5 : Hid (OwnI w5 (w1.heap.size + 2) (.slice ao nC cv) nC (palList (L.take j))) := by show OwnI _ _ _ _ _; rw [hw5]; exact HV.out
        have HUw5 : Hid (OwnI w5 (w1.heap.size + 2) u j (palPix (L.take j))) := by show OwnI _ _ _ _ _; rw [hw5]; exact HU.out
        have HFw5 := HF
        have HBw5 : Hid (Below (w1.heap.size + 1) WX w5) := by show Below _ _ _; rw [hw5]; exact below_drewN HBr.out _
        rw [← hw5]
        clear hw5 HC HV HU HF HBr HXr x0 x1 x2 x3 x4 x5 p0 p1 p2 p3 p4 p5 f0 f1 f2 f3 f4 f5 hck HFQ
        have hszw5 : w1.heap.size + 2 ≤ (w5).heap.size := lt_of_block HCw5.out
        have hownw5 := HUw5.out
        have hPlw5 : w1.heap.size + 1 < (w5).heap.size := lt_of_block HCw5.out
        obtain ⟨⟨q0, q1, q2, q3, q4, q5⟩, r0, r1, r2, r3, r4, r5⟩ := box6 HCw5.out
        obtain ⟨PX, hPX⟩ : ∃ PX, PX = palPix (L.take j) := ⟨_, rfl⟩
        rw [← hPX] at hownw5
        have HPX : Hid (PX = palPix (L.take j)) := hPX
        clear hPX
        go_wp2_with (at_builtin; refine wpList_app1 (w5) (by rfl) _ _ (by rfl) (w1.heap.size + 2) u j PX (K : Int) (by rfl) hownw5 (by first | rfl | (rw [World.size_setCell]; rfl)) (by omega) hszw5 ?_)
        intro g2 cap2 w8 hown8 hgr8
        have HC8 : Hid (w8.heap[w1.heap.size + 1]? = some (.cells #[.int .i64 4, .int .i64 1, .int .i64 wd, .int .i64 hi, (.slice ao nC cv), u] 26 (0, 0))) := (hgr8.block _ hPlw5 (fun e => by have := (hgr8.own _ e.symm).1; omega)).trans HCw5.out
        obtain ⟨hV8, hF8⟩ := OwnI.grew (n := j + 1) HVw5.out hgr8 (fun k hk e => HFw5.out k e hk)
        have HB8 : Hid (Below (w1.heap.size + 1) WX w8) := hgr8.below HBw5.out (by omega) (by omega)
        obtain ⟨⟨s0, s1, s2, s3, s4, s5⟩, t0, t1, t2, t3, t4, t5⟩ := box6 HC8.out
        have HC9 : Hid ((w8.setCell ⟨w1.heap.size + 1, 5, none⟩ (.slice (some ⟨g2, 0, none⟩) (j + 1) cap2)).heap[w1.heap.size + 1]? = some (.cells #[.int .i64 4, .int .i64 1, .int .i64 wd, .int .i64 hi, (.slice ao nC cv), (.slice (some ⟨g2, 0, none⟩) (j + 1) cap2)] 26 (0, 0))) := setCell_row HC8.out 5 _
        have HV9 : Hid (OwnI (w8.setCell ⟨w1.heap.size + 1, 5, none⟩ (.slice (some ⟨g2, 0, none⟩) (j + 1) cap2)) (w1.heap.size + 2) (.slice ao nC cv) nC (palList (L.take j))) := hV8.set (by omega)
        have HU9 : Hid (OwnI (w8.setCell ⟨w1.heap.size + 1, 5, none⟩ (.slice (some ⟨g2, 0, none⟩) (j + 1) cap2)) (w1.heap.size + 2) (.slice (some ⟨g2, 0, none⟩) (j + 1) cap2) (j + 1) (PX ++ [(K : Int)])) := OwnI.set hown8 (by omega)
        have HF9 : Hid (∀ k, ((.slice ao nC cv) : Value).ownBlock = some k → (Value.slice (some ⟨g2, 0, none⟩) (j + 1) cap2).ownBlock ≠ some k) := fun k hk e => hF8 k cap2 e hk
        have HB9 : Hid (Below (w1.heap.size + 1) WX (w8.setCell ⟨w1.heap.size + 1, 5, none⟩ (.slice (some ⟨g2, 0, none⟩) (j + 1) cap2))) := HB8.out.setCell (Nat.le_refl _) _
        clear hgr8 hown8 hV8 hF8 hownw5
        go_wp2_with fail
        go_roundw
        case rel => exact ⟨j + 1, _, _, _, by omega, by go_num, HN9.out, HC9.out, by rw [HLT.out]; exact HV9.out, by rw [HPT.out, ← HPX.out]; exact HU9.out, HF9.out, HB9.out⟩
        case measure => simp [intOf]; omega
      · have HLT : Hid (palList (L.take (j + 1)) = palList (L.take j) ++ [z]) := by show _ = _; rw [hTK, palList_snoc, palAdd_new hin]
        have HPT : Hid (palPix (L.take (j + 1)) = palPix (L.take j) ++ [(nC : Int)]) := by show _ = _; rw [hTK, palPix_snoc, palList_snoc, palAdd_new hin, palAt_new hin, HNC.out]
        have HN9 : Hid (nC + 1 = (palList (L.take (j + 1))).length) := by show _ = _; rw [HLT.out, List.length_append, ← HNC.out]; rfl
        have HFQ : Hid (∀ q, Calls Try.prog 25 #[.slice ao nC cv, .int .i64 z] (wr.drewN q) fun e w' => e = .returned (.int .i64 (-1)) ∧ w' = wr.drewN q) := fun q => by
          have := HFI.out ao nC cv _ z (wr.drewN q) (hOv.ints.kept ⟨rfl, rfl, rfl, Nat.le_refl _, fun _ _ => rfl⟩) HNC.out.symm (by omega)
          rw [palFind_new hin] at this; exact this
        clear hin hTK hOv HZX HPW
        go_wp2_with fail
        go_quiet ((go_at_call 25; exact Calls.quiet_of_same (HFQ.out _)))
        obtain ⟨w4, hw4⟩ : ∃ w4, w4 = wr.drewN nq := ⟨_, rfl⟩
        have HCw4 : Hid (w4.heap[w1.heap.size + 1]? = some (.cells #[.int .i64 4, .int .i64 1, .int .i64 wd, .int .i64 hi, (.slice ao nC cv), u] 26 (0, 0))) := by show _ = _; rw [hw4]; exact HC.out
        have HVw4 : Hid (OwnI w4 (w1.heap.size + 2) (.slice ao nC cv) nC (palList (L.take j))) := by show OwnI _ _ _ _ _; rw [hw4]; exact HV.out
        have HUw4 : Hid (OwnI w4 (w1.heap.size + 2) u j (palPix (L.take j))) := by show OwnI _ _ _ _ _; rw [hw4]; exact HU.out
        have HFw4 := HF
        have HBw4 : Hid (Below (w1.heap.size + 1) WX w4) := by show Below _ _ _; rw [hw4]; exact below_drewN HBr.out _
        have hckw : w4.cell? ⟨b, off + j, none⟩ = some (.int .i64 z) := by rw [hw4]; exact hck
        have hx5w : w4.cell? ⟨w1.heap.size, 5, none⟩ = some (.slice (some ⟨b, off, none⟩) n cy) := by rw [hw4]; exact x5
        rw [← hw4]
        clear hw4 HC HV HU HF HBr HXr x0 x1 x2 x3 x4 x5 p0 p1 p2 p3 p4 p5 f0 f1 f2 f3 f4 f5 hck HFQ hPlt
        have hPlw : w1.heap.size + 1 < w4.heap.size := lt_of_block HCw4.out
        obtain ⟨⟨q0, q1, q2, q3, q4, q5⟩, r0, r1, r2, r3, r4, r5⟩ := box6 HCw4.out
        obtain ⟨PL, hPL⟩ : ∃ PL, PL = palList (L.take j) := ⟨_, rfl⟩
        have HPL : Hid (PL = palList (L.take j)) := hPL
        have hown4 : OwnI w4 (w1.heap.size + 2) (.slice ao nC cv) nC PL := by rw [hPL]; exact HVw4.out
        clear hPL
        go_wp2_with fail
        refine wp_region_held_drew (S := fun w' => w'.cell? ⟨w1.heap.size, 5, none⟩ = some (.slice (some ⟨b, off, none⟩) n cy) ∧ w'.cell? ⟨b, off + j, none⟩ = some (.int .i64 z)) (by kernel_rfl) ⟨hx5w, hckw⟩ (fun hHeld => ?_)
        refine wpAnyH_take (i := 0) (v := .pointer (some ⟨w1.heap.size + 1, 4, none⟩)) rfl (by kernel_rfl) (by kernel_rfl) (by kernel_rfl) (fun _ _ _ h => h) (Or.inl ⟨by rfl, ?_⟩) hHeld ?_
        · intro w' hSw
          obtain ⟨u2, u5⟩ := hSw
          go_simp
        try simp only [Act.put, List.setIfInBounds_toArray, List.set_cons_zero, List.set_cons_succ]
        refine wpAnyH_take (i := 2) (v := .pointer (some ⟨w1.heap.size, 5, none⟩)) rfl (by kernel_rfl) (by kernel_rfl) (by kernel_rfl) (fun _ _ _ h => h) (Or.inl ⟨by rfl, ?_⟩) hHeld ?_
        · intro w' hSw
          obtain ⟨u2, u5⟩ := hSw
          go_simp
        try simp only [Act.put, List.setIfInBounds_toArray, List.set_cons_zero, List.set_cons_succ]
        refine wpAnyH_take (i := 3) (v := .slice (some ⟨b, off, none⟩) n cy) rfl (by kernel_rfl) (by kernel_rfl) (by kernel_rfl) (fun _ _ _ h => h) (Or.inl ⟨by rfl, ?_⟩) hHeld ?_
        · intro w' hSw
          obtain ⟨u2, u5⟩ := hSw
          go_simp
        try simp only [Act.put, List.setIfInBounds_toArray, List.set_cons_zero, List.set_cons_succ]
        refine wpAnyH_take (i := 4) (v := .int .i64 (j : Int)) rfl (by kernel_rfl) (by kernel_rfl) (by kernel_rfl) (fun _ _ _ h => h) (Or.inl ⟨by rfl, ?_⟩) hHeld ?_
        · intro w' hSw
          obtain ⟨u2, u5⟩ := hSw
          go_simp
        try simp only [Act.put, List.setIfInBounds_toArray, List.set_cons_zero, List.set_cons_succ]
        refine wpAnyH_take (i := 5) (v := .pointer (some ⟨b, off + j, none⟩)) rfl (by kernel_rfl) (by kernel_rfl) (by kernel_rfl) (fun _ _ _ h => h) (Or.inl ⟨by rfl, ?_⟩) hHeld ?_
        · intro w' hSw
          obtain ⟨u2, u5⟩ := hSw
          go_simp
        try simp only [Act.put, List.setIfInBounds_toArray, List.set_cons_zero, List.set_cons_succ]
        refine wpAnyH_take (i := 6) (v := .int .i64 z) rfl (by kernel_rfl) (by kernel_rfl) (by kernel_rfl) (fun _ _ _ h => h) (Or.inl ⟨by rfl, ?_⟩) hHeld ?_
        · intro w' hSw
          obtain ⟨u2, u5⟩ := hSw
          go_simp
        try simp only [Act.put, List.setIfInBounds_toArray, List.set_cons_zero, List.set_cons_succ]
        have HALS : Hid ((w4.drew.alloc (.cells #[.int .i64 z] 3)).cell? ⟨w1.heap.size, 5, none⟩ = some (.slice (some ⟨b, off, none⟩) n cy) ∧ (w4.drew.alloc (.cells #[.int .i64 z] 3)).cell? ⟨b, off + j, none⟩ = some (.int .i64 z)) := ⟨(World.cell?_alloc_some w4.drew _ _ (by rw [show w4.drew.cell? _ = _ from hx5w]; rfl)).trans hx5w, (World.cell?_alloc_some w4.drew _ _ (by rw [show w4.drew.cell? _ = _ from hckw]; rfl)).trans hckw⟩
        refine wpAnyH_ready (rs := [1, 7]) (by kernel_rfl) (by simp) ?_
        refine AllReadyH.cons rfl (fun K hK => ?_) (AllReadyH.cons rfl (fun K hK => ?_) AllReadyH.nil)
        · go_simp
          refine hK.out _ _ hHeld (fun hHeld => ?_)
          clear hK K
          try simp only [List.getElem_toArray, List.getElem_cons_succ, List.getElem_cons_zero, Act.put, List.setIfInBounds_toArray, List.set_cons_zero, List.set_cons_succ]
          refine wpAnyH_ready (rs := [7]) (by kernel_rfl) (by simp) ?_
          refine AllReadyH.cons rfl (fun K hK => ?_) AllReadyH.nil
          go_simp
          refine hK.out _ _ HALS.out (fun hHeld => ?_)
          clear hK K
          try simp only [List.getElem_toArray, List.getElem_cons_succ, List.getElem_cons_zero, Act.put, List.setIfInBounds_toArray, List.set_cons_zero, List.set_cons_succ]
          refine wpAnyH_ready (rs := [8]) (by kernel_rfl) (by simp) ?_
          refine AllReadyH.cons rfl (fun K hK => ?_) AllReadyH.nil
          refine step_app1 w4.drew (by rfl) _ _ (by rfl) (w1.heap.size + 2) (.slice ao nC cv) nC PL z (by rfl) hown4 (by rfl) (by omega) (by show _ ≤ w4.heap.size; omega) ?_
          intro g1 cap1 w6 hown6 hgr6
          try simp only [List.getElem_toArray, List.getElem_cons_succ, List.getElem_cons_zero, Act.put, List.setIfInBounds_toArray, List.set_cons_zero, List.set_cons_succ]
          have HC6 : Hid (w6.heap[w1.heap.size + 1]? = some (.cells #[.int .i64 4, .int .i64 1, .int .i64 wd, .int .i64 hi, (.slice ao nC cv), u] 26 (0, 0))) := (hgr6.block _ (show _ < w4.heap.size from hPlw) (fun e => by have := (hgr6.own _ e.symm).1; omega)).trans HCw4.out
          obtain ⟨hU6, hF6⟩ := OwnI.grew (n := nC + 1) (show OwnI w4.drew _ _ _ _ from HUw4.out) hgr6 HFw4.out
          have HB6 : Hid (Below (w1.heap.size + 1) WX w6) := hgr6.below (show Below _ _ w4.drew from HBw4.out.drew) (by omega) (by show _ ≤ w4.heap.size; omega)
          obtain ⟨⟨s0, s1, s2, s3, s4, s5⟩, t0, t1, t2, t3, t4, t5⟩ := box6 HC6.out
          have HCw7 : Hid ((w6.setCell ⟨w1.heap.size + 1, 4, none⟩ (.slice (some ⟨g1, 0, none⟩) (nC + 1) cap1)).heap[w1.heap.size + 1]? = some (.cells #[.int .i64 4, .int .i64 1, .int .i64 wd, .int .i64 hi, (.slice (some ⟨g1, 0, none⟩) (nC + 1) cap1), u] 26 (0, 0))) := setCell_row HC6.out 4 _
          have HVw7 : Hid (OwnI (w6.setCell ⟨w1.heap.size + 1, 4, none⟩ (.slice (some ⟨g1, 0, none⟩) (nC + 1) cap1)) (w1.heap.size + 2) (.slice (some ⟨g1, 0, none⟩) (nC + 1) cap1) (nC + 1) (PL ++ [z])) := OwnI.set hown6 (by omega)
          have HUw7 : Hid (OwnI (w6.setCell ⟨w1.heap.size + 1, 4, none⟩ (.slice (some ⟨g1, 0, none⟩) (nC + 1) cap1)) (w1.heap.size + 2) u j (palPix (L.take j))) := hU6.set (by omega)
          have HFw7 : Hid (∀ k, (Value.slice (some ⟨g1, 0, none⟩) (nC + 1) cap1).ownBlock = some k → u.ownBlock ≠ some k) := fun k e => hF6 k cap1 e
          have HBw7 : Hid (Below (w1.heap.size + 1) WX (w6.setCell ⟨w1.heap.size + 1, 4, none⟩ (.slice (some ⟨g1, 0, none⟩) (nC + 1) cap1))) := HB6.out.setCell (Nat.le_refl _) _
          have hn6 : ∀ p o (y : Value), p ≤ w1.heap.size → w4.cell? ⟨p, o, none⟩ = some y → w6.cell? ⟨p, o, none⟩ = some y := fun p o y hp hy => (World.cell?_of_block (w := w4) (a := ⟨p, o, none⟩) (hgr6.block p (show p < w4.heap.size by omega) (fun e => by have := (hgr6.own _ e.symm).1; omega))).trans hy
          have HS6 : Hid (w6.cell? ⟨w1.heap.size, 5, none⟩ = some (.slice (some ⟨b, off, none⟩) n cy) ∧ w6.cell? ⟨b, off + j, none⟩ = some (.int .i64 z)) := ⟨hn6 _ _ _ (Nat.le_refl _) hx5w, hn6 _ _ _ (by omega) hckw⟩
          refine hK.out _ _ HS6.out (fun hHeld => ?_)
          clear hK K
          refine wpAnyH_take (i := 9) (v := .pointer (some ⟨w1.heap.size + 1, 4, none⟩)) rfl (by kernel_rfl) (by kernel_rfl) (by kernel_rfl) (fun _ _ _ h => h) (Or.inl ⟨by rfl, ?_⟩) hHeld ?_
          · intro w' hSw
            obtain ⟨u2, u5⟩ := hSw
            go_simp
          try simp only [List.getElem_toArray, List.getElem_cons_succ, List.getElem_cons_zero, Act.put, List.setIfInBounds_toArray, List.set_cons_zero, List.set_cons_succ]
          refine wpAnyH_ready (rs := [10]) (by kernel_rfl) (by simp) ?_
          refine AllReadyH.cons rfl (fun K hK => ?_) AllReadyH.nil
          go_simp
          have ne5 : ∀ p o, p ≤ w1.heap.size → (⟨w1.heap.size + 1, 4, none⟩ : Addr) ≠ ⟨p, o, none⟩ := fun p o hp e => by have := congrArg Addr.block e; simp at this; omega
          refine hK.out _ _ ⟨(World.cell?_setCell_other _ _ _ _ (ne5 _ _ (Nat.le_refl _))).trans HS6.out.1, (World.cell?_setCell_other _ _ _ _ (ne5 _ _ (by omega))).trans HS6.out.2⟩ (fun hHeld => ?_)
          clear hK K
          refine wpAnyH_done (by kernel_rfl) ?_ _
          try simp only [List.getElem_toArray, List.getElem_cons_succ, List.getElem_cons_zero, Act.put, List.setIfInBounds_toArray, List.set_cons_zero, List.set_cons_succ]
          clear hHeld hn6 ne5 HS6
          rw [← HPL.out] at HLT
          clear hgr6 hown6 hU6 hF6 hown4 q0 q1 q2 q3 q4 q5 r0 r1 r2 r3 r4 r5
          have hszw7 : w1.heap.size + 2 ≤ (w6.setCell ⟨w1.heap.size + 1, 4, none⟩ (.slice (some ⟨g1, 0, none⟩) (nC + 1) cap1)).heap.size := lt_of_block HCw7.out
          have hownw7 := HUw7.out
          have hPlw7 : w1.heap.size + 1 < (w6.setCell ⟨w1.heap.size + 1, 4, none⟩ (.slice (some ⟨g1, 0, none⟩) (nC + 1) cap1)).heap.size := lt_of_block HCw7.out
          obtain ⟨PX, hPX⟩ : ∃ PX, PX = palPix (L.take j) := ⟨_, rfl⟩
          rw [← hPX] at hownw7
          have HPX : Hid (PX = palPix (L.take j)) := hPX
          clear hPX
          go_wp2_with (at_builtin; refine wpList_app1 (w6.setCell ⟨w1.heap.size + 1, 4, none⟩ (.slice (some ⟨g1, 0, none⟩) (nC + 1) cap1)) (by rfl) _ _ (by rfl) (w1.heap.size + 2) u j PX (nC : Int) (by rfl) hownw7 (by first | rfl | (rw [World.size_setCell]; rfl)) (by omega) hszw7 ?_)
          intro g2 cap2 w8 hown8 hgr8
          have HC8 : Hid (w8.heap[w1.heap.size + 1]? = some (.cells #[.int .i64 4, .int .i64 1, .int .i64 wd, .int .i64 hi, (.slice (some ⟨g1, 0, none⟩) (nC + 1) cap1), u] 26 (0, 0))) := (hgr8.block _ hPlw7 (fun e => by have := (hgr8.own _ e.symm).1; omega)).trans HCw7.out
          obtain ⟨hV8, hF8⟩ := OwnI.grew (n := j + 1) HVw7.out hgr8 (fun k hk e => HFw7.out k e hk)
          have HB8 : Hid (Below (w1.heap.size + 1) WX w8) := hgr8.below HBw7.out (by omega) (by omega)
          obtain ⟨⟨s0, s1, s2, s3, s4, s5⟩, t0, t1, t2, t3, t4, t5⟩ := box6 HC8.out
          have HC9 : Hid ((w8.setCell ⟨w1.heap.size + 1, 5, none⟩ (.slice (some ⟨g2, 0, none⟩) (j + 1) cap2)).heap[w1.heap.size + 1]? = some (.cells #[.int .i64 4, .int .i64 1, .int .i64 wd, .int .i64 hi, (.slice (some ⟨g1, 0, none⟩) (nC + 1) cap1), (.slice (some ⟨g2, 0, none⟩) (j + 1) cap2)] 26 (0, 0))) := setCell_row HC8.out 5 _
          have HV9 : Hid (OwnI (w8.setCell ⟨w1.heap.size + 1, 5, none⟩ (.slice (some ⟨g2, 0, none⟩) (j + 1) cap2)) (w1.heap.size + 2) (.slice (some ⟨g1, 0, none⟩) (nC + 1) cap1) (nC + 1) (PL ++ [z])) := hV8.set (by omega)
          have HU9 : Hid (OwnI (w8.setCell ⟨w1.heap.size + 1, 5, none⟩ (.slice (some ⟨g2, 0, none⟩) (j + 1) cap2)) (w1.heap.size + 2) (.slice (some ⟨g2, 0, none⟩) (j + 1) cap2) (j + 1) (PX ++ [(nC : Int)])) := OwnI.set hown8 (by omega)
          have HF9 : Hid (∀ k, ((.slice (some ⟨g1, 0, none⟩) (nC + 1) cap1) : Value).ownBlock = some k → (Value.slice (some ⟨g2, 0, none⟩) (j + 1) cap2).ownBlock ≠ some k) := fun k hk e => hF8 k cap2 e hk
          have HB9 : Hid (Below (w1.heap.size + 1) WX (w8.setCell ⟨w1.heap.size + 1, 5, none⟩ (.slice (some ⟨g2, 0, none⟩) (j + 1) cap2))) := HB8.out.setCell (Nat.le_refl _) _
          clear hgr8 hown8 hV8 hF8 hownw7
          go_wp2_with fail
          go_roundw
          case rel => exact ⟨j + 1, _, _, _, by omega, by go_num, HN9.out, HC9.out, by rw [HLT.out]; exact HV9.out, by rw [HPT.out, ← HPX.out]; exact HU9.out, HF9.out, HB9.out⟩
          case measure => simp [intOf]; omega
        · go_simp
          refine hK.out _ _ HALS.out (fun hHeld => ?_)
          clear hK K
          try simp only [List.getElem_toArray, List.getElem_cons_succ, List.getElem_cons_zero, Act.put, List.setIfInBounds_toArray, List.set_cons_zero, List.set_cons_succ]
          refine wpAnyH_ready (rs := [1]) (by kernel_rfl) (by simp) ?_
          refine AllReadyH.cons rfl (fun K hK => ?_) AllReadyH.nil
          go_simp
          refine hK.out _ _ hHeld (fun hHeld => ?_)
          clear hK K
          try simp only [List.getElem_toArray, List.getElem_cons_succ, List.getElem_cons_zero, Act.put, List.setIfInBounds_toArray, List.set_cons_zero, List.set_cons_succ]
          refine wpAnyH_ready (rs := [8]) (by kernel_rfl) (by simp) ?_
          refine AllReadyH.cons rfl (fun K hK => ?_) AllReadyH.nil
          refine step_app1 w4.drew (by rfl) _ _ (by rfl) (w1.heap.size + 2) (.slice ao nC cv) nC PL z (by rfl) hown4 (by rfl) (by omega) (by show _ ≤ w4.heap.size; omega) ?_
          intro g1 cap1 w6 hown6 hgr6
          try simp only [List.getElem_toArray, List.getElem_cons_succ, List.getElem_cons_zero, Act.put, List.setIfInBounds_toArray, List.set_cons_zero, List.set_cons_succ]
          have HC6 : Hid (w6.heap[w1.heap.size + 1]? = some (.cells #[.int .i64 4, .int .i64 1, .int .i64 wd, .int .i64 hi, (.slice ao nC cv), u] 26 (0, 0))) := (hgr6.block _ (show _ < w4.heap.size from hPlw) (fun e => by have := (hgr6.own _ e.symm).1; omega)).trans HCw4.out
          obtain ⟨hU6, hF6⟩ := OwnI.grew (n := nC + 1) (show OwnI w4.drew _ _ _ _ from HUw4.out) hgr6 HFw4.out
          have HB6 : Hid (Below (w1.heap.size + 1) WX w6) := hgr6.below (show Below _ _ w4.drew from HBw4.out.drew) (by omega) (by show _ ≤ w4.heap.size; omega)
          obtain ⟨⟨s0, s1, s2, s3, s4, s5⟩, t0, t1, t2, t3, t4, t5⟩ := box6 HC6.out
          have HCw7 : Hid ((w6.setCell ⟨w1.heap.size + 1, 4, none⟩ (.slice (some ⟨g1, 0, none⟩) (nC + 1) cap1)).heap[w1.heap.size + 1]? = some (.cells #[.int .i64 4, .int .i64 1, .int .i64 wd, .int .i64 hi, (.slice (some ⟨g1, 0, none⟩) (nC + 1) cap1), u] 26 (0, 0))) := setCell_row HC6.out 4 _
          have HVw7 : Hid (OwnI (w6.setCell ⟨w1.heap.size + 1, 4, none⟩ (.slice (some ⟨g1, 0, none⟩) (nC + 1) cap1)) (w1.heap.size + 2) (.slice (some ⟨g1, 0, none⟩) (nC + 1) cap1) (nC + 1) (PL ++ [z])) := OwnI.set hown6 (by omega)
          have HUw7 : Hid (OwnI (w6.setCell ⟨w1.heap.size + 1, 4, none⟩ (.slice (some ⟨g1, 0, none⟩) (nC + 1) cap1)) (w1.heap.size + 2) u j (palPix (L.take j))) := hU6.set (by omega)
          have HFw7 : Hid (∀ k, (Value.slice (some ⟨g1, 0, none⟩) (nC + 1) cap1).ownBlock = some k → u.ownBlock ≠ some k) := fun k e => hF6 k cap1 e
          have HBw7 : Hid (Below (w1.heap.size + 1) WX (w6.setCell ⟨w1.heap.size + 1, 4, none⟩ (.slice (some ⟨g1, 0, none⟩) (nC + 1) cap1))) := HB6.out.setCell (Nat.le_refl _) _
          have hn6 : ∀ p o (y : Value), p ≤ w1.heap.size → w4.cell? ⟨p, o, none⟩ = some y → w6.cell? ⟨p, o, none⟩ = some y := fun p o y hp hy => (World.cell?_of_block (w := w4) (a := ⟨p, o, none⟩) (hgr6.block p (show p < w4.heap.size by omega) (fun e => by have := (hgr6.own _ e.symm).1; omega))).trans hy
          have HS6 : Hid (w6.cell? ⟨w1.heap.size, 5, none⟩ = some (.slice (some ⟨b, off, none⟩) n cy) ∧ w6.cell? ⟨b, off + j, none⟩ = some (.int .i64 z)) := ⟨hn6 _ _ _ (Nat.le_refl _) hx5w, hn6 _ _ _ (by omega) hckw⟩
          refine hK.out _ _ HS6.out (fun hHeld => ?_)
          clear hK K
          refine wpAnyH_take (i := 9) (v := .pointer (some ⟨w1.heap.size + 1, 4, none⟩)) rfl (by kernel_rfl) (by kernel_rfl) (by kernel_rfl) (fun _ _ _ h => h) (Or.inl ⟨by rfl, ?_⟩) hHeld ?_
          · intro w' hSw
            obtain ⟨u2, u5⟩ := hSw
            go_simp
          try simp only [List.getElem_toArray, List.getElem_cons_succ, List.getElem_cons_zero, Act.put, List.setIfInBounds_toArray, List.set_cons_zero, List.set_cons_succ]
          refine wpAnyH_ready (rs := [10]) (by kernel_rfl) (by simp) ?_
          refine AllReadyH.cons rfl (fun K hK => ?_) AllReadyH.nil
          go_simp
          have ne5 : ∀ p o, p ≤ w1.heap.size → (⟨w1.heap.size + 1, 4, none⟩ : Addr) ≠ ⟨p, o, none⟩ := fun p o hp e => by have := congrArg Addr.block e; simp at this; omega
          refine hK.out _ _ ⟨(World.cell?_setCell_other _ _ _ _ (ne5 _ _ (Nat.le_refl _))).trans HS6.out.1, (World.cell?_setCell_other _ _ _ _ (ne5 _ _ (by omega))).trans HS6.out.2⟩ (fun hHeld => ?_)
          clear hK K
          refine wpAnyH_done (by kernel_rfl) ?_ _
          try simp only [List.getElem_toArray, List.getElem_cons_succ, List.getElem_cons_zero, Act.put, List.setIfInBounds_toArray, List.set_cons_zero, List.set_cons_succ]
          clear hHeld hn6 ne5 HS6
          rw [← HPL.out] at HLT
          clear hgr6 hown6 hU6 hF6 hown4 q0 q1 q2 q3 q4 q5 r0 r1 r2 r3 r4 r5
          have hszw7 : w1.heap.size + 2 ≤ (w6.setCell ⟨w1.heap.size + 1, 4, none⟩ (.slice (some ⟨g1, 0, none⟩) (nC + 1) cap1)).heap.size := lt_of_block HCw7.out
          have hownw7 := HUw7.out
          have hPlw7 : w1.heap.size + 1 < (w6.setCell ⟨w1.heap.size + 1, 4, none⟩ (.slice (some ⟨g1, 0, none⟩) (nC + 1) cap1)).heap.size := lt_of_block HCw7.out
          obtain ⟨PX, hPX⟩ : ∃ PX, PX = palPix (L.take j) := ⟨_, rfl⟩
          rw [← hPX] at hownw7
          have HPX : Hid (PX = palPix (L.take j)) := hPX
          clear hPX
          go_wp2_with (at_builtin; refine wpList_app1 (w6.setCell ⟨w1.heap.size + 1, 4, none⟩ (.slice (some ⟨g1, 0, none⟩) (nC + 1) cap1)) (by rfl) _ _ (by rfl) (w1.heap.size + 2) u j PX (nC : Int) (by rfl) hownw7 (by first | rfl | (rw [World.size_setCell]; rfl)) (by omega) hszw7 ?_)
          intro g2 cap2 w8 hown8 hgr8
          have HC8 : Hid (w8.heap[w1.heap.size + 1]? = some (.cells #[.int .i64 4, .int .i64 1, .int .i64 wd, .int .i64 hi, (.slice (some ⟨g1, 0, none⟩) (nC + 1) cap1), u] 26 (0, 0))) := (hgr8.block _ hPlw7 (fun e => by have := (hgr8.own _ e.symm).1; omega)).trans HCw7.out
          obtain ⟨hV8, hF8⟩ := OwnI.grew (n := j + 1) HVw7.out hgr8 (fun k hk e => HFw7.out k e hk)
          have HB8 : Hid (Below (w1.heap.size + 1) WX w8) := hgr8.below HBw7.out (by omega) (by omega)
          obtain ⟨⟨s0, s1, s2, s3, s4, s5⟩, t0, t1, t2, t3, t4, t5⟩ := box6 HC8.out
          have HC9 : Hid ((w8.setCell ⟨w1.heap.size + 1, 5, none⟩ (.slice (some ⟨g2, 0, none⟩) (j + 1) cap2)).heap[w1.heap.size + 1]? = some (.cells #[.int .i64 4, .int .i64 1, .int .i64 wd, .int .i64 hi, (.slice (some ⟨g1, 0, none⟩) (nC + 1) cap1), (.slice (some ⟨g2, 0, none⟩) (j + 1) cap2)] 26 (0, 0))) := setCell_row HC8.out 5 _
          have HV9 : Hid (OwnI (w8.setCell ⟨w1.heap.size + 1, 5, none⟩ (.slice (some ⟨g2, 0, none⟩) (j + 1) cap2)) (w1.heap.size + 2) (.slice (some ⟨g1, 0, none⟩) (nC + 1) cap1) (nC + 1) (PL ++ [z])) := hV8.set (by omega)
          have HU9 : Hid (OwnI (w8.setCell ⟨w1.heap.size + 1, 5, none⟩ (.slice (some ⟨g2, 0, none⟩) (j + 1) cap2)) (w1.heap.size + 2) (.slice (some ⟨g2, 0, none⟩) (j + 1) cap2) (j + 1) (PX ++ [(nC : Int)])) := OwnI.set hown8 (by omega)
          have HF9 : Hid (∀ k, ((.slice (some ⟨g1, 0, none⟩) (nC + 1) cap1) : Value).ownBlock = some k → (Value.slice (some ⟨g2, 0, none⟩) (j + 1) cap2).ownBlock ≠ some k) := fun k hk e => hF8 k cap2 e hk
          have HB9 : Hid (Below (w1.heap.size + 1) WX (w8.setCell ⟨w1.heap.size + 1, 5, none⟩ (.slice (some ⟨g2, 0, none⟩) (j + 1) cap2))) := HB8.out.setCell (Nat.le_refl _) _
          clear hgr8 hown8 hV8 hF8 hownw7
          go_wp2_with fail
          go_roundw
          case rel => exact ⟨j + 1, _, _, _, by omega, by go_num, HN9.out, HC9.out, by rw [HLT.out]; exact HV9.out, by rw [HPT.out, ← HPX.out]; exact HU9.out, HF9.out, HB9.out⟩
          case measure => simp [intOf]; omega
    · obtain rfl : j = n := by omega
      have HTA : Hid (L.take j = L) := by show _ = _; rw [List.take_of_length_le (by have := HL.out; omega)]
      rw [HTA.out] at HNC HV HU
      clear HTA HXr x0 x1 x2 x3 x4 p0 p1 p2 p3 p4 p5 f0 f1 f2 f3 f4 f5 HYr HFI
      obtain ⟨ao, cv, rfl, hOv⟩ := HV.out.owns
      go_wp2_with fail
      clear x5 hOv hPlt
      generalize wr = wo at *
      go_loopw [59] (fun _ w2 => ∃ D : Nat, (D = 1 ∨ D = 2 ∨ D = 4 ∨ D = 8 ∨ D = 16) ∧ D ≤ palDepth nC ∧ w2.heap[w1.heap.size + 1]? = some (.cells #[.int .i64 4, .int .i64 (D : Int), .int .i64 wd, .int .i64 hi, (.slice ao nC cv), u] 26 (0, 0)) ∧ OwnI w2 (w1.heap.size + 2) (.slice ao nC cv) nC (palList L) ∧ OwnI w2 (w1.heap.size + 2) u j (palPix L) ∧ Below (w1.heap.size + 1) WX w2) (fun _ w2 => 16 - cellN w2 ⟨w1.heap.size + 1, 1, none⟩)
      case atStart => exact ⟨1, .inl rfl, palDepth_pos nC, HC.out, HV.out, HU.out, HBr.out⟩
      case round =>
        obtain ⟨D, hD, hDl, hcl, hv, hu, hbel⟩ := hrel
        have HD : Hid ((D = 1 ∨ D = 2 ∨ D = 4 ∨ D = 8 ∨ D = 16) ∧ D ≤ palDepth nC) := ⟨hD, hDl⟩
        have HC2 : Hid (wr.heap[w1.heap.size + 1]? = some (.cells #[.int .i64 4, .int .i64 (D : Int), .int .i64 wd, .int .i64 hi, (.slice ao nC cv), u] 26 (0, 0))) := hcl
        have HV2 : Hid (OwnI wr (w1.heap.size + 2) (.slice ao nC cv) nC (palList L)) := hv
        have HU2 : Hid (OwnI wr (w1.heap.size + 2) u j (palPix L)) := hu
        have HB2 : Hid (Below (w1.heap.size + 1) WX wr) := hbel
        have hDb : 1 ≤ D ∧ D ≤ 16 := by omega
        obtain ⟨T, hT⟩ : ∃ T, T = 2 ^ D := ⟨_, rfl⟩
        have HT : Hid (T = 2 ^ D) := hT
        have hTb : T ≤ 65536 := by rw [hT]; have := Nat.pow_le_pow_right (n := 2) (by omega) hDb.2; omega
        have HPQ : Hid (∀ q, Calls Try.prog 26 #[.int .i64 (D : Int)] (wr.drewN q) fun e w' => e = .returned (.int .i64 (T : Int)) ∧ w' = wr.drewN q) := fun q => by
          have := HPW.out D (wr.drewN q) (by omega)
          rw [← hT] at this; exact this
        clear hD hDl hcl hv hu hbel hT
        obtain ⟨⟨p0, p1, p2, p3, p4, p5⟩, f0, f1, f2, f3, f4, f5⟩ := box6 HC2.out
        by_cases hlt2 : T < nC
        · have HMO : Hid (D * 2 ≤ palDepth nC ∧ D ≤ 8 ∧ (D * 2 = 1 ∨ D * 2 = 2 ∨ D * 2 = 4 ∨ D * 2 = 8 ∨ D * 2 = 16)) := palDepth_more HD.out.1 hnb (by rw [← HT.out]; exact hlt2)
          have hD8 : D ≤ 8 := HMO.out.2.1
          have HX1 : Hid (∀ q, ((wr.drewN q).setCell ⟨w1.heap.size + 1, 1, none⟩ (.int .i64 ((D * 2 : Nat) : Int))).heap[w1.heap.size + 1]? = some (.cells #[.int .i64 4, .int .i64 ((D * 2 : Nat) : Int), .int .i64 wd, .int .i64 hi, (.slice ao nC cv), u] 26 (0, 0))) := fun q => setCell_row (show (wr.drewN q).heap[w1.heap.size + 1]? = _ from HC2.out) 1 _
          have HX2 : Hid (∀ q, cellN ((wr.drewN q).setCell ⟨w1.heap.size + 1, 1, none⟩ (.int .i64 ((D * 2 : Nat) : Int))) ⟨w1.heap.size + 1, 1, none⟩ = D * 2 ∧ cellN wr ⟨w1.heap.size + 1, 1, none⟩ = D) := fun q => ⟨cellN_of (box6 (HX1.out q)).1.2.1, cellN_of (box6 HC2.out).1.2.1⟩
          go_wp2_with fail
          go_quiet ((go_at_call 26; exact Calls.quiet_of_same (HPQ.out _)))
          go_wp2_with fail
          go_roundw
          case rel => exact ⟨D * 2, HMO.out.2.2, HMO.out.1, by have := HX1.out nq; simpa using this, OwnI.set (show OwnI (wr.drewN nq) _ _ _ _ from HV2.out) (by omega), OwnI.set (show OwnI (wr.drewN nq) _ _ _ _ from HU2.out) (by omega), (below_drewN HB2.out _).setCell (Nat.le_refl _) _⟩
          case measure =>
            have h1 := (HX2.out nq).1
            have h2 := (HX2.out nq).2
            rw [h2]
            have e2 : ((D * 2 : Nat) : Int) = (D : Int) * 2 := by omega
            rw [e2] at h1
            rw [h1]
            omega
        · have HDE : Hid (D = palDepth nC) := palDepth_end HD.out.1 HD.out.2 (by rw [← HT.out]; exact hlt2)
          have hzr : wr.heap[w.heap.size + 1]? = some (.cells #[.int .i64 0, .int .i64 0, .int .i64 0, .int .i64 0, .slice none 0 0, .slice none 0 0] 26 (0, 0)) := (HB2.out.block _ (by omega)).trans HZX.out
          have belr : Below w.heap.size w wr := HBX.out.trans (HB2.out.mono (by have := HBX.out.size; omega))
          obtain ⟨au, cu, rfl, hOu⟩ := HU2.out.owns
          obtain ⟨av, cv', hev, hOv⟩ := HV2.out.owns
          cases hev
          have HIV : Hid (Owns wr (w1.heap.size + 2) ao (palList L) ∧ Owns wr (w1.heap.size + 2) au (palPix L)) := ⟨hOv, hOu⟩
          have HPW0 : Hid (w.heap.size + 1 < w1.heap.size) := hlt1
          clear hOu hOv HV2 HU2 HC HV HU HBr
          by_cases h256 : nC ≤ 256
          · have hD8 : D ≤ 8 := by rw [HDE.out]; exact palDepth_small h256
            go_wp2_with fail
            go_quiet ((go_at_call 26; exact Calls.quiet_of_same (HPQ.out _)))
            obtain ⟨w5, hw5⟩ : ∃ w5, w5 = wr.drewN nq := ⟨_, rfl⟩
            have hz5 : w5.heap[w.heap.size + 1]? = some (.cells #[.int .i64 0, .int .i64 0, .int .i64 0, .int .i64 0, .slice none 0 0, .slice none 0 0] 26 (0, 0)) := by rw [hw5]; exact hzr
            have HC5 : Hid (w5.heap[w1.heap.size + 1]? = some (.cells #[.int .i64 4, .int .i64 (D : Int), .int .i64 wd, .int .i64 hi, (.slice ao nC cv), (.slice au j cu)] 26 (0, 0))) := by show _ = _; rw [hw5]; exact HC2.out
            have HI5 : Hid (Owns w5 (w1.heap.size + 2) ao (palList L) ∧ Owns w5 (w1.heap.size + 2) au (palPix L)) := by show _ ∧ _; rw [hw5]; exact HIV.out
            have bel5 : Below w.heap.size w w5 := by rw [hw5]; exact below_drewN belr _
            rw [← hw5]
            clear hw5 hzr HC2 HIV belr p0 p1 p2 p3 p4 p5 f0 f1 f2 f3 f4 f5 HPQ HB2
            obtain ⟨⟨p0, p1, p2, p3, p4, p5⟩, f0, f1, f2, f3, f4, f5⟩ := box6 HC5.out
            have hI6 : (Try.prog.info? 26).map (·.size) = some (#[Value.int .i64 4, .int .i64 (D : Int), .int .i64 wd, .int .i64 hi, (.slice ao nC cv), (.slice au j cu)]).size := by kernel_rfl
            have h16 : (#[Value.int .i64 4, .int .i64 (D : Int), .int .i64 wd, .int .i64 hi, (.slice ao nC cv), (.slice au j cu)]).all (·.oneCell') = true := by simp [Value.oneCell']
            have hs2 := setRow_heap w5 (w.heap.size + 1) _ #[.int .i64 4, .int .i64 (D : Int), .int .i64 wd, .int .i64 hi, (.slice ao nC cv), (.slice au j cu)] _ _ hz5
            obtain ⟨⟨z0, z1, z2, z3, z4, z5⟩, _⟩ := box6 hs2
            have HI6 : Hid (Owns (w5.setRow (w.heap.size + 1) #[.int .i64 4, .int .i64 (D : Int), .int .i64 wd, .int .i64 hi, (.slice ao nC cv), (.slice au j cu)]) w.heap.size ao (palList L) ∧ Owns (w5.setRow (w.heap.size + 1) #[.int .i64 4, .int .i64 (D : Int), .int .i64 wd, .int .i64 hi, (.slice ao nC cv), (.slice au j cu)]) w.heap.size au (palPix L)) := ⟨(HI5.out.1.row (by omega) _).lower (by omega), (HI5.out.2.row (by omega) _).lower (by omega)⟩
            go_wp2_with (refine wpList_store_row rfl 26 (.tmp 2) (.tmp 73) rfl (w.heap.size + 1) #[.int .i64 4, .int .i64 (D : Int), .int .i64 wd, .int .i64 hi, (.slice ao nC cv), (.slice au j cu)] rfl rfl 26 #[.int .i64 0, .int .i64 0, .int .i64 0, .int .i64 0, .slice none 0 0, .slice none 0 0] hz5 hI6 rfl h16 ?_)
            refine bodyPost_ret (v := .tuple #[.agg #[.int .i64 4, .int .i64 (D : Int), .int .i64 wd, .int .i64 hi, (.slice ao nC cv), (.slice au j cu)], .bool true]) (by simp [results, Try.results7, go_sem, z0, z1, z2, z3, z4, z5]) rfl ⟨.inl ⟨by rw [← HNC.out]; exact h256, ao, cv, au, cu, by rw [HDE.out, HNC.out], HI6.out⟩, ?_⟩
            exact bel5.trans ((below_setRow _ _ _).mono (by omega))
          · have hD8 : ¬ D ≤ 8 := by rw [HDE.out]; exact palDepth_big h256
            go_wp2_with fail
            go_quiet ((go_at_call 26; exact Calls.quiet_of_same (HPQ.out _)))
            obtain ⟨w5, hw5⟩ : ∃ w5, w5 = wr.drewN nq := ⟨_, rfl⟩
            have hz5 : w5.heap[w.heap.size + 1]? = some (.cells #[.int .i64 0, .int .i64 0, .int .i64 0, .int .i64 0, .slice none 0 0, .slice none 0 0] 26 (0, 0)) := by rw [hw5]; exact hzr
            have HC5 : Hid (w5.heap[w1.heap.size + 1]? = some (.cells #[.int .i64 4, .int .i64 (D : Int), .int .i64 wd, .int .i64 hi, (.slice ao nC cv), (.slice au j cu)] 26 (0, 0))) := by show _ = _; rw [hw5]; exact HC2.out
            have bel5 : Below w.heap.size w w5 := by rw [hw5]; exact below_drewN belr _
            rw [← hw5]
            clear hw5 hzr HC2 HIV belr p0 p1 p2 p3 p4 p5 f0 f1 f2 f3 f4 f5 HPQ HB2
            obtain ⟨⟨p0, p1, p2, p3, p4, p5⟩, f0, f1, f2, f3, f4, f5⟩ := box6 HC5.out
            have hI6 : (Try.prog.info? 26).map (·.size) = some (#[Value.int .i64 0, .int .i64 0, .int .i64 0, .int .i64 0, .slice none 0 0, .slice none 0 0]).size := by kernel_rfl
            have h16 : (#[Value.int .i64 0, .int .i64 0, .int .i64 0, .int .i64 0, .slice none 0 0, .slice none 0 0]).all (·.oneCell') = true := by simp [Value.oneCell']
            have hs2 := setRow_heap w5 (w.heap.size + 1) _ #[.int .i64 0, .int .i64 0, .int .i64 0, .int .i64 0, .slice none 0 0, .slice none 0 0] _ _ hz5
            obtain ⟨⟨z0, z1, z2, z3, z4, z5⟩, _⟩ := box6 hs2
            go_wp2_with (refine wpList_store_row rfl 26 (.tmp 2) (.tmp 72) rfl (w.heap.size + 1) #[.int .i64 0, .int .i64 0, .int .i64 0, .int .i64 0, .slice none 0 0, .slice none 0 0] rfl rfl 26 #[.int .i64 0, .int .i64 0, .int .i64 0, .int .i64 0, .slice none 0 0, .slice none 0 0] hz5 hI6 rfl h16 ?_)
            refine bodyPost_ret (v := .tuple #[.agg #[.int .i64 0, .int .i64 0, .int .i64 0, .int .i64 0, .slice none 0 0, .slice none 0 0], .bool false]) (by simp [results, Try.results7, go_sem, z0, z1, z2, z3, z4, z5]) rfl ⟨.inr ⟨by rw [← HNC.out]; omega, rfl⟩, ?_⟩
            exact bel5.trans ((below_setRow _ _ _).mono (by omega))
theorem spec_pal_yes (k d wd hi : Int) (ca : Option Addr) (cn cc : Nat) (pa : Option Addr) (pn pc : Nat) (n : Nat) (L : List Int) (w : World) (hL : L.length = n) (hn : n ≤ 400)
    (hO : ∀ w', Below w.heap.size w w' → Calls Try.prog 24 #[.agg #[.int .i64 k, .int .i64 d, .int .i64 wd, .int .i64 hi, .slice ca cn cc, .slice pa pn pc]] w' fun e w'' => (∃ x cx y cy, e = .returned (.tuple #[.agg #[.int .i64 2, .int .i64 24, .int .i64 wd, .int .i64 hi, .slice x 0 cx, .slice y n cy], .bool true]) ∧ Ints w'' y L) ∧ Below w'.heap.size w' w'') :
    Calls Try.prog 7 #[.agg #[.int .i64 k, .int .i64 d, .int .i64 wd, .int .i64 hi, .slice ca cn cc, .slice pa pn pc]] w fun e w' =>
      (((palList L).length ≤ 256 ∧ ∃ x cx y cy, e = .returned (.tuple #[.agg #[.int .i64 4, .int .i64 (palDepth (palList L).length : Int), .int .i64 wd, .int .i64 hi, .slice x (palList L).length cx, .slice y n cy], .bool true]) ∧ Ints w' x (palList L) ∧ Ints w' y (palPix L)) ∨
       (256 < (palList L).length ∧ e = .returned (.tuple #[.agg #[.int .i64 0, .int .i64 0, .int .i64 0, .int .i64 0, .slice none 0 0, .slice none 0 0], .bool false]))) ∧ Below w.heap.size w w' := by
  refine (spec_pal_own k d wd hi ca cn cc pa pn pc n L w hL hn hO).mono ?_
  rintro e w' ⟨h | h, b⟩
  · obtain ⟨h1, x, cx, y, cy, h2, h3, h4⟩ := h
    exact ⟨.inl ⟨h1, x, cx, y, cy, h2, h3.ints, h4.ints⟩, b⟩
  · exact ⟨.inr h, b⟩
end Go.Proofs.Ytjiogneidioknaa

/- The points of what is seen, as colours that are not too great: for keys of a map. -/
namespace Go.Proofs.Ytjiogneidioknaa
open Go.RowKit Go.Shelf

attribute [local go_sem] Oper.semAt_some

/-- a colour -/
abbrev Col := { x : Nat // x ≤ 4294967295 }
def colV (c : Col) : Int := (c.1 : Int)
/-- what has come when k points are told -/
def uptoA {α : Type} (F : Nat → α) (k : Nat) : List α := (List.range k).map F
theorem uptoA_succ {α : Type} (F : Nat → α) (k : Nat) : uptoA F (k + 1) = uptoA F k ++ [F k] := by simp [uptoA, List.range_succ]
theorem uptoA_length {α : Type} (F : Nat → α) (k : Nat) : (uptoA F k).length = k := by simp [uptoA]
theorem uptoA_take {α : Type} (F : Nat → α) {k n : Nat} (h : k ≤ n) : uptoA F k <+: uptoA F n := by
  obtain ⟨d, rfl⟩ := Nat.exists_eq_add_of_le h
  exact ⟨(List.range d).map (fun j => F (k + j)), by simp [uptoA, List.range_add, Function.comp_def]⟩
/-- the points in their order -/
def ptA {α : Type} (wd : Nat) (f : Nat → Nat → α) (j : Nat) : α := f (j % wd) (j / wd)
theorem ptA_at {α : Type} {wd x y : Nat} (f : Nat → Nat → α) (h : x < wd) : ptA wd f (y * wd + x) = f x y := by
  unfold ptA
  rw [Nat.mul_comm y wd, Nat.mul_add_mod, Nat.mod_eq_of_lt h, Nat.mul_add_div (by omega), Nat.div_eq_of_lt h, Nat.add_zero]
theorem uptoA_col (wd n : Nat) (f : Nat → Nat → Col) : (uptoA (ptA wd f) n).map colV = upto (ptF wd (fun x y => colV (f x y))) n := by
  unfold uptoA upto; rw [List.map_map]; rfl

/-- the iterator's word: the colours xs come, in that order -/
def TellsC (n : Nat) (g : Nat) (lb : Array Value) (n₀ : Nat) (xs : List Col) (w : World) : Prop :=
  SeqStopsK Fence.wide n Try.prog g lb (fun x : Col => #[Value.int .i64 (colV x)]) (Below n₀) (fun ys => ys = xs) (fun pre => pre <+: xs) xs.length w

set_option maxRecDepth 100000 in
set_option maxHeartbeats 2000000 in
theorem points1_col (n : Nat) (hn : 1 ≤ n) (l Bv n₀ : Nat) (T : TypeId) (V : Value) (fs : Nat) (rs : Value) (fa : Nat) (ra : Value) (wd hi : Nat) (f : Nat → Nat → Col) (hwd : wd ≤ 20) (hhi : hi ≤ 20) (w : World) (hBv : Bv < n₀) (S : Seen T V fs rs fa ra wd hi (fun x y => colV (f x y)) n₀ w) (J Jx : List Col → World → Prop)
    (W : World) (hW : Below n₀ w W) (hn₀ : n₀ ≤ W.heap.size) (hJ : AbidesFrom W.heap.size J)
    (hY : ∀ pre x W, J pre W → pre.length < wd * hi → YieldAt Fence.wide (n - 1) Try.prog l #[.int .i64 (colV x)] W fun e W' =>
      (e = .returned (.bool true) ∧ J (pre ++ [x]) W' ∧ Below n₀ W W') ∨ (e = .returned (.bool false) ∧ Jx (pre ++ [x]) W'))
    (hc : W.cell? ⟨Bv, 0, none⟩ = some (.iface T V)) (h0 : J [] W) :
    CallsIn Fence.wide n Try.prog 56 #[.func (.yield l) #[] #[], .pointer (some ⟨Bv, 0, none⟩)] W fun e W' => (∃ v, e = .returned v) ∧
      ((∃ ys, ys = uptoA (ptA wd f) (wd * hi) ∧ J ys W') ∨ (∃ pre, pre <+: uptoA (ptA wd f) (wd * hi) ∧ Jx pre W')) := by
  have hro : Fence.wide.round = none := rfl
  have ms := S.ms
  have ns := S.ns
  have ma := S.ma
  have na := S.na
  refine callsIn_of_wp Try.func56 rfl trivial ?_ hro
  simp only [Try.ntmps56, List.size_toArray, List.length_cons, List.length_nil, Nat.reduceAdd, Nat.reduceSub, Array.replicate_succ, Array.replicate_zero, List.push_toArray, List.append_toArray, List.nil_append, List.cons_append]
  have es := S.es
  have ea := S.ea
  gi_wp2
  refine ⟨trivial, ?_⟩
  gi_wp2
  refine (callsIn_wide.2 (S.size W hW)).mono ?_
  rintro e W1 ⟨rfl, b1⟩
  have h01 : J [] W1 := hJ [] W W1 none h0 (grown_of_below b1) (fun r e => by cases e)
  have hW1 : Below n₀ w W1 := hW.trans (b1.mono hn₀)
  have hs1 : W.heap.size ≤ W1.heap.size := b1.size
  have hc1 : W1.cell? ⟨Bv, 0, none⟩ = some (.iface T V) := (b1.cell (p := ⟨Bv, 0, none⟩) (Nat.lt_of_lt_of_le hBv hn₀)).trans hc
  clear b1 h0 hc
  gi_wp2
  gi_loopw [13] (fun i wr => ∃ k : Nat, k ≤ hi ∧ i = .int .i64 (k : Int) ∧ J (uptoA (ptA wd f) (k * wd)) wr ∧ Below n₀ w wr ∧ W.heap.size ≤ wr.heap.size ∧ wr.cell? ⟨Bv, 0, none⟩ = some (.iface T V))
    (fun i _ => hi - (intOf i).toNat)
  case atStart => exact ⟨0, Nat.zero_le _, rfl, by simpa [uptoA] using h01, hW1, hs1, hc1⟩
  case round =>
    obtain ⟨k, hk, rfl, hJk, hWk, hsk, hck⟩ := hrel
    by_cases hlt : k < hi
    · gi_wp2
      gi_loopw [17] (fun i wr => ∃ x : Nat, x ≤ wd ∧ i = .int .i64 (x : Int) ∧ J (uptoA (ptA wd f) (k * wd + x)) wr ∧ Below n₀ w wr ∧ W.heap.size ≤ wr.heap.size ∧ wr.cell? ⟨Bv, 0, none⟩ = some (.iface T V))
        (fun i _ => wd - (intOf i).toNat)
      case atStart => exact ⟨0, Nat.zero_le _, rfl, hJk, hWk, hsk, hck⟩
      case round =>
        obtain ⟨x, hx, rfl, hJx', hWx, hsx, hcx⟩ := hrel
        by_cases hxl : x < wd
        · have hkm : k * wd + wd ≤ wd * hi := by
            have := Nat.mul_le_mul_right wd (show k + 1 ≤ hi by omega)
            rw [Nat.add_mul, Nat.one_mul, Nat.mul_comm hi wd] at this; exact this
          gi_wp2
          refine ⟨trivial, ?_⟩
          gi_wp2
          refine (callsIn_wide.2 (S.at' wr x k hxl hlt hWx)).mono ?_
          rintro e W2 ⟨rfl, b2⟩
          have hJ2 : J (uptoA (ptA wd f) (k * wd + x)) W2 := hJ _ wr W2 none hJx' (grown_of_below b2) (fun r e => by cases e)
          have hn2 : n₀ ≤ wr.heap.size := Nat.le_trans hn₀ hsx
          have hW2 : Below n₀ w W2 := hWx.trans (b2.mono hn2)
          have hs2 : W.heap.size ≤ W2.heap.size := Nat.le_trans hsx b2.size
          have hc2 : W2.cell? ⟨Bv, 0, none⟩ = some (.iface T V) := (b2.cell (p := ⟨Bv, 0, none⟩) (Nat.lt_of_lt_of_le hBv hn2)).trans hcx
          obtain ⟨fn, tmps, assign, body, hy, hR⟩ := hY _ (f x k) W2 hJ2 (by rw [uptoA_length]; omega)
          clear b2 hcx hsx hWx hJx'
          gi_wp2
          refine hR.mono ?_
          rintro e W3 (⟨rfl, hJ3, hk3⟩ | ⟨rfl, hJx3⟩)
          · gi_wp2
            go_roundw
            case rel => exact ⟨x + 1, by omega, by simp, by rw [← Nat.add_assoc, uptoA_succ, ptA_at f hxl]; exact hJ3, hW2.trans hk3, Nat.le_trans hs2 hk3.size, (hk3.cell (p := ⟨Bv, 0, none⟩) hBv).trans hc2⟩
            case measure => simp [intOf]; omega
          · gi_wp2
            refine bodyPost_ret (results_none rfl _ _ _) rfl ?_
            exact ⟨⟨_, rfl⟩, .inr ⟨_, by rw [← ptA_at f hxl, ← uptoA_succ]; exact uptoA_take _ (by omega), hJx3⟩⟩
        · obtain rfl : x = wd := by omega
          gi_wp2
          exact ⟨⟨k + 1, by omega, by simp, by rw [Nat.add_mul, Nat.one_mul]; exact hJx', hWx, hsx, hcx⟩, by simp [intOf]; omega⟩
    · obtain rfl : k = hi := by omega
      gi_wp2
      go_end0
      exact ⟨⟨_, rfl⟩, .inl ⟨_, by rw [Nat.mul_comm], hJk⟩⟩

/-- the iterator over a view tells its points -/
theorem points_col (n : Nat) (hn : 1 ≤ n) (T : TypeId) (V : Value) (fs : Nat) (rs : Value) (fa : Nat) (ra : Value) (wd hi : Nat) (f : Nat → Nat → Col) (hwd : wd ≤ 20) (hhi : hi ≤ 20) (w : World) (S : Seen T V fs rs fa ra wd hi (fun x y => colV (f x y)) w.heap.size w) :
    TellsC n 56 #[.pointer (some ⟨w.heap.size, 0, none⟩)] (w.alloc (.cells #[.iface T V] 54)).heap.size (uptoA (ptA wd f) (wd * hi)) (w.alloc (.cells #[.iface T V] 54)) := by
  intro l J Jx W hW hJ _ hY h0
  have hb : Below w.heap.size w (w.alloc (.cells #[.iface T V] 54)) := (Below.refl _ _).alloc (Nat.le_refl _) _
  have hb' : Below (w.alloc (.cells #[.iface T V] 54)).heap.size w (w.alloc (.cells #[.iface T V] 54)) → True := fun _ => trivial
  have S' : Seen T V fs rs fa ra wd hi (fun x y => colV (f x y)) (w.alloc (.cells #[.iface T V] 54)).heap.size (w.alloc (.cells #[.iface T V] 54)) :=
    { S with size := fun w' b => S.size w' (hb.trans (b.mono hb.size)), at' := fun w' x y hx hy b => S.at' w' x y hx hy (hb.trans (b.mono hb.size)) }
  exact points1_col n hn l w.heap.size _ T V fs rs fa ra wd hi f hwd hhi _ (by simp) S' J Jx W hW hW.size hJ (by rw [uptoA_length] at hY; exact hY) ((hW.cell (p := ⟨w.heap.size, 0, none⟩) (by simp)).trans (Boxed.new w 54 (.iface T V)).cell) h0
end Go.Proofs.Ytjiogneidioknaa

/- Colours as they come first, and a map of their places: listed of the program. -/
namespace Go.Proofs.Ytjiogneidioknaa
open Go.RowKit Go.Shelf Go.Maps

attribute [local go_sem] Oper.semAt_some

theorem key_int : Keyed Try.prog 3 := int_keyed Try.underlying3
theorem zero_int (w : World) : (zeroValue 3).run Try.prog w = .ok (.int .i64 0) w := by kernel_rfl
theorem wf_nat {n : Nat} (h : n ≤ 4294967295) : (Lit.int .i64 (n : Int)).wf = true := WalkArith.wf_i64 (by omega)
theorem keyLit (x : Int) : WideAt.IsKeyLit (.int .i64 x) := by simp [WideAt.IsKeyLit]

/-- the map tells the place of each of the list -/
def MapIs (D : DataW Unit) (l : List Int) : Prop :=
  IsMap D ∧ ∀ x : Int, has D (.int .i64 x) = decide (x ∈ l) ∧ (x ∈ l → ∀ z, D.atKey (.int .i64 x) z = .lit (.int .i64 (palAt l x : Int)))
theorem mapIs_nil : MapIs (.map []) [] := ⟨isMap_empty, fun x => ⟨rfl, fun h => by cases h⟩⟩
theorem MapIs.put {D : DataW Unit} {l : List Int} (h : MapIs D l) {x : Int} (hx : x ∉ l) : MapIs (D.put (.int .i64 x) (.lit (.int .i64 (l.length : Int)))) (l ++ [x]) := by
  refine ⟨h.1.put _ _, fun y => ?_⟩
  by_cases e : y = x
  · subst e
    refine ⟨?_, fun _ z => ?_⟩
    · rw [has_put_same h.1 (keyLit _)]; simp
    · rw [atKey_put_same h.1 (keyLit _), palAt_new hx]
  · have hne : (Lit.int .i64 y) ≠ .int .i64 x := fun h => e (by injection h)
    obtain ⟨h1, h2⟩ := h.2 y
    refine ⟨?_, fun hy z => ?_⟩
    · rw [has_put_other hne, h1]; simp [e]
    · have hyl : y ∈ l := by
        rcases List.mem_append.1 hy with h | h
        · exact h
        · exact (e (List.mem_singleton.1 h)).elim
      rw [atKey_put_other hne, h2 hyl z]
      congr 3
      unfold palAt
      rw [List.idxOf_append, if_pos hyl]

/-- what lies there between the rounds -/
def ListI (A : Nat) (w0 : World) (pre : List Col) (W : World) : Prop :=
  (∃ v D, Boxed W A 22 v ∧ OwnI W (A + 3) v (palList (pre.map colV)).length (palList (pre.map colV)) ∧ Boxed W (A + 2) 43 (.map (some (A + 1))) ∧ W.ownsMap Try.prog 3 (plainElem Try.prog 3) (A + 1) (palList (pre.map colV)).length D ∧ MapIs D (palList (pre.map colV))) ∧ Below A w0 W

theorem ListI.own (A : Nat) (w0 : World) (hA : A ≤ w0.heap.size) : OwnFrom (A + 3) (ListI A w0) := by
  rintro pre X Y row ⟨⟨v, D, h1, h2, h3, h4, h5⟩, hb⟩ hg hrow
  have hne : ∀ k, k < A + 3 → some k ≠ row := fun k hk e => by have := (hrow k e.symm).1; omega
  refine ⟨⟨v, D, h1.kept hg (hne _ (by omega)), ?_, h3.kept hg (hne _ (by omega)), h4.kept hg (hne _ (by omega)), h5⟩, hb.grown hg (Nat.le_trans hA hb.size) (fun k e => by have := (hrow k e).1; omega)⟩
  refine World.ownsRow.kept (show World.ownsRow _ _ _ _ _ _ _ from h2) hg ?_
  rcases h2.2 with ⟨rfl, _⟩ | ⟨g, cap, cur, rfl, _, hgb, _⟩
  · exact .inl rfl
  · refine .inr (fun e => ?_)
    obtain ⟨_, o, ho, hoc⟩ := hrow g e.symm
    rw [hgb] at ho; cases ho; cases hoc

set_option maxRecDepth 100000 in
set_option maxHeartbeats 2000000 in
theorem listed_in (g : Nat) (lb : Array Value) (eg : ∀ args w, (callFunc g args).run Try.prog w = .ok (.enter g args) w) (xs : List Col) (hlen : xs.length ≤ 400)
    (w : World) (hseq : TellsC 1 g lb w.heap.size xs w) :
    CallsIn Fence.wide 2 Try.prog 28 #[.func (.func g) #[] lb] w fun e W' => (∃ a c M D, e = .returned (.tuple #[.slice a (palList (xs.map colV)).length c, .map (some M)]) ∧ OwnI W' (w.heap.size + 3) (.slice a (palList (xs.map colV)).length c) (palList (xs.map colV)).length (palList (xs.map colV)) ∧ M < w.heap.size + 3 ∧ W'.ownsMap Try.prog 3 (plainElem Try.prog 3) M (palList (xs.map colV)).length D ∧ MapIs D (palList (xs.map colV))) ∧ Below w.heap.size w W' := by
  have hro : Fence.wide.round = none := rfl
  have hmm := @run_makeMap Try.prog
  refine callsIn_of_wp_marks Try.func28 rfl trivial ?_ hro
  simp only [Try.ntmps28, List.size_toArray, List.length_cons, List.length_nil, Nat.reduceAdd, Nat.reduceSub, Array.replicate_succ, Array.replicate_zero, List.push_toArray, List.append_toArray, List.nil_append, List.cons_append]
  gi_wp2
  obtain ⟨W0, hW0⟩ : ∃ W0, W0 = ((w.alloc (.cells #[.slice none 0 0] 22)).alloc (.map #[] 0)).alloc (.cells #[.map (some (w.heap.size + 1))] 43) := ⟨_, rfl⟩
  have hs0 : W0.heap.size = w.heap.size + 3 := by rw [hW0]; simp
  have hB0 : Below w.heap.size w W0 := by rw [hW0]; exact (((Below.refl _ w).alloc (Nat.le_refl _) _).alloc (by simp) _).alloc (by simp; omega) _
  have hI0 : ListI w.heap.size w [] W0 := by
    refine ⟨⟨.slice none 0 0, .map [], ?_, World.ownsRow_nil _ _ _ _, ?_, ?_, mapIs_nil⟩, hB0⟩
    · rw [hW0]; exact ((Boxed.new w 22 (.slice none 0 0)).alloc _).alloc _
    · rw [hW0]; have := Boxed.new ((w.alloc (.cells #[.slice none 0 0] 22)).alloc (.map #[] 0)) 43 (.map (some (w.heap.size + 1))); simpa using this
    · rw [hW0]; have := World.ownsMap_made (H := Unit) (w.alloc (.cells #[.slice none 0 0] 22)) Try.prog 3 (plainElem Try.prog 3); rw [World.size_alloc] at this; exact this.alloc _
  rw [← hW0]
  clear hW0 hmm
  obtain ⟨i0, hi, hz0, hz1, hz2⟩ := info_parts info_int_c
  refine wpIn_rangeFunc_ownG hro (by omega) (gf := g) (lb := lb) rfl trivial eg hseq belowK_t (belowK_b (by omega)) hB0 (fun _ => rfl)
    (ListI w.heap.size w) (fun _ _ _ => False) (by rw [hs0]; exact ListI.own _ _ (Nat.le_refl _)) (fun _ _ _ _ _ hs _ _ => hs) hI0
    (fun x => { tmps := #[.func (.func g) #[] lb, undef, .slice none 0 0, .map none, .pointer (some ⟨w.heap.size, 0, none⟩), .pointer (some ⟨w.heap.size + 1 + 1, 0, none⟩), .int .i64 (colV x), undef, undef, .map (some (w.heap.size + 1)), .func (.func g) #[] lb, .int .i64 (colV x), undef, undef, undef, undef, undef, undef, undef, undef, undef, undef, undef, undef, undef, undef, undef, undef, undef, undef], defers := [] }) ?assign ?body ?done ?stop
  case assign =>
    intro l x W K hK
    gi_wp2
    exact hK
  case body =>
    rintro l pre x W ⟨⟨v, D, hv, hrow, hmb, hmap, hmi⟩, hB⟩ hlt
    obtain ⟨nC, hnC⟩ : ∃ nC, nC = (palList (pre.map colV)).length := ⟨_, rfl⟩
    rw [← hnC] at hrow hmap
    have hnb : nC ≤ 400 := by
      have h1 := palList_len (pre.map colV)
      rw [List.length_map] at h1
      omega
    have HNC : Hid (nC = (palList (pre.map colV)).length) := hnC
    clear hnC
    obtain ⟨z, hz⟩ : ∃ z, z = colV x := ⟨_, rfl⟩
    have hkey : keyOf Try.prog 3 (.int .i64 z) = some (.int .i64 z) := by rw [hz]; exact keyOf_int_mk Try.underlying3 (wf_nat x.2)
    have HTK : Hid (palList ((pre ++ [x]).map colV) = palAdd (palList (pre.map colV)) z) := by show _ = _; rw [List.map_append, List.map_singleton, palList_snoc, hz]
    rw [← hz]
    clear hz
    have hc := hv.cell
    have hm := hmb.cell
    have hh := (hmi.2 z).1
    by_cases hin : z ∈ palList (pre.map colV)
    · have hh' : has D (.int .i64 z) = true := by rw [hh]; simpa using hin
      have HI : Hid (ListI w.heap.size w (pre ++ [x]) W) := by
        have e : palList ((pre ++ [x]).map colV) = palList (pre.map colV) := by rw [HTK.out, palAdd_in hin]
        refine ⟨⟨v, D, hv, ?_, hmb, ?_, ?_⟩, hB⟩
        · rw [e, ← HNC.out]; exact hrow
        · rw [e, ← HNC.out]; exact hmap
        · rw [e]; exact hmi
      clear hh hin
      gi_wp2_with (gi_at_lookup; refine wpListIn_lookup_own_ok_int _ rfl _ _ 43 rfl 3 3 .i64 key_int Try.underlying43 Try.underlying3 (zero_int _) (w.heap.size + 1) nC D rfl hmap _ _ rfl hkey ?_; intro c' hat hwc)
      exact ⟨KeepsFrom.refl _ _, Below.refl _ _, HI.out⟩
    · have hh' : has D (.int .i64 z) = false := by rw [hh]; simpa using hin
      obtain ⟨ao, cv, rfl, _⟩ := OwnI.owns hrow
      have HIN : Hid (z ∉ palList (pre.map colV)) := hin
      have hBs := hB.size
      have hlA := hmb.lt
      clear hh hin
      gi_wp2_with (first | (gi_at_lookup; refine wpListIn_lookup_own_ok_int _ rfl _ _ 43 rfl 3 3 .i64 key_int Try.underlying43 Try.underlying3 (zero_int _) (w.heap.size + 1) nC D rfl hmap _ _ rfl hkey ?_; intro c' hat hwc) | (gi_at_mapUpdate; refine wpListIn_mapUpdate_own _ rfl _ _ _ 43 rfl 3 3 key_int Try.underlying43 _ (w.heap.size + 1) nC D rfl hmap (by unfold maxLen; omega) _ _ _ rfl rfl hkey _ [] (plainElem_int Try.underlying3 (wf_nat (n := nC) (by omega))) ?_))
      intro w1 hmap1 hg1
      have hv1 : Boxed w1 w.heap.size 22 (.slice ao nC cv) := hv.kept hg1 (fun e => by have := Option.some.inj e; omega)
      have hmb1 : Boxed w1 (w.heap.size + 2) 43 (.map (some (w.heap.size + 1))) := hmb.kept hg1 (fun e => by have := Option.some.inj e; omega)
      have hc1 := hv1.cell
      have hs1 := hg1.size
      have hrow1 : w1.ownsRow (w.heap.size + 3) 3 1 (.slice ao nC cv) nC (intsV (palList (pre.map colV))) := World.ownsRow.kept (show World.ownsRow _ _ _ _ _ _ _ from hrow) hg1 (by
        rcases ao with _ | a
        · exact .inl rfl
        · refine .inr (fun e => ?_)
          have := (World.ownsRow.lt hrow _ e).1; omega)
      gi_wp2_with (gi_at_builtin; refine wpListIn_append_own _ rfl _ _ 22 rfl (w.heap.size + 3) 3 i0 (.int .i64 0) 1 8 Try.underlying22 hi hz0 hz1 hz2 rfl (by decide) _ _ _ rfl (hrow1.alloc _) ⟨w1.heap.size, 0, none⟩ 1 1 [.int .i64 z] rfl rfl (cell_one_new _ _ _) (by simp [Value.oneCell']) (by unfold maxLen; omega) (by omega) (by simp; omega) ?_)
      intro v' w2 hown2 hgrow _
      obtain ⟨g', cap', rfl⟩ := ownsRow_succ hown2
      have hro : ∀ k, (Value.slice ao nC cv).ownBlock = some k → w.heap.size + 3 ≤ k ∧ ∃ cur, w1.heap[k]? = some (.cells cur 3 (0, 0)) := fun k hk => by
        refine ⟨(World.ownsRow.lt hrow1 k hk).1, ?_⟩
        rcases hrow1.2 with ⟨e, _⟩ | ⟨g, cap, cur, e, _, hgb, _⟩
        · rw [e] at hk; cases hk
        · rw [e] at hk; simp [Value.ownBlock] at hk; subst hk; exact ⟨cur, hgb⟩
      have hkp : ∀ k, k < w.heap.size + 3 → some k ≠ (Value.slice ao nC cv).ownBlock := fun k hk e => by have := (hro k e.symm).1; omega
      have hv2 : Boxed w2 w.heap.size 22 (.slice ao nC cv) := (hv1.alloc _).kept hgrow (hkp _ (by omega))
      have hc2 := hv2.cell
      have hf2 := hv2.frozen
      have hs2 := hgrow.size
      rw [World.size_alloc] at hs2
      have HK : Hid (KeepsFrom W0.heap.size W (w2.setCell ⟨w.heap.size, 0, none⟩ (.slice (some ⟨g', 0, none⟩) (nC + 1) cap')) ∧ Below w.heap.size W (w2.setCell ⟨w.heap.size, 0, none⟩ (.slice (some ⟨g', 0, none⟩) (nC + 1) cap'))) := by
        refine ⟨((KeepsFrom.of_grownBy hg1 (fun j e => by cases e; omega)).trans (((KeepsOthers.alloc _ _).from _).trans ((KeepsOthers.of_grownBy hgrow (fun j o e ho => ?_)).from _))).trans ((KeepsOthers.setCell _ _ _).from _), ?_⟩
        · obtain ⟨hlo, cur, hcur⟩ := hro j e
          have : (w1.alloc (.cells #[.int .i64 z] 3)).heap[j]? = some (.cells cur 3 (0, 0)) := (Below.heap_alloc _ _ _ (lt_of_at hcur)).trans hcur
          rw [this] at ho; cases ho; rfl
        · have b1 : Below w.heap.size W w1 := (Below.refl _ _).grown hg1 (by omega) (fun k e => by cases e; omega)
          have b2 : Below w.heap.size W w2 := (b1.alloc (by omega) _).grown hgrow (by simp; omega) (fun k e => by have := (hro k e).1; omega)
          exact b2.setCell (Nat.le_refl _) _
      have HI : Hid (ListI w.heap.size w (pre ++ [x]) (w2.setCell ⟨w.heap.size, 0, none⟩ (.slice (some ⟨g', 0, none⟩) (nC + 1) cap'))) := by
        have e : palList ((pre ++ [x]).map colV) = palList (pre.map colV) ++ [z] := by rw [HTK.out, palAdd_new HIN.out]
        have el : (palList (pre.map colV) ++ [z]).length = nC + 1 := by rw [List.length_append, ← HNC.out]; rfl
        refine ⟨⟨.slice (some ⟨g', 0, none⟩) (nC + 1) cap', D.put (.int .i64 z) (.lit (.int .i64 (nC : Int))), hv2.set _, ?_, ?_, ?_, ?_⟩, hB.trans HK.out.2⟩
        · rw [e, el]
          exact ownsRow_setCell_below (show World.ownsRow _ _ _ _ _ _ _ from OwnI.more hown2) (a := ⟨w.heap.size, 0, none⟩) (show w.heap.size < w.heap.size + 3 by omega) _
        · exact ((hmb1.alloc _).kept hgrow (hkp _ (by omega))).other (by omega) _
        · rw [e, el]
          exact ((hmap1.alloc _).kept hgrow (hkp _ (by omega))).setCell (by show w.heap.size + 1 ≠ w.heap.size; omega) _
        · rw [e, HNC.out]; exact hmi.put HIN.out
      clear hgrow hown2 hrow1 hg1 hmap1 hmap hmi
      gi_wp2
      exact ⟨HK.out.1, HK.out.2, HI.out⟩
  case done =>
    rintro DD ys W hD hys ⟨⟨v, D, hv, hrow, hmb, hmap, hmi⟩, hB⟩ hK
    subst hys
    obtain ⟨a, c, rfl, _⟩ := OwnI.owns hrow
    have hc := hv.cell
    have hm := hmb.cell
    have hDW : DD < W.heap.size := lt_of_at hK
    have HR : Hid (OwnI W (w.heap.size + 3) (.slice a (palList (ys.map colV)).length c) (palList (ys.map colV)).length (palList (ys.map colV))) := hrow
    have HM : Hid (W.ownsMap Try.prog 3 (plainElem Try.prog 3) (w.heap.size + 1) (palList (ys.map colV)).length D) := hmap
    have HKD : Hid (W.heap[DD]? = some (.deferred (some []))) := hK
    generalize hnn : (palList (ys.map colV)).length = nC at *
    clear hrow hmap hK
    gi_wp2
    gi_quiet (fail)
    gi_wp2
    have hkd : (W.drewN nq).heap[DD]? = some (.deferred (some [])) := HKD.out
    refine ⟨by simp, .inl ⟨_, _, rfl, run_takeDeferred hkd, ?_⟩⟩
    refine ⟨.tuple #[.slice a nC c, .map (some (w.heap.size + 1))], by simp [results, Try.results28, go_sem], ⟨a, c, w.heap.size + 1, D, by rw [hnn], ?_, by omega, ?_, hmi⟩, ?_⟩
    · rw [hnn]
      exact ownsRow_putObj (show World.ownsRow (W.drewN nq) _ _ _ _ _ _ from HR.out) _ hkd rfl
    · rw [hnn]
      exact World.ownsMap.kept (show World.ownsMap (W.drewN nq) _ _ _ _ _ _ from HM.out) (grownBy_putObj' _ DD _) (fun e => by have := Option.some.inj e; omega)
    · exact (below_drewN hB nq).trans (belowK_b (w := w) (Nat.le_refl _) _ DD _ _ (by omega) hkd rfl rfl)
  case stop =>
    rintro D c pre W _ _ h _
    exact h.elim
end Go.Proofs.Ytjiogneidioknaa

/- A picture as it is, and as one of places in a list: what is seen of both; the least depth. -/
namespace Go.Proofs.Ytjiogneidioknaa
open Go.RowKit Go.Maps

set_option maxHeartbeats 2000000 in
set_option maxRecDepth 20000 in
theorem changed_place (C : Nat) (k d wd hi x y v c : Int) (ca : Option Addr) (cn cc : Nat) (pa : Option Addr) (pn pc : Nat) (w : World)
    (hat : ∀ w', Below w.heap.size w w' → Calls Try.prog 84 #[.agg #[.int .i64 k, .int .i64 d, .int .i64 wd, .int .i64 hi, .slice ca cn cc, .slice pa pn pc], .int .i64 x, .int .i64 y] w' fun e w'' => e = .returned (.int .i64 v) ∧ Below w'.heap.size w' w'')
    (hfn : ∀ w', Below w.heap.size w w' → Calls Try.prog 31 #[.int .i64 v, .pointer (some ⟨C, 0, none⟩)] w' fun e w'' => e = .returned (.int .i64 c) ∧ Below w'.heap.size w' w'') :
    Calls Try.prog 86 #[.agg #[.iface 49 (.agg #[.int .i64 k, .int .i64 d, .int .i64 wd, .int .i64 hi, .slice ca cn cc, .slice pa pn pc]), .func (.func 31) #[] #[.pointer (some ⟨C, 0, none⟩)]], .int .i64 x, .int .i64 y] w fun e w' => e = .returned (.int .i64 c) ∧ Below w.heap.size w w' := by
  have HAT : Hid (∀ w', Below w.heap.size w w' → Calls Try.prog 84 #[.agg #[.int .i64 k, .int .i64 d, .int .i64 wd, .int .i64 hi, .slice ca cn cc, .slice pa pn pc], .int .i64 x, .int .i64 y] w' fun e w'' => e = .returned (.int .i64 v) ∧ Below w'.heap.size w' w'') := hat
  have HFN : Hid (∀ w', Below w.heap.size w w' → Calls Try.prog 31 #[.int .i64 v, .pointer (some ⟨C, 0, none⟩)] w' fun e w'' => e = .returned (.int .i64 c) ∧ Below w'.heap.size w' w'') := hfn
  have m1 : ∀ w, (method 198 49 (.agg #[.int .i64 k, .int .i64 d, .int .i64 wd, .int .i64 hi, .slice ca cn cc, .slice pa pn pc]) "loop.example/intarsia/impl.at").run Try.prog w = .ok (84, .agg #[.int .i64 k, .int .i64 d, .int .i64 wd, .int .i64 hi, .slice ca cn cc, .slice pa pn pc]) w := fun w => by kernel_rfl
  have m2 : ∀ w, (nilAhead 198 49 (.agg #[.int .i64 k, .int .i64 d, .int .i64 wd, .int .i64 hi, .slice ca cn cc, .slice pa pn pc]) "loop.example/intarsia/impl.at").run Try.prog w = .ok (some false) w := fun w => by kernel_rfl
  clear hat hfn
  have hB0 : Below w.heap.size w (w.alloc (.cells #[.iface 49 (.agg #[.int .i64 k, .int .i64 d, .int .i64 wd, .int .i64 hi, .slice ca cn cc, .slice pa pn pc]), .func (.func 31) #[] #[.pointer (some ⟨C, 0, none⟩)]] 56)) := (Below.refl _ _).alloc (Nat.le_refl _) _
  go_enter Try.func86, Try.ntmps86
  go_wp2_with fail
  go_region_held3 (fun w' => w'.cell? ⟨w.heap.size, 0, none⟩ = some (.iface 49 (.agg #[.int .i64 k, .int .i64 d, .int .i64 wd, .int .i64 hi, .slice ca cn cc, .slice pa pn pc])) ∧ w'.cell? ⟨w.heap.size, 1, none⟩ = some (.func (.func 31) #[] #[.pointer (some ⟨C, 0, none⟩)])) (go_keep) (first | (go_at_call 84; refine (HAT.out _ hB0.drew).mono ?_; rintro e w2 ⟨rfl, b2⟩; have bw2 : Below w.heap.size w w2 := hB0.trans ((box_drew b2).mono (by simp)); have hlt : w.heap.size < (w.alloc (.cells #[.iface 49 (.agg #[.int .i64 k, .int .i64 d, .int .i64 wd, .int .i64 hi, .slice ca cn cc, .slice pa pn pc]), .func (.func 31) #[] #[.pointer (some ⟨C, 0, none⟩)]] 56)).heap.size := (by simp); have c0 := ((box_drew b2).cell (p := ⟨w.heap.size, 0, none⟩) hlt).trans (show (w.alloc (.cells #[.iface 49 (.agg #[.int .i64 k, .int .i64 d, .int .i64 wd, .int .i64 hi, .slice ca cn cc, .slice pa pn pc]), .func (.func 31) #[] #[.pointer (some ⟨C, 0, none⟩)]] 56)).cell? ⟨w.heap.size, 0, none⟩ = some (.iface 49 (.agg #[.int .i64 k, .int .i64 d, .int .i64 wd, .int .i64 hi, .slice ca cn cc, .slice pa pn pc])) by rw [World.cell?_alloc_at _ _ _ _ rfl]; rfl); have c1 := ((box_drew b2).cell (p := ⟨w.heap.size, 1, none⟩) hlt).trans (show (w.alloc (.cells #[.iface 49 (.agg #[.int .i64 k, .int .i64 d, .int .i64 wd, .int .i64 hi, .slice ca cn cc, .slice pa pn pc]), .func (.func 31) #[] #[.pointer (some ⟨C, 0, none⟩)]] 56)).cell? ⟨w.heap.size, 1, none⟩ = some (.func (.func 31) #[] #[.pointer (some ⟨C, 0, none⟩)]) by rw [World.cell?_alloc_at _ _ _ _ rfl]; rfl); have hlt2 : w.heap.size < w2.heap.size := Nat.lt_of_lt_of_le hlt b2.size) | (go_at_call 31; refine (HFN.out _ bw2).mono ?_; rintro e w3 ⟨rfl, b3⟩; have e0 := (b3.cell (p := ⟨w.heap.size, 0, none⟩) hlt2).trans c0; have e1 := (b3.cell (p := ⟨w.heap.size, 1, none⟩) hlt2).trans c1))
  all_goals
    have bel3 : Below w.heap.size w w3 := bw2.trans (b3.mono bw2.size)
    clear b3 bw2 b2
    go_wp2_with fail
    go_ret
    exact ⟨rfl, bel3⟩


/-- a picture's point -/
def pixF (Wd : Nat) (ps : List Int) : Nat → Nat → Int := fun x y => ps.getD (y * Wd + x) 0
theorem pix_upto (ps : List Int) (Wd Hi : Nat) (hpn : ps.length = Wd * Hi) : upto (ptF Wd (pixF Wd ps)) (Wd * Hi) = ps := by
  apply List.ext_getElem
  · rw [upto_length, hpn]
  · intro i h1 h2
    simp only [upto, List.getElem_map, List.getElem_range, ptF, pixF]
    rw [Nat.mul_comm, Nat.div_add_mod, List.getD_eq_getElem?_getD, List.getElem?_eq_getElem h2]
    rfl

theorem plain_seen (k d : Int) (Wd Hi : Nat) (ca : Option Addr) (cn cc : Nat) (pa : Option Addr) (pn pc : Nat) (ps : List Int) (w : World) (hp : Ints w pa ps) (hpn : ps.length = pn) (hW : Wd ≤ 20) (hH : Hi ≤ 20) (hm : pn = Wd * Hi) :
    Seen 49 (.agg #[.int .i64 k, .int .i64 d, .int .i64 (Wd : Int), .int .i64 (Hi : Int), .slice ca cn cc, .slice pa pn pc]) 85 (.agg #[.int .i64 k, .int .i64 d, .int .i64 (Wd : Int), .int .i64 (Hi : Int), .slice ca cn cc, .slice pa pn pc]) 84 (.agg #[.int .i64 k, .int .i64 d, .int .i64 (Wd : Int), .int .i64 (Hi : Int), .slice ca cn cc, .slice pa pn pc]) Wd Hi (pixF Wd ps) w.heap.size w where
  ms := fun w => by kernel_rfl
  ns := fun w => by kernel_rfl
  ma := fun w => by kernel_rfl
  na := fun w => by kernel_rfl
  es := enters_of Try.func85 (by kernel_rfl) rfl
  ea := enters_of Try.func84 (by kernel_rfl) rfl
  size := fun w' _ => size_any k d (Wd : Int) (Hi : Int) ca cn cc pa pn pc w'
  at' := fun w' x y hx hy b => at_any k d (Wd : Int) (Hi : Int) (x : Int) (y : Int) ca cn cc pa pn pc ps w' _ _ _ _ (spot_in hx hy hW hH hm) (hp.kept b) hpn

set_option maxHeartbeats 1000000 in
theorem place_any (z : Int) (C M n : Nat) (D : DataW Unit) (l : List Int) (w : World) (hz : (Lit.int .i64 z).wf = true) (hc : w.cell? ⟨C, 0, none⟩ = some (.map (some M))) (hm : w.ownsMap Try.prog 3 (plainElem Try.prog 3) M n D) (hD : MapIs D l) (hin : z ∈ l) :
    Calls Try.prog 31 #[.int .i64 z, .pointer (some ⟨C, 0, none⟩)] w fun e w' => e = .returned (.int .i64 (palAt l z : Int)) ∧ w' = w := by
  have hkey : keyOf Try.prog 3 (.int .i64 z) = some (.int .i64 z) := keyOf_int_mk Try.underlying3 hz
  have HAT : Hid (∀ y, D.atKey (.int .i64 z) y = .lit (.int .i64 (palAt l z : Int))) := (hD.2 z).2 hin
  clear hD hin hz
  go_enter Try.func31, Try.ntmps31
  go_wp2_with (at_lookup; refine wpList_lookup_own_int _ rfl _ _ 43 rfl 3 3 .i64 key_int Try.underlying43 Try.underlying3 (zero_int _) M n D rfl hm _ _ rfl hkey ?_; intro c hat hwc)
  go_ret
  refine ⟨ret_int ?_, rfl⟩
  have := hat.symm.trans (HAT.out _)
  injection this with h1
  injection h1

set_option maxHeartbeats 1000000 in
theorem leastDepth_any (n : Nat) (w : World) (hn : n ≤ 1000000) :
    Calls Try.prog 30 #[.int .i64 (n : Int)] w fun e w' => e = .returned (.tuple #[.int .i64 (if n ≤ 256 then (palDepth n : Int) else 0), .bool (decide (n ≤ 256))]) ∧ Below w.heap.size w w' := by
  obtain ⟨rv, hrv⟩ : ∃ rv : Int, rv = if n ≤ 256 then (palDepth n : Int) else 0 := ⟨_, rfl⟩
  obtain ⟨rb, hrb⟩ : ∃ rb : Bool, rb = decide (n ≤ 256) := ⟨_, rfl⟩
  have HR : Hid ((rv = if n ≤ 256 then (palDepth n : Int) else 0) ∧ rb = decide (n ≤ 256)) := ⟨hrv, hrb⟩
  rw [← hrv, ← hrb]
  clear hrv hrb
  have HD : Hid (Calls Try.prog 47 #[.int .i64 4] w fun e w' => (∃ ao c, e = .returned (.slice ao 4 c) ∧ Ints w' ao [1, 2, 4, 8]) ∧ Below w.heap.size w w') := depthsOf_any 4 w
  go_enter Try.func30, Try.ntmps30
  go_wp2_with fail
  refine HD.out.mono ?_
  rintro e w1 ⟨⟨ao, c, rfl, hI⟩, b1⟩
  rcases hI with e | ⟨b, off, rfl, hb, hcel⟩
  · simp at e
  have h0 : w1.cell? ⟨b, off, none⟩ = some (.int .i64 1) := hcel 0 (by simp)
  have h1 : w1.cell? ⟨b, off + 1, none⟩ = some (.int .i64 2) := hcel 1 (by simp)
  have h2 : w1.cell? ⟨b, off + 2, none⟩ = some (.int .i64 4) := hcel 2 (by simp)
  have h3 : w1.cell? ⟨b, off + 3, none⟩ = some (.int .i64 8) := hcel 3 (by simp)
  clear hcel HD
  go_wp2_with fail
  go_loop [8] (fun i => ∃ k : Nat, k ≤ 4 ∧ i = .int .i64 (k : Int) ∧ (0 < k → 2 < n) ∧ (1 < k → 4 < n) ∧ (2 < k → 16 < n) ∧ (3 < k → 256 < n)) (fun i => 4 - (intOf i).toNat)
  case atStart => exact ⟨0, by omega, rfl, by omega, by omega, by omega, by omega⟩
  case round =>
    obtain ⟨k, hk, rfl, k0, k1, k2, k3⟩ := hrel
    have hk5 : k = 0 ∨ k = 1 ∨ k = 2 ∨ k = 3 ∨ k = 4 := by omega
    rcases hk5 with rfl | rfl | rfl | rfl | rfl
    · clear k0 k1 k2 k3
      by_cases hc : n ≤ 2
      · go_wp2_with fail
        go_ret2
        refine ⟨?_, b1⟩
        have e1 : n ≤ 256 := by omega
        have e2 : palDepth n = 1 := by unfold palDepth; (repeat' split) <;> omega
        rw [HR.out.1, HR.out.2, if_pos e1, e2, decide_eq_true e1]
        rfl
      · go_wp2_with fail
        go_round
        case rel => exact ⟨1, by omega, by go_num, by omega, by omega, by omega, by omega⟩
        case measure => simp [intOf]
    · have q0 := k0 (by omega)
      clear k0 k1 k2 k3
      by_cases hc : n ≤ 4
      · go_wp2_with fail
        go_ret2
        refine ⟨?_, b1⟩
        have e1 : n ≤ 256 := by omega
        have e2 : palDepth n = 2 := by unfold palDepth; (repeat' split) <;> omega
        rw [HR.out.1, HR.out.2, if_pos e1, e2, decide_eq_true e1]
        rfl
      · go_wp2_with fail
        go_round
        case rel => exact ⟨2, by omega, by go_num, by omega, by omega, by omega, by omega⟩
        case measure => simp [intOf]
    · have q0 := k0 (by omega)
      have q1 := k1 (by omega)
      clear k0 k1 k2 k3
      by_cases hc : n ≤ 16
      · go_wp2_with fail
        go_ret2
        refine ⟨?_, b1⟩
        have e1 : n ≤ 256 := by omega
        have e2 : palDepth n = 4 := by unfold palDepth; (repeat' split) <;> omega
        rw [HR.out.1, HR.out.2, if_pos e1, e2, decide_eq_true e1]
        rfl
      · go_wp2_with fail
        go_round
        case rel => exact ⟨3, by omega, by go_num, by omega, by omega, by omega, by omega⟩
        case measure => simp [intOf]
    · have q0 := k0 (by omega)
      have q1 := k1 (by omega)
      have q2 := k2 (by omega)
      clear k0 k1 k2 k3
      by_cases hc : n ≤ 256
      · go_wp2_with fail
        go_ret2
        refine ⟨?_, b1⟩
        have e1 : n ≤ 256 := by omega
        have e2 : palDepth n = 8 := by unfold palDepth; (repeat' split) <;> omega
        rw [HR.out.1, HR.out.2, if_pos e1, e2, decide_eq_true e1]
        rfl
      · go_wp2_with fail
        go_round
        case rel => exact ⟨4, by omega, by go_num, by omega, by omega, by omega, by omega⟩
        case measure => simp [intOf]
    · have q3 := k3 (by omega)
      clear k0 k1 k2 k3
      go_wp2_with fail
      go_ret2
      refine ⟨?_, b1⟩
      have e1 : ¬ n ≤ 256 := by omega
      rw [HR.out.1, HR.out.2, if_neg e1, decide_eq_false e1]
      rfl
end Go.Proofs.Ytjiogneidioknaa

/- ImagePal of the program. -/
namespace Go.Proofs.Ytjiogneidioknaa
open Go.RowKit Go.Maps

set_option maxHeartbeats 1000000 in
set_option maxRecDepth 20000 in
theorem impl_pal_no (k d wd hi : Int) (ca : Option Addr) (cn cc : Nat) (pa : Option Addr) (pn pc : Nat) (w : World)
    (hO : ∀ w', Below w.heap.size w w' → Calls Try.prog 18 #[.agg #[.int .i64 k, .int .i64 d, .int .i64 wd, .int .i64 hi, .slice ca cn cc, .slice pa pn pc]] w' fun e w'' => (∃ x cx y cy, e = .returned (.tuple #[.agg #[.int .i64 0, .int .i64 0, .int .i64 0, .int .i64 0, .slice x 0 cx, .slice y 0 cy], .bool false])) ∧ Below w'.heap.size w' w'') :
    Calls Try.prog 9 #[.agg #[.int .i64 k, .int .i64 d, .int .i64 wd, .int .i64 hi, .slice ca cn cc, .slice pa pn pc]] w fun e w' => e = .returned (.tuple #[.agg #[.int .i64 0, .int .i64 0, .int .i64 0, .int .i64 0, .slice none 0 0, .slice none 0 0], .bool false]) ∧ Below w.heap.size w w' := by
  have hB0 : Below w.heap.size w ((w.alloc (.cells #[.int .i64 k, .int .i64 d, .int .i64 wd, .int .i64 hi, .slice ca cn cc, .slice pa pn pc] 26)).alloc (.cells #[.int .i64 0, .int .i64 0, .int .i64 0, .int .i64 0, .slice none 0 0, .slice none 0 0] 26)) := ((Below.refl _ _).alloc (Nat.le_refl _) _).alloc (by simp) _
  have HO : Hid (∀ w', Below w.heap.size w w' → Calls Try.prog 18 #[.agg #[.int .i64 k, .int .i64 d, .int .i64 wd, .int .i64 hi, .slice ca cn cc, .slice pa pn pc]] w' fun e w'' => (∃ x cx y cy, e = .returned (.tuple #[.agg #[.int .i64 0, .int .i64 0, .int .i64 0, .int .i64 0, .slice x 0 cx, .slice y 0 cy], .bool false])) ∧ Below w'.heap.size w' w'') := hO
  clear hO
  have HZ : Hid (((w.alloc (.cells #[.int .i64 k, .int .i64 d, .int .i64 wd, .int .i64 hi, .slice ca cn cc, .slice pa pn pc] 26)).alloc (.cells #[.int .i64 0, .int .i64 0, .int .i64 0, .int .i64 0, .slice none 0 0, .slice none 0 0] 26)).heap[w.heap.size + 1]? = some (.cells #[.int .i64 0, .int .i64 0, .int .i64 0, .int .i64 0, .slice none 0 0, .slice none 0 0] 26 (0, 0))) := heap_alloc2_new _ _ _
  go_enter Try.func9, Try.ntmps9
  go_wp2_with fail
  refine (HO.out _ hB0).mono ?_
  rintro e w1 ⟨⟨x, cx, y, cy, rfl⟩, b1⟩
  have bel1 := hB0.trans (b1.mono hB0.size)
  have b2 : Below w1.heap.size w1 (w1.alloc (.cells #[.int .i64 0, .int .i64 0, .int .i64 0, .int .i64 0, .slice x 0 cx, .slice y 0 cy] 26)) := (Below.refl _ _).alloc (Nat.le_refl _) _
  have hz1 : (w1.alloc (.cells #[.int .i64 0, .int .i64 0, .int .i64 0, .int .i64 0, .slice x 0 cx, .slice y 0 cy] 26)).heap[w.heap.size + 1]? = some (.cells #[.int .i64 0, .int .i64 0, .int .i64 0, .int .i64 0, .slice none 0 0, .slice none 0 0] 26 (0, 0)) := (b2.block _ (Nat.lt_of_lt_of_le (by simp) b1.size)).trans ((b1.block _ (by simp)).trans HZ.out)
  have bel2 := bel1.trans (b2.mono bel1.size)
  clear b1 hB0 HO HZ bel1 b2
  have hI6 : (Try.prog.info? 26).map (·.size) = some (#[Value.int .i64 0, .int .i64 0, .int .i64 0, .int .i64 0, .slice none 0 0, .slice none 0 0]).size := by kernel_rfl
  have h16 : (#[Value.int .i64 0, .int .i64 0, .int .i64 0, .int .i64 0, .slice none 0 0, .slice none 0 0]).all (·.oneCell') = true := by simp [Value.oneCell']
  have hs2 := setRow_heap _ (w.heap.size + 1) _ #[.int .i64 0, .int .i64 0, .int .i64 0, .int .i64 0, .slice none 0 0, .slice none 0 0] _ _ hz1
  obtain ⟨⟨z0, z1, z2, z3, z4, z5⟩, _⟩ := box6 hs2
  go_wp2_with (refine wpList_store_row rfl 26 (.tmp 2) (.tmp 17) rfl (w.heap.size + 1) #[.int .i64 0, .int .i64 0, .int .i64 0, .int .i64 0, .slice none 0 0, .slice none 0 0] rfl rfl 26 #[.int .i64 0, .int .i64 0, .int .i64 0, .int .i64 0, .slice none 0 0, .slice none 0 0] hz1 hI6 rfl h16 ?_)
  refine bodyPost_ret (v := .tuple #[.agg #[.int .i64 0, .int .i64 0, .int .i64 0, .int .i64 0, .slice none 0 0, .slice none 0 0], .bool false]) (by simp [results, Try.results9, go_sem, z0, z1, z2, z3, z4, z5]) rfl ⟨rfl, ?_⟩
  exact bel2.trans ((below_setRow _ _ _).mono (by omega))


/-- a number as a colour -/
def colC (v : Int) : Col := if h : 0 ≤ v ∧ v ≤ 4294967295 then ⟨v.toNat, by omega⟩ else ⟨0, by omega⟩
theorem colC_val {v : Int} (h : 0 ≤ v ∧ v ≤ 4294967295) : colV (colC v) = v := by
  unfold colC colV; rw [dif_pos h]; show ((v.toNat : Nat) : Int) = v; omega
theorem colC_list {l : List Int} (h : ∀ v ∈ l, 0 ≤ v ∧ v ≤ 4294967295) : (l.map colC).map colV = l := by
  rw [List.map_map]
  conv => rhs; rw [← List.map_id l]
  exact List.map_congr_left fun v hv => colC_val (h v hv)
theorem getD_mem {L : List Int} {j : Nat} (h : j < L.length) : L.getD j 0 ∈ L := by
  rw [List.getD_eq_getElem?_getD, List.getElem?_eq_getElem h]; exact List.getElem_mem h
theorem at_lt {Wd Hi x y : Nat} (hx : x < Wd) (hy : y < Hi) : y * Wd + x < Wd * Hi := by
  have h1 : (y + 1) * Wd ≤ Hi * Wd := Nat.mul_le_mul_right _ hy
  rw [Nat.add_mul, Nat.one_mul, Nat.mul_comm Hi Wd] at h1
  omega

theorem place_ms (C n Wd Hi : Nat) (x : Option Addr) (cx : Nat) (y : Option Addr) (cy : Nat) (w : World) : (method 198 56 (.agg #[.iface 49 (.agg #[.int .i64 2, .int .i64 24, .int .i64 (Wd : Int), .int .i64 (Hi : Int), .slice x 0 cx, .slice y n cy]), .func (.func 31) #[] #[.pointer (some ⟨C, 0, none⟩)]]) "loop.example/intarsia/impl.size").run Try.prog w = .ok (85, .agg #[.int .i64 2, .int .i64 24, .int .i64 (Wd : Int), .int .i64 (Hi : Int), .slice x 0 cx, .slice y n cy]) w := by kernel_rfl
theorem place_ns (C n Wd Hi : Nat) (x : Option Addr) (cx : Nat) (y : Option Addr) (cy : Nat) (w : World) : (nilAhead 198 56 (.agg #[.iface 49 (.agg #[.int .i64 2, .int .i64 24, .int .i64 (Wd : Int), .int .i64 (Hi : Int), .slice x 0 cx, .slice y n cy]), .func (.func 31) #[] #[.pointer (some ⟨C, 0, none⟩)]]) "loop.example/intarsia/impl.size").run Try.prog w = .ok (some false) w := by kernel_rfl
theorem place_ma (C n Wd Hi : Nat) (x : Option Addr) (cx : Nat) (y : Option Addr) (cy : Nat) (w : World) : (method 198 56 (.agg #[.iface 49 (.agg #[.int .i64 2, .int .i64 24, .int .i64 (Wd : Int), .int .i64 (Hi : Int), .slice x 0 cx, .slice y n cy]), .func (.func 31) #[] #[.pointer (some ⟨C, 0, none⟩)]]) "loop.example/intarsia/impl.at").run Try.prog w = .ok (86, (.agg #[.iface 49 (.agg #[.int .i64 2, .int .i64 24, .int .i64 (Wd : Int), .int .i64 (Hi : Int), .slice x 0 cx, .slice y n cy]), .func (.func 31) #[] #[.pointer (some ⟨C, 0, none⟩)]])) w := by kernel_rfl
theorem place_na (C n Wd Hi : Nat) (x : Option Addr) (cx : Nat) (y : Option Addr) (cy : Nat) (w : World) : (nilAhead 198 56 (.agg #[.iface 49 (.agg #[.int .i64 2, .int .i64 24, .int .i64 (Wd : Int), .int .i64 (Hi : Int), .slice x 0 cx, .slice y n cy]), .func (.func 31) #[] #[.pointer (some ⟨C, 0, none⟩)]]) "loop.example/intarsia/impl.at").run Try.prog w = .ok (some false) w := by kernel_rfl

theorem place_seen (C M m n Wd Hi : Nat) (x : Option Addr) (cx : Nat) (y : Option Addr) (cy : Nat) (L : List Int) (D : DataW Unit) (w : World) (hL : L.length = n) (hm : n = Wd * Hi) (hW : Wd ≤ 20) (hH : Hi ≤ 20) (hy : Ints w y L) (hb : ∀ v ∈ L, 0 ≤ v ∧ v ≤ 16777215)
    (hC : w.cell? ⟨C, 0, none⟩ = some (.map (some M))) (hC2 : C < w.heap.size) (hM : w.ownsMap Try.prog 3 (plainElem Try.prog 3) M m D) (hD : MapIs D (palList L)) :
    Seen 56 (.agg #[.iface 49 (.agg #[.int .i64 2, .int .i64 24, .int .i64 (Wd : Int), .int .i64 (Hi : Int), .slice x 0 cx, .slice y n cy]), .func (.func 31) #[] #[.pointer (some ⟨C, 0, none⟩)]]) 85 (.agg #[.int .i64 2, .int .i64 24, .int .i64 (Wd : Int), .int .i64 (Hi : Int), .slice x 0 cx, .slice y n cy]) 86 (.agg #[.iface 49 (.agg #[.int .i64 2, .int .i64 24, .int .i64 (Wd : Int), .int .i64 (Hi : Int), .slice x 0 cx, .slice y n cy]), .func (.func 31) #[] #[.pointer (some ⟨C, 0, none⟩)]]) Wd Hi (fun x y => (palAt (palList L) (pixF Wd L x y) : Int)) w.heap.size w where
  ms := place_ms C n Wd Hi x cx y cy
  ns := place_ns C n Wd Hi x cx y cy
  ma := place_ma C n Wd Hi x cx y cy
  na := place_na C n Wd Hi x cx y cy
  es := enters_of Try.func85 (by kernel_rfl) rfl
  ea := enters_of Try.func86 (by kernel_rfl) rfl
  size := fun w' _ => size_any 2 24 (Wd : Int) (Hi : Int) x 0 cx y n cy w'
  at' := fun w' X Y hx hy' b => by
    have hin : pixF Wd L X Y ∈ L := getD_mem (by rw [hL, hm]; exact at_lt hx hy')
    have hbb := hb _ hin
    refine changed_place C 2 24 (Wd : Int) (Hi : Int) (X : Int) (Y : Int) (pixF Wd L X Y) _ x 0 cx y n cy w' (fun w'' b' => at_any 2 24 (Wd : Int) (Hi : Int) (X : Int) (Y : Int) x 0 cx y n cy L w'' _ _ _ _ (spot_in hx hy' hW hH hm) ((hy.kept b).kept b') hL) (fun w'' b' => ?_)
    have bb : Below w.heap.size w w'' := b.trans (b'.mono b.size)
    exact (place_any (pixF Wd L X Y) C M m D (palList L) w'' (WalkArith.wf_i64 (by omega)) ((bb.cell (p := ⟨C, 0, none⟩) hC2).trans hC) (hM.kept (grown_of_below bb) (by simp)) hD ((mem_palList L _).2 hin)).mono (fun e w3 h => ⟨h.1, by rw [h.2]; exact Below.refl _ _⟩)

theorem place_upto (L : List Int) (Wd Hi : Nat) (h : L.length = Wd * Hi) : upto (ptF Wd (fun x y => (palAt (palList L) (pixF Wd L x y) : Int))) (Wd * Hi) = palPix L := by
  have e := pix_upto L Wd Hi h
  unfold palPix
  conv => rhs; rw [← e]
  unfold upto
  rw [List.map_map]
  apply List.map_congr_left
  intro k hk
  simp only [ptF, Function.comp]
  have e2 : palList ((List.range (Wd * Hi)).map (ptF Wd (pixF Wd L))) = palList L := congrArg palList e
  rw [e2]

set_option maxHeartbeats 4000000 in
set_option maxRecDepth 20000 in
theorem impl_pal_yes (k d : Int) (Wd Hi : Nat) (ca : Option Addr) (cn cc : Nat) (pa : Option Addr) (pn pc : Nat) (n : Nat) (L : List Int) (w : World) (hL : L.length = n) (hm : n = Wd * Hi) (hW : Wd ≤ 20) (hH : Hi ≤ 20) (hb : ∀ v ∈ L, 0 ≤ v ∧ v ≤ 16777215)
    (hO : ∀ w', Below w.heap.size w w' → Calls Try.prog 18 #[.agg #[.int .i64 k, .int .i64 d, .int .i64 (Wd : Int), .int .i64 (Hi : Int), .slice ca cn cc, .slice pa pn pc]] w' fun e w'' => (∃ x cx y cy, e = .returned (.tuple #[.agg #[.int .i64 2, .int .i64 24, .int .i64 (Wd : Int), .int .i64 (Hi : Int), .slice x 0 cx, .slice y n cy], .bool true]) ∧ Ints w'' y L) ∧ Below w'.heap.size w' w'') :
    Calls Try.prog 9 #[.agg #[.int .i64 k, .int .i64 d, .int .i64 (Wd : Int), .int .i64 (Hi : Int), .slice ca cn cc, .slice pa pn pc]] w fun e w' =>
      (((palList L).length ≤ 256 ∧ ∃ x cx y cy, e = .returned (.tuple #[.agg #[.int .i64 4, .int .i64 (palDepth (palList L).length : Int), .int .i64 (Wd : Int), .int .i64 (Hi : Int), .slice x (palList L).length cx, .slice y n cy], .bool true]) ∧ Pair2 w' w.heap.size x (palList L) y (palPix L)) ∨
       (256 < (palList L).length ∧ e = .returned (.tuple #[.agg #[.int .i64 0, .int .i64 0, .int .i64 0, .int .i64 0, .slice none 0 0, .slice none 0 0], .bool false]))) ∧ Below w.heap.size w w' := by
  have hB0 : Below w.heap.size w ((w.alloc (.cells #[.int .i64 k, .int .i64 d, .int .i64 (Wd : Int), .int .i64 (Hi : Int), .slice ca cn cc, .slice pa pn pc] 26)).alloc (.cells #[.int .i64 0, .int .i64 0, .int .i64 0, .int .i64 0, .slice none 0 0, .slice none 0 0] 26)) := ((Below.refl _ _).alloc (Nat.le_refl _) _).alloc (by simp) _
  have HO : Hid (∀ w', Below w.heap.size w w' → Calls Try.prog 18 #[.agg #[.int .i64 k, .int .i64 d, .int .i64 (Wd : Int), .int .i64 (Hi : Int), .slice ca cn cc, .slice pa pn pc]] w' fun e w'' => (∃ x cx y cy, e = .returned (.tuple #[.agg #[.int .i64 2, .int .i64 24, .int .i64 (Wd : Int), .int .i64 (Hi : Int), .slice x 0 cx, .slice y n cy], .bool true]) ∧ Ints w'' y L) ∧ Below w'.heap.size w' w'') := hO
  clear hO
  have HZ : Hid (((w.alloc (.cells #[.int .i64 k, .int .i64 d, .int .i64 (Wd : Int), .int .i64 (Hi : Int), .slice ca cn cc, .slice pa pn pc] 26)).alloc (.cells #[.int .i64 0, .int .i64 0, .int .i64 0, .int .i64 0, .slice none 0 0, .slice none 0 0] 26)).heap[w.heap.size + 1]? = some (.cells #[.int .i64 0, .int .i64 0, .int .i64 0, .int .i64 0, .slice none 0 0, .slice none 0 0] 26 (0, 0))) := heap_alloc2_new _ _ _
  have hmul : Wd * Hi ≤ 20 * 20 := Nat.mul_le_mul hW hH
  obtain ⟨nC, hnC⟩ : ∃ nC, nC = (palList L).length := ⟨_, rfl⟩
  have HNC : Hid (nC = (palList L).length) := hnC
  have hnb : nC ≤ 400 := by have := palList_len L; omega
  have HFL : Hid (L.length = n ∧ n = Wd * Hi ∧ ∀ v ∈ L, 0 ≤ v ∧ v ≤ 16777215) := ⟨hL, hm, hb⟩
  rw [← hnC]
  clear hnC hL hm hb hmul
  go_enter Try.func9, Try.ntmps9
  go_wp2_with fail
  refine (HO.out _ hB0).mono ?_
  rintro e w1 ⟨⟨x, cx, y, cy, rfl, hy⟩, b1⟩
  have bel1 : Below w.heap.size w w1 := hB0.trans (b1.mono hB0.size)
  have HZ1 : Hid (w1.heap[w.heap.size + 1]? = some (.cells #[.int .i64 0, .int .i64 0, .int .i64 0, .int .i64 0, .slice none 0 0, .slice none 0 0] 26 (0, 0))) := (b1.block _ (by simp)).trans HZ.out
  have hlt1 : w.heap.size + 1 < w1.heap.size := Nat.lt_of_lt_of_le (by simp) b1.size
  have HY : Hid (Ints w1 y L) := hy
  clear b1 hB0 HO HZ hy
  obtain ⟨WA, hWA⟩ : ∃ WA, WA = w1.alloc (.cells #[.int .i64 2, .int .i64 24, .int .i64 (Wd : Int), .int .i64 (Hi : Int), .slice x 0 cx, .slice y n cy] 26) := ⟨_, rfl⟩
  have bA : Below w1.heap.size w1 WA := by rw [hWA]; exact (Below.refl _ _).alloc (Nat.le_refl _) _
  have hsA : WA.heap.size = w1.heap.size + 1 := by rw [hWA]; simp
  have AX : Hid (Bx WA w1.heap.size (.int .i64 2) (.int .i64 24) (.int .i64 (Wd : Int)) (.int .i64 (Hi : Int)) (.slice x 0 cx) (.slice y n cy)) := by rw [hWA]; exact bx_new w1 _ _ _ _ _ _ 26
  have HYA : Hid (Ints WA y L) := HY.out.kept bA
  have belA : Below w.heap.size w WA := bel1.trans (bA.mono bel1.size)
  go_wp2_with fail
  rw [← hWA]
  clear hWA
  refine (pointsOf_any _ _ WA).mono ?_
  rintro e w2 ⟨rfl, hw2⟩
  have HLI : Hid (Calls Try.prog 28 #[.func (.func 56) #[] #[.pointer (some ⟨WA.heap.size, 0, none⟩)]] w2 fun e W' => (∃ a c M D, e = .returned (.tuple #[.slice a nC c, .map (some M)]) ∧ OwnI W' (w2.heap.size + 3) (.slice a nC c) nC (palList L) ∧ M < w2.heap.size + 3 ∧ W'.ownsMap Try.prog 3 (plainElem Try.prog 3) M nC D ∧ MapIs D (palList L)) ∧ Below w2.heap.size w2 W') := by
    have S0 := plain_seen 2 24 Wd Hi x 0 cx y n cy L WA HYA.out HFL.out.1 hW hH HFL.out.2.1
    have hv : ∀ X Y, X < Wd → Y < Hi → colV (colC (pixF Wd L X Y)) = pixF Wd L X Y := fun X Y hx hy => by
      have hin : pixF Wd L X Y ∈ L := getD_mem (by rw [HFL.out.1, HFL.out.2.1]; exact at_lt hx hy)
      have := HFL.out.2.2 _ hin
      exact colC_val (by omega)
    have hat : ∀ (w' : World) (X Y : Nat), X < Wd → Y < Hi → Below WA.heap.size WA w' → Calls Try.prog 84 #[.agg #[.int .i64 2, .int .i64 24, .int .i64 (Wd : Int), .int .i64 (Hi : Int), .slice x 0 cx, .slice y n cy], .int .i64 (X : Int), .int .i64 (Y : Int)] w' fun e w'' => e = .returned (.int .i64 (colV (colC (pixF Wd L X Y)))) ∧ Below w'.heap.size w' w'' := fun w' X Y hx hy b => by
      rw [hv X Y hx hy]
      exact S0.at' w' X Y hx hy b
    have S1 : Seen 49 (.agg #[.int .i64 2, .int .i64 24, .int .i64 (Wd : Int), .int .i64 (Hi : Int), .slice x 0 cx, .slice y n cy]) 85 (.agg #[.int .i64 2, .int .i64 24, .int .i64 (Wd : Int), .int .i64 (Hi : Int), .slice x 0 cx, .slice y n cy]) 84 (.agg #[.int .i64 2, .int .i64 24, .int .i64 (Wd : Int), .int .i64 (Hi : Int), .slice x 0 cx, .slice y n cy]) Wd Hi (fun X Y => colV (colC (pixF Wd L X Y))) WA.heap.size WA := { S0 with at' := hat }
    have HT := points_col 1 (Nat.le_refl _) _ _ _ _ _ _ Wd Hi (fun X Y => colC (pixF Wd L X Y)) hW hH WA S1
    rw [← hw2] at HT
    have h := callsIn_wide.1 (listed_in 56 _ (enters_of Try.func56 (by kernel_rfl) rfl) _ (by rw [uptoA_length, ← HFL.out.2.1]; have := palList_len L; have := Nat.mul_le_mul hW hH; have := HFL.out.2.1; omega) w2 HT)
    have e1 : (uptoA (ptA Wd fun X Y => colC (pixF Wd L X Y)) (Wd * Hi)).map colV = L := by
      have e2 : uptoA (ptA Wd fun X Y => colC (pixF Wd L X Y)) (Wd * Hi) = (upto (ptF Wd (pixF Wd L)) (Wd * Hi)).map colC := by unfold uptoA upto; rw [List.map_map]; rfl
      rw [e2, pix_upto L Wd Hi (by rw [HFL.out.1]; exact HFL.out.2.1)]
      exact colC_list (fun v hv => by have := HFL.out.2.2 v hv; omega)
    rw [e1, ← HNC.out] at h
    exact h
  have b2 : Below WA.heap.size WA w2 := by rw [hw2]; exact (Below.refl _ _).alloc (Nat.le_refl _) _
  have bel2 : Below w.heap.size w w2 := belA.trans (b2.mono belA.size)
  have HZ2 : Hid (w2.heap[w.heap.size + 1]? = some (.cells #[.int .i64 0, .int .i64 0, .int .i64 0, .int .i64 0, .slice none 0 0, .slice none 0 0] 26 (0, 0))) := (b2.block _ (by omega)).trans ((bA.block _ hlt1).trans HZ1.out)
  have AX2 : Hid (Bx w2 w1.heap.size (.int .i64 2) (.int .i64 24) (.int .i64 (Wd : Int)) (.int .i64 (Hi : Int)) (.slice x 0 cx) (.slice y n cy)) := AX.out.kept b2
  have HY2 : Hid (Ints w2 y L) := HYA.out.kept b2
  have hs2 : w.heap.size + 2 < w2.heap.size := by have := b2.size; omega
  clear hw2 b2 belA HYA AX HZ1 HY bA hsA bel1
  go_wp2_with fail
  refine HLI.out.mono ?_
  rintro e w3 ⟨⟨a, c, M, D, rfl, hO3, hM3, hmap3, hD3⟩, b3⟩
  obtain ⟨w4, hw4⟩ : ∃ w4, w4 = w3.alloc (.cells #[.map (some M)] 43) := ⟨_, rfl⟩
  have b34 : Below w3.heap.size w3 w4 := by rw [hw4]; exact (Below.refl _ _).alloc (Nat.le_refl _) _
  have b4 : Below w2.heap.size w2 w4 := b3.trans (b34.mono b3.size)
  have bel4 : Below w.heap.size w w4 := bel2.trans (b4.mono bel2.size)
  have HC4 : Hid (Boxed w4 w3.heap.size 43 (.map (some M))) := by rw [hw4]; exact Boxed.new w3 _ _
  have HM4 : Hid (w4.ownsMap Try.prog 3 (plainElem Try.prog 3) M nC D ∧ MapIs D (palList L)) := ⟨by rw [hw4]; exact hmap3.alloc _, hD3⟩
  obtain ⟨ao, cv, hev, hOv⟩ := OwnI.owns hO3
  cases hev
  have HI4 : Hid (Ints w4 a (palList L)) := hOv.ints.kept b34
  have HZ4 : Hid (w4.heap[w.heap.size + 1]? = some (.cells #[.int .i64 0, .int .i64 0, .int .i64 0, .int .i64 0, .slice none 0 0, .slice none 0 0] 26 (0, 0))) := (b4.block _ (by omega)).trans HZ2.out
  have AX4 : Hid (Bx w4 w1.heap.size (.int .i64 2) (.int .i64 24) (.int .i64 (Wd : Int)) (.int .i64 (Hi : Int)) (.slice x 0 cx) (.slice y n cy)) := AX2.out.kept b4
  have HY4 : Hid (Ints w4 y L) := HY2.out.kept b4
  clear hO3 hM3 hmap3 hD3 b3 b34 b4 bel2 hOv HZ2 AX2 HY2 HLI
  go_wp2_with fail
  rw [← hw4]
  clear hw4
  refine (leastDepth_any nC w4 (by omega)).mono ?_
  rintro e w5 ⟨rfl, b5⟩
  have bel5 : Below w.heap.size w w5 := bel4.trans (b5.mono bel4.size)
  have hz5 : w5.heap[w.heap.size + 1]? = some (.cells #[.int .i64 0, .int .i64 0, .int .i64 0, .int .i64 0, .slice none 0 0, .slice none 0 0] 26 (0, 0)) := (b5.block _ (lt_of_at HZ4.out)).trans HZ4.out
  have AX5 : Hid (Bx w5 w1.heap.size (.int .i64 2) (.int .i64 24) (.int .i64 (Wd : Int)) (.int .i64 (Hi : Int)) (.slice x 0 cx) (.slice y n cy)) := AX4.out.kept b5
  by_cases h256 : nC ≤ 256
  · have hd1 : decide (nC ≤ 256) = true := by simpa using h256
    rw [if_pos h256, hd1]
    have HDR : Hid (Calls Try.prog 32 #[.iface 56 (.agg #[.iface 49 (.agg #[.int .i64 2, .int .i64 24, .int .i64 (Wd : Int), .int .i64 (Hi : Int), .slice x 0 cx, .slice y n cy]), .func (.func 31) #[] #[.pointer (some ⟨w3.heap.size, 0, none⟩)]]), .int .i64 4, .int .i64 (palDepth nC : Int), .slice a nC c] w5 fun e w'' =>
        (∃ x cx y cy, e = .returned (.agg #[.int .i64 4, .int .i64 (palDepth nC : Int), .int .i64 (Wd : Int), .int .i64 (Hi : Int), .slice x nC cx, .slice y n cy]) ∧ Pair2 w'' w5.heap.size x (palList L) y (palPix L)) ∧ Below w5.heap.size w5 w'') := by
      have S := place_seen w3.heap.size M nC n Wd Hi x cx y cy L D w5 HFL.out.1 HFL.out.2.1 hW hH (HY4.out.kept b5) HFL.out.2.2 ((b5.cell (p := ⟨w3.heap.size, 0, none⟩) HC4.out.lt).trans HC4.out.cell) (Nat.lt_of_lt_of_le HC4.out.lt b5.size) (HM4.out.1.kept (grown_of_below b5) (by simp)) HM4.out.2
      have h := drawn_any 56 _ _ _ _ _ Wd Hi _ hW hH 4 (palDepth nC : Int) a nC c (palList L) w5 S (HI4.out.kept b5) HNC.out.symm (by omega)
      rw [place_upto L Wd Hi (by rw [HFL.out.1]; exact HFL.out.2.1), ← HFL.out.2.1] at h
      exact h
    clear b5 HZ4 AX4 HY4 HC4 HM4 HI4 bel4
    obtain ⟨_, a0, a1, a2, a3, a4, a5⟩ := AX5.out
    go_wp2_with fail
    refine HDR.out.mono ?_
    rintro e w6 ⟨⟨x6, cx6, y6, cy6, rfl, hP6⟩, b6⟩
    have hlt5 : w.heap.size + 1 < w5.heap.size := lt_of_at hz5
    have hz6 : w6.heap[w.heap.size + 1]? = some (.cells #[.int .i64 0, .int .i64 0, .int .i64 0, .int .i64 0, .slice none 0 0, .slice none 0 0] 26 (0, 0)) := (b6.block _ hlt5).trans hz5
    have bel6 : Below w.heap.size w w6 := bel5.trans (b6.mono bel5.size)
    have hI6 : (Try.prog.info? 26).map (·.size) = some (#[Value.int .i64 4, .int .i64 (palDepth nC : Int), .int .i64 (Wd : Int), .int .i64 (Hi : Int), .slice x6 nC cx6, .slice y6 n cy6]).size := by kernel_rfl
    have h16 : (#[Value.int .i64 4, .int .i64 (palDepth nC : Int), .int .i64 (Wd : Int), .int .i64 (Hi : Int), .slice x6 nC cx6, .slice y6 n cy6]).all (·.oneCell') = true := by simp [Value.oneCell']
    have hs6 := setRow_heap w6 (w.heap.size + 1) _ #[.int .i64 4, .int .i64 (palDepth nC : Int), .int .i64 (Wd : Int), .int .i64 (Hi : Int), .slice x6 nC cx6, .slice y6 n cy6] _ _ hz6
    obtain ⟨⟨z0, z1, z2, z3, z4, z5⟩, _⟩ := box6 hs6
    have HP7 : Hid (Pair2 (w6.setRow (w.heap.size + 1) #[.int .i64 4, .int .i64 (palDepth nC : Int), .int .i64 (Wd : Int), .int .i64 (Hi : Int), .slice x6 nC cx6, .slice y6 n cy6]) w.heap.size x6 (palList L) y6 (palPix L)) := (hP6.above (by simp) (fun k hk => setRow_other _ _ _ _ (by omega))).lower (by omega)
    clear hP6 b6 HDR a0 a1 a2 a3 a4 a5
    go_wp2_with (refine wpList_store_row rfl 26 (.tmp 2) (.tmp 42) rfl (w.heap.size + 1) #[.int .i64 4, .int .i64 (palDepth nC : Int), .int .i64 (Wd : Int), .int .i64 (Hi : Int), .slice x6 nC cx6, .slice y6 n cy6] rfl rfl 26 #[.int .i64 0, .int .i64 0, .int .i64 0, .int .i64 0, .slice none 0 0, .slice none 0 0] hz6 hI6 rfl h16 ?_)
    refine bodyPost_ret (v := .tuple #[.agg #[.int .i64 4, .int .i64 (palDepth nC : Int), .int .i64 (Wd : Int), .int .i64 (Hi : Int), .slice x6 nC cx6, .slice y6 n cy6], .bool true]) (by simp [results, Try.results9, go_sem, z0, z1, z2, z3, z4, z5]) rfl ⟨.inl ⟨h256, x6, cx6, y6, cy6, rfl, HP7.out⟩, ?_⟩
    exact bel6.trans ((below_setRow _ _ _).mono (by omega))
  · have hd1 : decide (nC ≤ 256) = false := by simpa using h256
    rw [if_neg h256, hd1]
    have hI6 : (Try.prog.info? 26).map (·.size) = some (#[Value.int .i64 0, .int .i64 0, .int .i64 0, .int .i64 0, .slice none 0 0, .slice none 0 0]).size := by kernel_rfl
    have h16 : (#[Value.int .i64 0, .int .i64 0, .int .i64 0, .int .i64 0, .slice none 0 0, .slice none 0 0]).all (·.oneCell') = true := by simp [Value.oneCell']
    have hs6 := setRow_heap w5 (w.heap.size + 1) _ #[.int .i64 0, .int .i64 0, .int .i64 0, .int .i64 0, .slice none 0 0, .slice none 0 0] _ _ hz5
    obtain ⟨⟨z0, z1, z2, z3, z4, z5⟩, _⟩ := box6 hs6
    clear b5 HZ4 AX4 HY4 HC4 HM4 HI4 bel4
    go_wp2_with (refine wpList_store_row rfl 26 (.tmp 2) (.tmp 33) rfl (w.heap.size + 1) #[.int .i64 0, .int .i64 0, .int .i64 0, .int .i64 0, .slice none 0 0, .slice none 0 0] rfl rfl 26 #[.int .i64 0, .int .i64 0, .int .i64 0, .int .i64 0, .slice none 0 0, .slice none 0 0] hz5 hI6 rfl h16 ?_)
    refine bodyPost_ret (v := .tuple #[.agg #[.int .i64 0, .int .i64 0, .int .i64 0, .int .i64 0, .slice none 0 0, .slice none 0 0], .bool false]) (by simp [results, Try.results9, go_sem, z0, z1, z2, z3, z4, z5]) rfl ⟨.inr ⟨by omega, rfl⟩, ?_⟩
    exact bel5.trans ((below_setRow _ _ _).mono (by omega))
end Go.Proofs.Ytjiogneidioknaa

/- ImagePal at every picture, of both. -/
namespace Go.Proofs.Ytjiogneidioknaa
open Go.RowKit

/-- whether a picture can be made one of a list of colours -/
noncomputable def plB (k d wd hi : Int) (cs ps : List Int) : Bool := rgB k d wd hi cs ps && decide ((palList (rgL k d wd hi cs ps)).length ≤ 256)
noncomputable def plK (k d wd hi : Int) (cs ps : List Int) (v : Int) : Int := if plB k d wd hi cs ps then v else 0
noncomputable def plD (k d wd hi : Int) (cs ps : List Int) : Int := (palDepth (palList (rgL k d wd hi cs ps)).length : Int)
noncomputable def plC (k d wd hi : Int) (cs ps : List Int) : List Int := if plB k d wd hi cs ps then palList (rgL k d wd hi cs ps) else []
noncomputable def plP (k d wd hi : Int) (cs ps : List Int) : List Int := if plB k d wd hi cs ps then palPix (rgL k d wd hi cs ps) else []

theorem pl_yes {k d wd hi : Int} {cs ps : List Int} (h : rgB k d wd hi cs ps = true) (hd : (palList (rgL k d wd hi cs ps)).length ≤ 256) :
    plB k d wd hi cs ps = true ∧ plC k d wd hi cs ps = palList (rgL k d wd hi cs ps) ∧ plP k d wd hi cs ps = palPix (rgL k d wd hi cs ps) ∧ ∀ v, plK k d wd hi cs ps v = v := by
  have hB : plB k d wd hi cs ps = true := by unfold plB; rw [h, decide_eq_true hd]; rfl
  exact ⟨hB, by unfold plC; rw [hB]; rfl, by unfold plP; rw [hB]; rfl, fun v => by unfold plK; rw [hB]; rfl⟩
theorem pl_no {k d wd hi : Int} {cs ps : List Int} (h : rgB k d wd hi cs ps = false ∨ 256 < (palList (rgL k d wd hi cs ps)).length) :
    plB k d wd hi cs ps = false ∧ plC k d wd hi cs ps = [] ∧ plP k d wd hi cs ps = [] ∧ ∀ v, plK k d wd hi cs ps v = 0 := by
  have hB : plB k d wd hi cs ps = false := by
    unfold plB
    rcases h with h | h
    · rw [h]; rfl
    · rw [decide_eq_false (by omega)]; simp
  exact ⟨hB, by unfold plC; rw [hB]; rfl, by unfold plP; rw [hB]; rfl, fun v => by unfold plK; rw [hB]; rfl⟩
/-- what is known of a picture that can be made one of red, green and blue -/
theorem rg_all {k d wd hi : Int} {cs ps : List Int} (h : rgB k d wd hi cs ps = true) :
    ∃ Wd Hi : Nat, wd = (Wd : Int) ∧ hi = (Hi : Int) ∧ Wd ≤ 20 ∧ Hi ≤ 20 ∧ (rgL k d wd hi cs ps).length = Wd * Hi ∧ (∀ v ∈ rgL k d wd hi cs ps, 0 ≤ v ∧ v ≤ 16777215) ∧ 1 ≤ Wd ∧ 1 ≤ Hi := by
  have h' := h
  unfold rgB at h
  rw [Bool.and_eq_true] at h
  have hOk := Im.okB_open h.1
  obtain ⟨hd, hw, hh, _, hm, _⟩ := Im.okB_open h.1
  obtain ⟨Wd, rfl⟩ := Int.eq_ofNat_of_zero_le (show 0 ≤ wd by omega)
  obtain ⟨Hi, rfl⟩ := Int.eq_ofNat_of_zero_le (show 0 ≤ hi by omega)
  obtain ⟨D, rfl, _, _⟩ := Im.dep_all hd
  rw [Int.toNat_natCast] at h
  obtain ⟨_, hL, _⟩ := rg_yes h.1 h.2
  have e : ((Wd * Hi : Nat) : Int) = (Wd : Int) * (Hi : Int) := by simp
  refine ⟨Wd, Hi, rfl, rfl, by omega, by omega, ?_, ?_, by omega, by omega⟩
  · rw [hL, bares_len, cols_len]; omega
  · rw [hL]
    intro v hv
    unfold bares at hv
    obtain ⟨c, hc, rfl⟩ := List.mem_map.1 hv
    unfold cols at hc
    obtain ⟨p, hp, rfl⟩ := List.mem_map.1 hc
    have := col_bounds hOk hp
    omega
theorem rg_len {k d wd hi : Int} {cs ps : List Int} (h : rgB k d wd hi cs ps = true) : (rgL k d wd hi cs ps).length ≤ 400 := by
  obtain ⟨Wd, Hi, _, _, h1, h2, h3, _⟩ := rg_all h
  have := Nat.mul_le_mul h1 h2
  omega
theorem plC_len (k d wd hi : Int) (cs ps : List Int) : (plC k d wd hi cs ps).length ≤ 1048576 := by
  unfold plC
  split
  · have h1 := palList_len (rgL k d wd hi cs ps)
    have h2 := rgL_len k d wd hi cs ps
    omega
  · simp
theorem plP_len (k d wd hi : Int) (cs ps : List Int) : (plP k d wd hi cs ps).length ≤ 1048576 := by
  unfold plP
  split
  · rw [palPix_len]; exact rgL_len k d wd hi cs ps
  · simp

theorem spec_pal (k d wd hi : Int) (ca : Option Addr) (cn cc : Nat) (pa : Option Addr) (pn pc : Nat) (cs ps : List Int) (w : World) (hc : Ints w ca cs) (hcn : cs.length = cn) (hcl : cn ≤ 1048576) (hp : Ints w pa ps) (hpn : ps.length = pn) (hpl : pn ≤ 1048576) :
    Calls Try.prog 7 #[.agg #[.int .i64 k, .int .i64 d, .int .i64 wd, .int .i64 hi, .slice ca cn cc, .slice pa pn pc]] w fun e w'' => (∃ x cx y cy, e = .returned (.tuple #[.agg #[.int .i64 (plK k d wd hi cs ps 4), .int .i64 (plK k d wd hi cs ps (plD k d wd hi cs ps)), .int .i64 (plK k d wd hi cs ps wd), .int .i64 (plK k d wd hi cs ps hi), .slice x (plC k d wd hi cs ps).length cx, .slice y (plP k d wd hi cs ps).length cy], .bool (plB k d wd hi cs ps)]) ∧ Ints w'' x (plC k d wd hi cs ps) ∧ Ints w'' y (plP k d wd hi cs ps)) ∧ Below w.heap.size w w'' := by
  have hR : ∀ w', Below w.heap.size w w' → _ := fun w' b => spec_rgb k d wd hi ca cn cc pa pn pc cs ps w' (hc.kept b) hcn hcl (hp.kept b) hpn hpl
  rcases hB : rgB k d wd hi cs ps with _ | _
  · obtain ⟨hpB, hpC, hpP, hpK⟩ := pl_no (k := k) (d := d) (wd := wd) (hi := hi) (cs := cs) (ps := ps) (.inl hB)
    have hrK : ∀ v, rgK k d wd hi cs ps v = 0 := fun v => by unfold rgK; rw [hB]; rfl
    have hrL : rgL k d wd hi cs ps = [] := by unfold rgL; rw [hB]; rfl
    refine (spec_pal_no k d wd hi ca cn cc pa pn pc w (fun w' b => ?_)).mono ?_
    · refine (hR w' b).mono ?_
      rintro e w'' ⟨⟨x, cx, y, cy, rfl, _, _⟩, b'⟩
      refine ⟨⟨x, cx, y, cy, ?_⟩, b'⟩
      rw [hB, hrK, hrK, hrK, hrK, hrL]; rfl
    · rintro e w'' ⟨rfl, b⟩
      refine ⟨⟨none, 0, none, 0, ?_, .inl hpC, .inl hpP⟩, b⟩
      rw [hpB, hpK, hpK, hpK, hpK, hpC, hpP]; rfl
  · have hrK : ∀ v, rgK k d wd hi cs ps v = v := fun v => by unfold rgK; rw [hB]; rfl
    refine (spec_pal_yes k d wd hi ca cn cc pa pn pc (rgL k d wd hi cs ps).length (rgL k d wd hi cs ps) w rfl (rg_len hB) (fun w' b => ?_)).mono ?_
    · refine (hR w' b).mono ?_
      rintro e w'' ⟨⟨x, cx, y, cy, rfl, _, hy⟩, b'⟩
      refine ⟨⟨x, cx, y, cy, ?_, hy⟩, b'⟩
      rw [hB, hrK, hrK, hrK, hrK]
    · rintro e w'' ⟨h | h, b⟩
      · obtain ⟨h1, x, cx, y, cy, rfl, hx, hy⟩ := h
        obtain ⟨hpB, hpC, hpP, hpK⟩ := pl_yes hB h1
        refine ⟨⟨x, cx, y, cy, ?_, by rw [hpC]; exact hx, by rw [hpP]; exact hy⟩, b⟩
        rw [hpB, hpK, hpK, hpK, hpK, hpC, hpP, palPix_len]; rfl
      · obtain ⟨h1, rfl⟩ := h
        obtain ⟨hpB, hpC, hpP, hpK⟩ := pl_no (k := k) (d := d) (wd := wd) (hi := hi) (cs := cs) (ps := ps) (.inr h1)
        refine ⟨⟨none, 0, none, 0, ?_, .inl hpC, .inl hpP⟩, b⟩
        rw [hpB, hpK, hpK, hpK, hpK, hpC, hpP]; rfl

theorem impl_pal (k d wd hi : Int) (ca : Option Addr) (cn cc : Nat) (pa : Option Addr) (pn pc : Nat) (cs ps : List Int) (w : World) (hc : Ints w ca cs) (hcn : cs.length = cn) (hcl : cn ≤ 1048576) (hp : Ints w pa ps) (hpn : ps.length = pn) (hpl : pn ≤ 1048576) :
    Calls Try.prog 9 #[.agg #[.int .i64 k, .int .i64 d, .int .i64 wd, .int .i64 hi, .slice ca cn cc, .slice pa pn pc]] w fun e w'' => (∃ x cx y cy, e = .returned (.tuple #[.agg #[.int .i64 (plK k d wd hi cs ps 4), .int .i64 (plK k d wd hi cs ps (plD k d wd hi cs ps)), .int .i64 (plK k d wd hi cs ps wd), .int .i64 (plK k d wd hi cs ps hi), .slice x (plC k d wd hi cs ps).length cx, .slice y (plP k d wd hi cs ps).length cy], .bool (plB k d wd hi cs ps)]) ∧ Pair2 w'' w.heap.size x (plC k d wd hi cs ps) y (plP k d wd hi cs ps)) ∧ Below w.heap.size w w'' := by
  have hR : ∀ w', Below w.heap.size w w' → _ := fun w' b => impl_rgb k d wd hi ca cn cc pa pn pc cs ps w' (hc.kept b) hcn hcl (hp.kept b) hpn hpl
  have nil2 : ∀ w'' : World, plC k d wd hi cs ps = [] → plP k d wd hi cs ps = [] → Pair2 w'' w.heap.size none (plC k d wd hi cs ps) none (plP k d wd hi cs ps) := fun w'' h1 h2 => ⟨w.heap.size, Nat.le_refl _, .inl h1, .inl h1, .inl h2⟩
  rcases hB : rgB k d wd hi cs ps with _ | _
  · obtain ⟨hpB, hpC, hpP, hpK⟩ := pl_no (k := k) (d := d) (wd := wd) (hi := hi) (cs := cs) (ps := ps) (.inl hB)
    have hrK : ∀ v, rgK k d wd hi cs ps v = 0 := fun v => by unfold rgK; rw [hB]; rfl
    have hrL : rgL k d wd hi cs ps = [] := by unfold rgL; rw [hB]; rfl
    refine (impl_pal_no k d wd hi ca cn cc pa pn pc w (fun w' b => ?_)).mono ?_
    · refine (hR w' b).mono ?_
      rintro e w'' ⟨⟨x, cx, y, cy, rfl, _⟩, b'⟩
      refine ⟨⟨x, cx, y, cy, ?_⟩, b'⟩
      rw [hB, hrK, hrK, hrK, hrK, hrL]; rfl
    · rintro e w'' ⟨rfl, b⟩
      refine ⟨⟨none, 0, none, 0, ?_, nil2 _ hpC hpP⟩, b⟩
      rw [hpB, hpK, hpK, hpK, hpK, hpC, hpP]; rfl
  · have hrK : ∀ v, rgK k d wd hi cs ps v = v := fun v => by unfold rgK; rw [hB]; rfl
    obtain ⟨Wd, Hi, rfl, rfl, hW, hH, hlen, hbnd, _⟩ := rg_all hB
    refine (impl_pal_yes k d Wd Hi ca cn cc pa pn pc (rgL k d (Wd : Int) (Hi : Int) cs ps).length (rgL k d (Wd : Int) (Hi : Int) cs ps) w rfl hlen hW hH hbnd (fun w' b => ?_)).mono ?_
    · refine (hR w' b).mono ?_
      rintro e w'' ⟨⟨x, cx, y, cy, rfl, hP⟩, b'⟩
      refine ⟨⟨x, cx, y, cy, ?_, ?_⟩, b'⟩
      · rw [hB, hrK, hrK, hrK, hrK]
      · obtain ⟨_, _, _, _, hy⟩ := hP
        exact hy.ints
    · rintro e w'' ⟨h | h, b⟩
      · obtain ⟨h1, x, cx, y, cy, rfl, hx⟩ := h
        obtain ⟨hpB, hpC, hpP, hpK⟩ := pl_yes hB h1
        refine ⟨⟨x, cx, y, cy, ?_, by rw [hpC, hpP]; exact hx⟩, b⟩
        rw [hpB, hpK, hpK, hpK, hpK, hpC, hpP, palPix_len]; rfl
      · obtain ⟨h1, rfl⟩ := h
        obtain ⟨hpB, hpC, hpP, hpK⟩ := pl_no (k := k) (d := d) (wd := (Wd : Int)) (hi := (Hi : Int)) (cs := cs) (ps := ps) (.inr h1)
        refine ⟨⟨none, 0, none, 0, ?_, nil2 _ hpC hpP⟩, b⟩
        rw [hpB, hpK, hpK, hpK, hpK, hpC, hpP]; rfl
end Go.Proofs.Ytjiogneidioknaa
