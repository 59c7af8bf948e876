/- The draw of any picture: l14Any. -/
import Derived.Test.YtgeepemhmkoknaaSpoil
import Derived.Test.YtgeepemhmkoknaaImgDraw
namespace Go.Proofs.Ytgeepemhmkoknaa
open Go.RowKit

theorem Only.refl_lt {B : Nat} {w : World} (o : Obj) (h : B < w.heap.size) : Only B w (w.alloc o) := (Only.refl B w).alloc h o

theorem AnyOut.up {lo lo' : Nat} {e : Ending} {w : World} (h : AnyOut lo e w) (hl : lo' ≤ lo) : AnyOut lo' e w := by
  obtain ⟨k, d, wd, hi, a, n, c, cs, b, m, cc, ps, he, h1, h2, h3, h4, h5, r⟩ := h
  exact ⟨k, d, wd, hi, a, n, c, cs, b, m, cc, ps, he, h1.lower hl, h2, h3, h4, h5.lower hl, r⟩

/-- the box of a picture, and a result's box ahead of it -/
structure BX (w wc : World) (B X q : Nat) (k d wd hi : Int) (a : Option Addr) (n c : Nat) (b : Option Addr) (m cc : Nat) : Prop where
  rd : RdAt wc B q
  only : Only B w wc
  res : wc.heap[w.heap.size]? = some (.cells #[.int .i64 0, .int .i64 0, .int .i64 0, .int .i64 0, .slice none 0 0, .slice none 0 0] 25 (0, 0))
  box : wc.heap[X]? = some (.cells #[.int .i64 k, .int .i64 d, .int .i64 wd, .int .i64 hi, .slice a n c, .slice b m cc] 25 (0, 0))
  lt : B < w.heap.size

set_option maxHeartbeats 2000000 in
set_option maxRecDepth 20000 in
theorem l14Any_any (B p : Nat) (w : World) (hr : RdAt w B p) (hp : p ≤ 100000) :
    Calls Try.prog 36 #[.pointer (some ⟨B, 0, none⟩)] w fun e w' => AnyOut w.heap.size e w' ∧ (∃ q, q ≤ p + 6000 ∧ RdAt w' B q) ∧ Only B w w' := by
  have hlt := hr.lt
  obtain ⟨W0, hW0⟩ : ∃ W0, W0 = w.alloc (.cells #[.int .i64 0, .int .i64 0, .int .i64 0, .int .i64 0, .slice none 0 0, .slice none 0 0] 25) := ⟨_, rfl⟩
  have hs0 : W0.heap.size = w.heap.size + 1 := by rw [hW0]; simp
  have HR0 : Hid (RdAt W0 B p) := by rw [hW0]; exact hr.alloc _
  have HO0 : Hid (Only B w W0) := by rw [hW0]; exact Only.refl_lt _ hlt
  have HZ0 : Hid (W0.heap[w.heap.size]? = some (.cells #[.int .i64 0, .int .i64 0, .int .i64 0, .int .i64 0, .slice none 0 0, .slice none 0 0] 25 (0, 0))) := by rw [hW0]; exact heap_alloc_new _ _
  have HIM : Hid (Calls Try.prog 58 #[.pointer (some ⟨B, 0, none⟩)] W0 fun e w' => PicOut W0.heap.size e w' ∧ (∃ q, q ≤ p + 5000 ∧ RdAt w' B q) ∧ Only B W0 w') := l14Image_any B p W0 HR0.out hp
  clear hr
  go_enter Try.func36, Try.ntmps36
  go_upto_region 1 with fail
  rw [← hW0]
  clear hW0
  go_wp2_with fail
  refine HIM.out.mono ?_
  rintro e w1 ⟨⟨k, d, wd, hi, a, n, c, cs, b, m, cc, ps, rfl, h4, h5, hm, hwd1, hwd2, hhi1, hhi2, hn, hk1, hk2, hd⟩, ⟨q, hq, hR1⟩, hO1⟩
  have hB0 : Below w.heap.size w w1 → True := fun _ => trivial
  have hm4 : m ≤ 400 := by rw [hm]; exact Nat.mul_le_mul hwd2 hhi2
  have hm1 : 1 ≤ m := by rw [hm]; exact Nat.mul_pos hwd1 hhi1
  have hsz1 : W0.heap.size ≤ w1.heap.size := hO1.below.size
  have hw1 : w.heap.size < w1.heap.size := by omega
  have HX : Hid (BX w (w1.alloc (.cells #[.int .i64 (k : Int), .int .i64 (d : Int), .int .i64 (wd : Int), .int .i64 (hi : Int), .slice a n c, .slice b m cc] 25)) B w1.heap.size q k d wd hi a n c b m cc) :=
    ⟨hR1.alloc _, (HO0.out.trans hO1).alloc hR1.lt _, (heap_alloc_old _ _ (by omega)).trans ((hO1.rest _ (by omega) (by omega)).trans HZ0.out), heap_alloc_new _ _, hlt⟩
  have HI : Hid (IntsFrom (w1.alloc (.cells #[.int .i64 (k : Int), .int .i64 (d : Int), .int .i64 (wd : Int), .int .i64 (hi : Int), .slice a n c, .slice b m cc] 25)) (w.heap.size + 1) a cs ∧ IntsFrom (w1.alloc (.cells #[.int .i64 (k : Int), .int .i64 (d : Int), .int .i64 (wd : Int), .int .i64 (hi : Int), .slice a n c, .slice b m cc] 25)) (w.heap.size + 1) b ps ∧ n ≤ c ∧ m ≤ cc ∧ cs.length = n ∧ ps.length = m) :=
    ⟨by rw [← hs0]; exact (h4.old _).from, by rw [← hs0]; exact (h5.old _).from, h4.cap, h5.cap, h4.len, h5.len⟩
  clear HIM HR0 HO0 HZ0 h4 h5 hm hR1 hO1 hB0 hsz1 hs0
  go_wp2_with fail
  refine (pick_named B q _ _ HX.out.rd (by omega) (by omega) (by omega)).mono ?_
  rintro e w2 ⟨v, rfl, hv, hR2, hO2, hs2⟩
  have HX2 : Hid (BX w w2 B w1.heap.size (q + 1) k d wd hi a n c b m cc) :=
    ⟨hR2, HX.out.only.trans hO2, (hO2.rest _ (lt_of_block HX.out.res) (by omega)).trans HX.out.res, (hO2.rest _ (lt_of_block HX.out.box) (by omega)).trans HX.out.box, hlt⟩
  have HI2 : Hid (IntsFrom w2 (w.heap.size + 1) a cs ∧ IntsFrom w2 (w.heap.size + 1) b ps ∧ n ≤ c ∧ m ≤ cc ∧ cs.length = n ∧ ps.length = m) := by
    obtain ⟨i1, i2, r⟩ := HI.out
    exact ⟨i1.only hO2 (by omega), i2.only hO2 (by omega), r⟩
  clear HX HI hR2 hO2 hs2
  generalize w1.heap.size = X at *
  obtain ⟨⟨z0, z1, z2, z3, z4, z5⟩, y0, y1, y2, y3, y4, y5⟩ := box6 HX2.out.box
  by_cases h0 : v = 0
  · subst h0
    have HSP : Hid (Calls Try.prog 70 #[.pointer (some ⟨B, 0, none⟩), .agg #[.int .i64 (k : Int), .int .i64 (d : Int), .int .i64 (wd : Int), .int .i64 (hi : Int), .slice a n c, .slice b m cc]] w2 fun e w' => AnyOut w2.heap.size e w' ∧ (∃ q', q' ≤ q + 1 + 5 ∧ RdAt w' B q') ∧ Only B w2 w') :=
      l14Spoil_any B (q + 1) k d wd hi a n c b m cc cs ps w2 HX2.out.rd (by omega) HI2.out.1.ints HI2.out.2.2.2.2.1 hn HI2.out.2.1.ints HI2.out.2.2.2.2.2 hm1 hm4 ⟨hk1, hk2⟩ hd (by omega) (by omega)
    go_wp2_with fail
    refine HSP.out.mono ?_
    rintro e w3 ⟨⟨k3, d3, wd3, hi3, a3, n3, c3, cs3, b3, m3, cc3, ps3, rfl, i4, l4, l4', k4, i5, l5, l5', k5, bd⟩, ⟨q3, hq3, hR3⟩, hO3⟩
    have hres : w3.heap[w.heap.size]? = some (.cells #[.int .i64 0, .int .i64 0, .int .i64 0, .int .i64 0, .slice none 0 0, .slice none 0 0] 25 (0, 0)) := (hO3.rest _ (lt_of_block HX2.out.res) (by omega)).trans HX2.out.res
    have hsz2 : w.heap.size < w2.heap.size := lt_of_block HX2.out.res
    have HF : Hid (IntsFrom w3 (w.heap.size + 1) a3 cs3 ∧ IntsFrom w3 (w.heap.size + 1) b3 ps3 ∧ RdAt w3 B q3 ∧ Only B w w3) := ⟨i4.lower (by omega), i5.lower (by omega), hR3, HX2.out.only.trans hO3⟩
    have HL : Hid (cs3.length = n3 ∧ n3 ≤ 1000 ∧ n3 ≤ c3 ∧ ps3.length = m3 ∧ m3 ≤ 1000 ∧ m3 ≤ cc3 ∧ q3 ≤ p + 6000 ∧ 0 ≤ k3 ∧ k3 ≤ 100 ∧ 0 ≤ d3 ∧ d3 ≤ 100 ∧ 0 ≤ wd3 ∧ wd3 ≤ 100 ∧ 0 ≤ hi3 ∧ hi3 ≤ 100) := ⟨l4, l4', k4, l5, l5', k5, by omega, bd⟩
    clear HSP i4 i5 hR3 hO3 z0 z1 z2 z3 z4 z5 y0 y1 y2 y3 y4 y5 HX2 HI2 l4 l4' k4 l5 l5' k5 bd hq3
    have hI6 : (Try.prog.info? 25).map (·.size) = some (#[Value.int .i64 k3, .int .i64 d3, .int .i64 wd3, .int .i64 hi3, .slice a3 n3 c3, .slice b3 m3 cc3]).size := by kernel_rfl
    have h16 : (#[Value.int .i64 k3, .int .i64 d3, .int .i64 wd3, .int .i64 hi3, .slice a3 n3 c3, .slice b3 m3 cc3]).all (·.oneCell') = true := by simp [Value.oneCell']
    go_wp2_with (refine wpList_store_row rfl 25 (.tmp 2) (.tmp 11) rfl w.heap.size #[.int .i64 k3, .int .i64 d3, .int .i64 wd3, .int .i64 hi3, .slice a3 n3 c3, .slice b3 m3 cc3] rfl rfl 25 #[.int .i64 0, .int .i64 0, .int .i64 0, .int .i64 0, .slice none 0 0, .slice none 0 0] hres hI6 rfl h16 ?_)
    have hs2 := setRow_heap w3 w.heap.size _ #[.int .i64 k3, .int .i64 d3, .int .i64 wd3, .int .i64 hi3, .slice a3 n3 c3, .slice b3 m3 cc3] _ _ hres
    obtain ⟨f1, f2, f3, f4⟩ := HF.out
    obtain ⟨g1, g2, g3, g4, g5, g6, g7, g8⟩ := HL.out
    refine bodyPost_ret_by (results_cell_row (p := 2) (ty := 25) (by kernel_rfl) _ _ w.heap.size 25 _ (0, 0) _ rfl hs2 Try.underlying25 rfl (by kernel_rfl)) rfl
      ⟨⟨k3, d3, wd3, hi3, a3, n3, c3, cs3, b3, m3, cc3, ps3, rfl, (f1.row (by omega) _).lower (by omega), g1, g2, g3, (f2.row (by omega) _).lower (by omega), g4, g5, g6, g8⟩, ⟨q3, g7, f3.kept ((below_setRow _ _ _).mono hlt)⟩, f4.grown hlt ((below_setRow _ _ _).mono (Nat.le_refl _))⟩
  · have h0i : ¬ (v : Int) = 0 := by omega
    have hres := HX2.out.res
    have HL : Hid (cs.length = n ∧ n ≤ 1000 ∧ n ≤ c ∧ ps.length = m ∧ m ≤ 1000 ∧ m ≤ cc ∧ q + 1 ≤ p + 6000 ∧ (0 : Int) ≤ k ∧ (k : Int) ≤ 100 ∧ (0 : Int) ≤ d ∧ (d : Int) ≤ 100 ∧ (0 : Int) ≤ wd ∧ (wd : Int) ≤ 100 ∧ (0 : Int) ≤ hi ∧ (hi : Int) ≤ 100) := ⟨HI2.out.2.2.2.2.1, by omega, HI2.out.2.2.1, HI2.out.2.2.2.2.2, by omega, HI2.out.2.2.2.1, by omega, by omega, by omega, by omega, by omega, by omega, by omega, by omega, by omega⟩
    have hI6 : (Try.prog.info? 25).map (·.size) = some (#[Value.int .i64 (k : Int), .int .i64 (d : Int), .int .i64 (wd : Int), .int .i64 (hi : Int), .slice a n c, .slice b m cc]).size := by kernel_rfl
    have h16 : (#[Value.int .i64 (k : Int), .int .i64 (d : Int), .int .i64 (wd : Int), .int .i64 (hi : Int), .slice a n c, .slice b m cc]).all (·.oneCell') = true := by simp [Value.oneCell']
    go_wp2_with (refine wpList_store_row rfl 25 (.tmp 2) (.tmp 12) rfl w.heap.size #[.int .i64 (k : Int), .int .i64 (d : Int), .int .i64 (wd : Int), .int .i64 (hi : Int), .slice a n c, .slice b m cc] rfl rfl 25 #[.int .i64 0, .int .i64 0, .int .i64 0, .int .i64 0, .slice none 0 0, .slice none 0 0] hres hI6 rfl h16 ?_)
    have hs2 := setRow_heap w2 w.heap.size _ #[.int .i64 (k : Int), .int .i64 (d : Int), .int .i64 (wd : Int), .int .i64 (hi : Int), .slice a n c, .slice b m cc] _ _ hres
    obtain ⟨f1, f2, _⟩ := HI2.out
    obtain ⟨g1, g2, g3, g4, g5, g6, g7, g8⟩ := HL.out
    refine bodyPost_ret_by (results_cell_row (p := 2) (ty := 25) (by kernel_rfl) _ _ w.heap.size 25 _ (0, 0) _ rfl hs2 Try.underlying25 rfl (by kernel_rfl)) rfl
      ⟨⟨k, d, wd, hi, a, n, c, cs, b, m, cc, ps, rfl, (f1.row (by omega) _).lower (by omega), g1, g2, g3, (f2.row (by omega) _).lower (by omega), g4, g5, g6, g8⟩, ⟨q + 1, g7, HX2.out.rd.kept ((below_setRow _ _ _).mono hlt)⟩, HX2.out.only.grown hlt ((below_setRow _ _ _).mono (Nat.le_refl _))⟩
end Go.Proofs.Ytgeepemhmkoknaa
