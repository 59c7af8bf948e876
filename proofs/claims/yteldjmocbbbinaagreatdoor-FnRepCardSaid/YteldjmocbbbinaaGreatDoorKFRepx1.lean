/- Texts laid together: AnyDraw, EachRegM, KxBox. -/
import Derived.Test.YteldjmocbbbinaaGreatDoorVFRepSpoil
import Derived.Test.YteldjmocbbbinaaGreatDoorVFRepImgDraw
import Derived.Test.YteldjmocbbbinaaGreatDoorVFRepEachReg
import Derived.Test.YteldjmocbbbinaaGreatDoorKFRepx0
/- The draw of any picture: l14Any. -/
namespace Go.Proofs.YteldjmocbbbinaaGreatDoor
open Go.RowKit

theorem Only.refl_lt {B : Nat} {w : World} (o : Obj) (h : B < w.heap.size) : Only B w (w.alloc o) := (Only.refl B w).alloc h o

theorem AnyOut.up {lo lo' : Nat} {e : Ending} {w : World} (h : AnyOut lo e w) (hl : lo' ≤ lo) : AnyOut lo' e w := by
  obtain ⟨k, d, wd, hi, a, n, c, cs, b, m, cc, ps, he, h1, h2, h3, h4, h5, r⟩ := h
  exact ⟨k, d, wd, hi, a, n, c, cs, b, m, cc, ps, he, h1.lower hl, h2, h3, h4, h5.lower hl, r⟩

/-- the box of a picture, and a result's box ahead of it -/
structure BX (w wc : World) (B X q : Nat) (k d wd hi : Int) (a : Option Addr) (n c : Nat) (b : Option Addr) (m cc : Nat) : Prop where
  rd : RdAt wc B q
  only : Only B w wc
  res : wc.heap[w.heap.size]? = some (.cells #[.int .i64 0, .int .i64 0, .int .i64 0, .int .i64 0, .slice none 0 0, .slice none 0 0] 25 (0, 0))
  box : wc.heap[X]? = some (.cells #[.int .i64 k, .int .i64 d, .int .i64 wd, .int .i64 hi, .slice a n c, .slice b m cc] 25 (0, 0))
  lt : B < w.heap.size

set_option maxHeartbeats 2000000 in
set_option maxRecDepth 20000 in
theorem l14Any_any (B p : Nat) (w : World) (hr : RdAt w B p) (hp : p ≤ 100000) :
    Calls Tryz.prog 29 #[.pointer (some ⟨B, 0, none⟩)] w fun e w' => AnyOut w.heap.size e w' ∧ (∃ q, q ≤ p + 6000 ∧ RdAt w' B q) ∧ Only B w w' := by
  have hlt := hr.lt
  obtain ⟨W0, hW0⟩ : ∃ W0, W0 = w.alloc (.cells #[.int .i64 0, .int .i64 0, .int .i64 0, .int .i64 0, .slice none 0 0, .slice none 0 0] 25) := ⟨_, rfl⟩
  have hs0 : W0.heap.size = w.heap.size + 1 := by rw [hW0]; simp
  have HR0 : Hid (RdAt W0 B p) := by rw [hW0]; exact hr.alloc _
  have HO0 : Hid (Only B w W0) := by rw [hW0]; exact Only.refl_lt _ hlt
  have HZ0 : Hid (W0.heap[w.heap.size]? = some (.cells #[.int .i64 0, .int .i64 0, .int .i64 0, .int .i64 0, .slice none 0 0, .slice none 0 0] 25 (0, 0))) := by rw [hW0]; exact heap_alloc_new _ _
  have HIM : Hid (Calls Tryz.prog 30 #[.pointer (some ⟨B, 0, none⟩)] W0 fun e w' => PicOut W0.heap.size e w' ∧ (∃ q, q ≤ p + 5000 ∧ RdAt w' B q) ∧ Only B W0 w') := l14Image_any B p W0 HR0.out hp
  clear hr
  go_enter Tryz.func29, Tryz.ntmps29
  go_upto_region 1 with fail
  rw [← hW0]
  clear hW0
  go_wp2_with fail
  refine HIM.out.mono ?_
  rintro e w1 ⟨⟨k, d, wd, hi, a, n, c, cs, b, m, cc, ps, rfl, h4, h5, hm, hwd1, hwd2, hhi1, hhi2, hn, hk1, hk2, hd⟩, ⟨q, hq, hR1⟩, hO1⟩
  have hB0 : Below w.heap.size w w1 → True := fun _ => trivial
  have hm4 : m ≤ 400 := by rw [hm]; exact Nat.mul_le_mul hwd2 hhi2
  have hm1 : 1 ≤ m := by rw [hm]; exact Nat.mul_pos hwd1 hhi1
  have hsz1 : W0.heap.size ≤ w1.heap.size := hO1.below.size
  have hw1 : w.heap.size < w1.heap.size := by omega
  have HX : Hid (BX w (w1.alloc (.cells #[.int .i64 (k : Int), .int .i64 (d : Int), .int .i64 (wd : Int), .int .i64 (hi : Int), .slice a n c, .slice b m cc] 25)) B w1.heap.size q k d wd hi a n c b m cc) :=
    ⟨hR1.alloc _, (HO0.out.trans hO1).alloc hR1.lt _, (heap_alloc_old _ _ (by omega)).trans ((hO1.rest _ (by omega) (by omega)).trans HZ0.out), heap_alloc_new _ _, hlt⟩
  have HI : Hid (IntsFrom (w1.alloc (.cells #[.int .i64 (k : Int), .int .i64 (d : Int), .int .i64 (wd : Int), .int .i64 (hi : Int), .slice a n c, .slice b m cc] 25)) (w.heap.size + 1) a cs ∧ IntsFrom (w1.alloc (.cells #[.int .i64 (k : Int), .int .i64 (d : Int), .int .i64 (wd : Int), .int .i64 (hi : Int), .slice a n c, .slice b m cc] 25)) (w.heap.size + 1) b ps ∧ n ≤ c ∧ m ≤ cc ∧ cs.length = n ∧ ps.length = m) :=
    ⟨by rw [← hs0]; exact (h4.old _).from, by rw [← hs0]; exact (h5.old _).from, h4.cap, h5.cap, h4.len, h5.len⟩
  clear HIM HR0 HO0 HZ0 h4 h5 hm hR1 hO1 hB0 hsz1 hs0
  go_wp2_with fail
  refine (pick_named B q _ _ HX.out.rd (by omega) (by omega) (by omega)).mono ?_
  rintro e w2 ⟨v, rfl, hv, hR2, hO2, hs2⟩
  have HX2 : Hid (BX w w2 B w1.heap.size (q + 1) k d wd hi a n c b m cc) :=
    ⟨hR2, HX.out.only.trans hO2, (hO2.rest _ (lt_of_block HX.out.res) (by omega)).trans HX.out.res, (hO2.rest _ (lt_of_block HX.out.box) (by omega)).trans HX.out.box, hlt⟩
  have HI2 : Hid (IntsFrom w2 (w.heap.size + 1) a cs ∧ IntsFrom w2 (w.heap.size + 1) b ps ∧ n ≤ c ∧ m ≤ cc ∧ cs.length = n ∧ ps.length = m) := by
    obtain ⟨i1, i2, r⟩ := HI.out
    exact ⟨i1.only hO2 (by omega), i2.only hO2 (by omega), r⟩
  clear HX HI hR2 hO2 hs2
  generalize w1.heap.size = X at *
  obtain ⟨⟨z0, z1, z2, z3, z4, z5⟩, y0, y1, y2, y3, y4, y5⟩ := box6 HX2.out.box
  by_cases h0 : v = 0
  · subst h0
    have HSP : Hid (Calls Tryz.prog 41 #[.pointer (some ⟨B, 0, none⟩), .agg #[.int .i64 (k : Int), .int .i64 (d : Int), .int .i64 (wd : Int), .int .i64 (hi : Int), .slice a n c, .slice b m cc]] w2 fun e w' => AnyOut w2.heap.size e w' ∧ (∃ q', q' ≤ q + 1 + 5 ∧ RdAt w' B q') ∧ Only B w2 w') :=
      l14Spoil_any B (q + 1) k d wd hi a n c b m cc cs ps w2 HX2.out.rd (by omega) HI2.out.1.ints HI2.out.2.2.2.2.1 hn HI2.out.2.1.ints HI2.out.2.2.2.2.2 hm1 hm4 ⟨hk1, hk2⟩ hd (by omega) (by omega)
    go_wp2_with fail
    refine HSP.out.mono ?_
    rintro e w3 ⟨⟨k3, d3, wd3, hi3, a3, n3, c3, cs3, b3, m3, cc3, ps3, rfl, i4, l4, l4', k4, i5, l5, l5', k5, bd⟩, ⟨q3, hq3, hR3⟩, hO3⟩
    have hres : w3.heap[w.heap.size]? = some (.cells #[.int .i64 0, .int .i64 0, .int .i64 0, .int .i64 0, .slice none 0 0, .slice none 0 0] 25 (0, 0)) := (hO3.rest _ (lt_of_block HX2.out.res) (by omega)).trans HX2.out.res
    have hsz2 : w.heap.size < w2.heap.size := lt_of_block HX2.out.res
    have HF : Hid (IntsFrom w3 (w.heap.size + 1) a3 cs3 ∧ IntsFrom w3 (w.heap.size + 1) b3 ps3 ∧ RdAt w3 B q3 ∧ Only B w w3) := ⟨i4.lower (by omega), i5.lower (by omega), hR3, HX2.out.only.trans hO3⟩
    have HL : Hid (cs3.length = n3 ∧ n3 ≤ 1000 ∧ n3 ≤ c3 ∧ ps3.length = m3 ∧ m3 ≤ 1000 ∧ m3 ≤ cc3 ∧ q3 ≤ p + 6000 ∧ 0 ≤ k3 ∧ k3 ≤ 100 ∧ 0 ≤ d3 ∧ d3 ≤ 100 ∧ 0 ≤ wd3 ∧ wd3 ≤ 100 ∧ 0 ≤ hi3 ∧ hi3 ≤ 100) := ⟨l4, l4', k4, l5, l5', k5, by omega, bd⟩
    clear HSP i4 i5 hR3 hO3 z0 z1 z2 z3 z4 z5 y0 y1 y2 y3 y4 y5 HX2 HI2 l4 l4' k4 l5 l5' k5 bd hq3
    have hI6 : (Tryz.prog.info? 25).map (·.size) = some (#[Value.int .i64 k3, .int .i64 d3, .int .i64 wd3, .int .i64 hi3, .slice a3 n3 c3, .slice b3 m3 cc3]).size := by kernel_rfl
    have h16 : (#[Value.int .i64 k3, .int .i64 d3, .int .i64 wd3, .int .i64 hi3, .slice a3 n3 c3, .slice b3 m3 cc3]).all (·.oneCell') = true := by simp [Value.oneCell']
    go_wp2_with (refine wpList_store_row rfl 25 (.tmp 2) (.tmp 11) rfl w.heap.size #[.int .i64 k3, .int .i64 d3, .int .i64 wd3, .int .i64 hi3, .slice a3 n3 c3, .slice b3 m3 cc3] rfl rfl 25 #[.int .i64 0, .int .i64 0, .int .i64 0, .int .i64 0, .slice none 0 0, .slice none 0 0] hres hI6 rfl h16 ?_)
    have hs2 := setRow_heap w3 w.heap.size _ #[.int .i64 k3, .int .i64 d3, .int .i64 wd3, .int .i64 hi3, .slice a3 n3 c3, .slice b3 m3 cc3] _ _ hres
    obtain ⟨f1, f2, f3, f4⟩ := HF.out
    obtain ⟨g1, g2, g3, g4, g5, g6, g7, g8⟩ := HL.out
    refine bodyPost_ret_by (results_cell_row (p := 2) (ty := 25) (by kernel_rfl) _ _ w.heap.size 25 _ (0, 0) _ rfl hs2 Tryz.underlying25 rfl (by kernel_rfl)) rfl
      ⟨⟨k3, d3, wd3, hi3, a3, n3, c3, cs3, b3, m3, cc3, ps3, rfl, (f1.row (by omega) _).lower (by omega), g1, g2, g3, (f2.row (by omega) _).lower (by omega), g4, g5, g6, g8⟩, ⟨q3, g7, f3.kept ((below_setRow _ _ _).mono hlt)⟩, f4.grown hlt ((below_setRow _ _ _).mono (Nat.le_refl _))⟩
  · have h0i : ¬ (v : Int) = 0 := by omega
    have hres := HX2.out.res
    have HL : Hid (cs.length = n ∧ n ≤ 1000 ∧ n ≤ c ∧ ps.length = m ∧ m ≤ 1000 ∧ m ≤ cc ∧ q + 1 ≤ p + 6000 ∧ (0 : Int) ≤ k ∧ (k : Int) ≤ 100 ∧ (0 : Int) ≤ d ∧ (d : Int) ≤ 100 ∧ (0 : Int) ≤ wd ∧ (wd : Int) ≤ 100 ∧ (0 : Int) ≤ hi ∧ (hi : Int) ≤ 100) := ⟨HI2.out.2.2.2.2.1, by omega, HI2.out.2.2.1, HI2.out.2.2.2.2.2, by omega, HI2.out.2.2.2.1, by omega, by omega, by omega, by omega, by omega, by omega, by omega, by omega, by omega⟩
    have hI6 : (Tryz.prog.info? 25).map (·.size) = some (#[Value.int .i64 (k : Int), .int .i64 (d : Int), .int .i64 (wd : Int), .int .i64 (hi : Int), .slice a n c, .slice b m cc]).size := by kernel_rfl
    have h16 : (#[Value.int .i64 (k : Int), .int .i64 (d : Int), .int .i64 (wd : Int), .int .i64 (hi : Int), .slice a n c, .slice b m cc]).all (·.oneCell') = true := by simp [Value.oneCell']
    go_wp2_with (refine wpList_store_row rfl 25 (.tmp 2) (.tmp 12) rfl w.heap.size #[.int .i64 (k : Int), .int .i64 (d : Int), .int .i64 (wd : Int), .int .i64 (hi : Int), .slice a n c, .slice b m cc] rfl rfl 25 #[.int .i64 0, .int .i64 0, .int .i64 0, .int .i64 0, .slice none 0 0, .slice none 0 0] hres hI6 rfl h16 ?_)
    have hs2 := setRow_heap w2 w.heap.size _ #[.int .i64 (k : Int), .int .i64 (d : Int), .int .i64 (wd : Int), .int .i64 (hi : Int), .slice a n c, .slice b m cc] _ _ hres
    obtain ⟨f1, f2, _⟩ := HI2.out
    obtain ⟨g1, g2, g3, g4, g5, g6, g7, g8⟩ := HL.out
    refine bodyPost_ret_by (results_cell_row (p := 2) (ty := 25) (by kernel_rfl) _ _ w.heap.size 25 _ (0, 0) _ rfl hs2 Tryz.underlying25 rfl (by kernel_rfl)) rfl
      ⟨⟨k, d, wd, hi, a, n, c, cs, b, m, cc, ps, rfl, (f1.row (by omega) _).lower (by omega), g1, g2, g3, (f2.row (by omega) _).lower (by omega), g4, g5, g6, g8⟩, ⟨q + 1, g7, HX2.out.rd.kept ((below_setRow _ _ _).mono hlt)⟩, HX2.out.only.grown hlt ((below_setRow _ _ _).mono (Nat.le_refl _))⟩
end Go.Proofs.YteldjmocbbbinaaGreatDoor

/- A region that draws its order, told operation by operation, where what holds beside may hang on which have come up. -/
namespace Go.Proofs.YteldjmocbbbinaaGreatDoor
open Go.RowKit

section
variable {P : Program} {ops : Array Oper} {Q : Exit → Act → World → Prop} {md : Region.Mode}
/-- What is to be shown of one operation: wherever it comes up, it answers as R says, and leaves all else as E says. -/
def EachStepM (P : Program) (md : Region.Mode) (ops : Array Oper) (Q : Exit → Act → World → Prop) (R : Nat → Value → World → Prop) (S : Array Bool → World → Prop) (E : World → World → Prop) (a : Act) (m i : Nat) (o : Oper) : Prop :=
  ∀ (vs : Nat → Value) (l : Array Bool) (w : World), S l w → l.getD i false = false → i < l.size → (∀ j, Oper.waits md o j = true → R j (vs j) w) →
    ∀ K : Act → World → Prop, Shut (∀ v w', S (l.setIfInBounds i true) w' → E w w' → R i v w' → K ((puts ops vs a m).put o.dst v) w') → Oper.wp P o (puts ops vs a m) w K Q

def EachFromM (P : Program) (md : Region.Mode) (ops : Array Oper) (Q : Exit → Act → World → Prop) (R : Nat → Value → World → Prop) (S : Array Bool → World → Prop) (E : World → World → Prop) (a : Act) (m k : Nat) : Prop :=
  ∀ i o, k ≤ i → i < m → ops[i]? = some o → EachStepM P md ops Q R S E a m i o

theorem EachFromM.nil {R : Nat → Value → World → Prop} {S : Array Bool → World → Prop} {E : World → World → Prop} {a : Act} {m : Nat} : EachFromM P md ops Q R S E a m m :=
  fun _ _ h h' => absurd h' (Nat.not_lt.2 h)
theorem EachFromM.cons {R : Nat → Value → World → Prop} {S : Array Bool → World → Prop} {E : World → World → Prop} {a : Act} {m k : Nat} {o : Oper} (ho : ops[k]? = some o)
    (h : EachStepM P md ops Q R S E a m k o) (hs : EachFromM P md ops Q R S E a m (k + 1)) : EachFromM P md ops Q R S E a m k := fun i o' h1 h2 h3 => by
  by_cases hk : i = k
  · subst hk; rw [ho] at h3; cases h3; exact h
  · exact hs i o' (by omega) h2 h3

theorem wpAny_eachM {R : Nat → Value → World → Prop} {S : Array Bool → World → Prop} {E : World → World → Prop} {a : Act} {pre : List Nat} {m n : Nat}
    (ht : tidy md ops pre m n = true) (hn : a.tmps.size = n) (hQ : ∀ c (a b : Act) w, a.defers = b.defers → Q (.panic c) b w → Q (.panic c) a w)
    (hE : ∀ j v w w', E w w' → R j v w → R j v w') (hs : EachFromM P md ops Q R S E a m 0)
    (hend : ∀ vs l w, (∀ j, j < m → l.getD j false = true) → S l w → (∀ j, j < m → R j (vs j) w) → wpAny P md ops Q (ops.size - m) (firstM ops.size m) (puts ops vs a m) w) :
    ∀ (fuel : Nat) (listed : Array Bool) (vs : Nat → Value) (w : World), listed.size = ops.size → S listed w →
      (∀ j, j < m → listed.getD j false = true → R j (vs j) w) → (∀ j, m ≤ j → listed.getD j false = false) →
      ((List.range m).filter (fun j => !listed.getD j false)).length + (ops.size - m) = fuel → ClosedL md ops listed → (∀ j ∈ pre, listed.getD j false = true) →
      wpAny P md ops Q fuel listed (putsL ops vs a listed m) w := by
  have hm : m ≤ ops.size := by
    unfold tidy at ht
    rw [Bool.and_eq_true] at ht
    exact Nat.le_of_ble_eq_true ht.1
  have allDone : ∀ (listed : Array Bool) (vs : Nat → Value) (w : World), listed.size = ops.size → S listed w →
      (∀ j, j < m → listed.getD j false = true → R j (vs j) w) → (∀ j, m ≤ j → listed.getD j false = false) →
      (∀ j, j < m → listed.getD j false = true) → wpAny P md ops Q (ops.size - m) listed (putsL ops vs a listed m) w := by
    intro listed vs w h1 h2 h3 h4 h5
    rw [putsL_all _ _ _ _ h5]
    have h5' := h5
    have hz : ∃ l, l = listed := ⟨_, rfl⟩
    obtain ⟨listed0, hz⟩ := hz
    rw [← hz] at h2 h5'
    have : listed = firstM ops.size m := by
      apply Array.ext
      · simp [firstM, h1]
      · intro i hi1 hi2
        simp only [firstM, List.getElem_toArray, List.getElem_map, List.getElem_range]
        by_cases hi : i < m
        · have := h5 i hi
          simp only [Array.getD_eq_getD_getElem?, Array.getElem?_eq_getElem hi1, Option.getD_some] at this
          rw [this]; exact (Nat.ble_eq_true_of_le hi).symm
        · have := h4 i (by omega)
          simp only [Array.getD_eq_getD_getElem?, Array.getElem?_eq_getElem hi1, Option.getD_some] at this
          rw [this]
          cases hb : Nat.blt i m with
          | false => rfl
          | true => exact absurd (Nat.le_of_ble_eq_true hb) (by omega)
    rw [this]
    exact hend vs listed0 w h5' h2 (fun j hj => h3 j hj (h5 j hj))
  intro fuel
  induction fuel with
  | zero =>
    intro listed vs w h1 h2 h3 h4 h5 _ _
    have h6 : ((List.range m).filter (fun j => !listed.getD j false)) = [] := List.eq_nil_of_length_eq_zero (by omega)
    have h7 : ∀ j, j < m → listed.getD j false = true := fun j hj => by
      have := (List.filter_eq_nil_iff.1 h6) j (List.mem_range.2 hj)
      simpa using this
    have h8 : ops.size - m = 0 := by omega
    have := allDone listed vs w h1 h2 h3 h4 h7
    rw [h8] at this
    exact this
  | succ fuel ih =>
    intro listed vs w h1 h2 h3 h4 h5 hcl hpre
    by_cases hall : ((List.range m).filter (fun j => !listed.getD j false)) = []
    · have h7 : ∀ j, j < m → listed.getD j false = true := fun j hj => by
        have := (List.filter_eq_nil_iff.1 hall) j (List.mem_range.2 hj)
        simpa using this
      have h8 : ops.size - m = fuel + 1 := by rw [hall] at h5; simpa using h5
      have := allDone listed vs w h1 h2 h3 h4 h7
      rw [h8] at this
      exact this
    · -- some of the first m have not come up: one of them is the next
      obtain ⟨j0, hj0⟩ := List.exists_mem_of_ne_nil _ hall
      have hj0m : j0 < m := List.mem_range.1 (List.mem_filter.1 hj0).1
      have hj0l : listed.getD j0 false = false := by simpa using (List.mem_filter.1 hj0).2
      have hlt : ∀ i ∈ Region.ready md ops listed, i < m := fun i hi => by
        obtain ⟨hun, o, ho, hw⟩ := mem_ready.1 hi
        rcases Nat.lt_or_ge i m with h | h
        · exact h
        · exfalso
          have ht' := tidy_at ht ho
          unfold tidyAt at ht'
          rw [if_neg (by omega), List.all_eq_true] at ht'
          have := ht' j0 (List.mem_range.2 hj0m)
          rw [Bool.or_eq_true] at this
          have := this.elim (fun h => hpre j0 (by simpa using h)) (fun h => reaches_listed hcl 30 i j0 o ho hw h)
          rw [hj0l] at this
          cases this
      refine ⟨fun h0 => ?_, fun i hi => ?_⟩
      · -- never empty while one is left
        exact absurd (ready_some ht hm h1 h0 j0 hj0m) (by rw [hj0l]; decide)
      · have him := hlt i hi
        obtain ⟨hun, o, ho, hw⟩ := mem_ready.1 hi
        have ht' := tidy_at ht ho
        unfold tidyAt at ht'
        rw [if_pos him] at ht'
        simp only [Bool.and_eq_true] at ht'
        obtain ⟨⟨⟨⟨hg, hns⟩, hedge⟩, hdn⟩, hall2⟩ := ht'
        rw [List.all_eq_true] at hall2
        have hil : i < listed.size := by
          rcases Nat.lt_or_ge i listed.size with h | h
          · exact h
          · exfalso; omega
        have hguard : o.guard = none := by cases hgd : o.guard with | none => rfl | some x => rw [hgd] at hg; cases hg
        have hsel : ∀ cs b, o.op ≠ .select cs b := fun cs b he => by rw [he] at hns; cases hns
        have hbind : (ops[i]?).bind (·.dst) = o.dst := by rw [ho]; rfl
        have hdist : ∀ j, j < m → j ≠ i → ∀ d, (ops[i]?).bind (·.dst) = some d → (ops[j]?).bind (·.dst) ≠ some d := fun j hj hji d hd hd2 => by
          have := hall2 j (List.mem_range.2 hj)
          simp only [hd2, Bool.and_eq_true, Bool.or_eq_true] at this
          rcases this.2 with h | h
          · exact hji (by simpa using h)
          · rw [hbind] at hd; rw [hd] at h; simp at h
        have hsee : ∀ x ∈ o.op.operands, (putsL ops vs a listed m).eval x = (puts ops vs a m).eval x := fun x hx => by
          refine eval_putsL vs a listed x m (fun j d hj hd hxd => ?_)
          have := hall2 j (List.mem_range.2 hj)
          simp only [hd, Bool.and_eq_true, Bool.or_eq_true] at this
          have hlook : d ∈ o.looksAt ops := by
            subst hxd
            exact List.mem_append_left _ (List.mem_filterMap.2 ⟨.tmp d, by simpa using hx, rfl⟩)
          rcases this.1 with h | h
          · exact absurd hlook (by simpa using h)
          · unfold Oper.waits at h
            rw [Array.any_eq_true'] at h
            obtain ⟨e, he, he2⟩ := h
            rw [Bool.and_eq_true] at he2
            have hon : e.on = j := by simpa using he2.1
            have := hw e he he2.2
            rw [hon] at this
            exact this
        refine wpOp_step ho (fun K' hK' => ?_)
        rw [if_pos (by unfold Region.wanted; rw [hguard])]
        refine wp_of_step (b := puts ops vs a m) (C := fun v w' => S (listed.setIfInBounds i true) w' ∧ E w w' ∧ R i v w') (by rw [putsL_defers, puts_defers]) (execOp_congr o hsel hsee) (fun d hd => ?_) hQ (fun K hK => ?_) (fun v w' hC => ?_)
        · rw [hd] at hdn
          rw [puts_size, hn]
          exact Nat.le_of_ble_eq_true hdn
        · refine hs i o (Nat.zero_le _) him ho vs listed w h2 (by simp only [Array.getD_eq_getD_getElem?, Array.getElem?_eq_getElem hil, Option.getD_some] at hun ⊢; exact hun) hil (fun j hj => ?_) K (fun v w' h1 h2 h3 => hK v w' ⟨h1, h2, h3⟩)
          unfold Oper.waits at hj
          rw [Array.any_eq_true'] at hj
          obtain ⟨e, he, he2⟩ := hj
          rw [Bool.and_eq_true] at he2
          have hon : e.on = j := by simpa using he2.1
          have h6 := hw e he he2.2
          rw [Array.all_eq_true'] at hedge
          have h7 := hedge e he
          rw [he2.2] at h7
          have h8 : e.on < i := by
            have h1 : Nat.blt e.on i = true := by simpa using h7
            exact Nat.le_of_ble_eq_true h1
          rw [hon] at h6 h8
          exact h3 j (by omega) h6
        · apply hK'
          have h7 := putsL_set vs a listed i v hil hun m him hdist
          rw [hbind] at h7
          rw [← h7]
          refine ih _ (upd vs i v) w' (by simp [h1]) hC.1 (fun j hj hl => ?_) (fun j hj => ?_) ?_ (fun j o' ho' hl e he hb => ?_) (fun j hj => getD_set_true (hpre j hj))
          · by_cases hji : j = i
            · subst hji
              have : upd vs j v j = v := if_pos rfl
              rw [this]; exact hC.2.2
            · have : upd vs i v j = vs j := if_neg hji
              rw [this]
              rw [getD_set_other hji] at hl
              exact hE _ _ _ _ hC.2.1 (h3 j hj hl)
          · rw [getD_set_other (by omega)]
            exact h4 j hj
          · have hcnt : ((List.range m).filter (fun j => !listed.getD j false)).length = ((List.range m).filter (fun j => !(listed.setIfInBounds i true).getD j false)).length + 1 := by
              refine count_less i hil ?_ m him
              simp only [Array.getD_eq_getD_getElem?, Array.getElem?_eq_getElem hil, Option.getD_some] at hun ⊢
              exact hun
            omega
          · have hold : listed.getD e.on false = true := by
              by_cases hji : j = i
              · subst hji
                rw [ho] at ho'
                cases ho'
                exact hw e he hb
              · rw [getD_set_other hji] at hl
                exact hcl j o' ho' hl e he hb
            exact getD_set_true hold

/-- THE LAW: a region that draws its order; each of its first m operations is walked once, wherever it comes up; behind them the rest. -/
theorem wp_region_eachM {R : Nat → Value → World → Prop} {S : Array Bool → World → Prop} {E : World → World → Prop} {a : Act} {w : World} {id : Nat} (m n : Nat)
    (hm : P.follows .mixedOrders = true) (ht : tidy .any ops [] m n = true) (hn : a.tmps.size = n) (hQ : ∀ c (a b : Act) w, a.defers = b.defers → Q (.panic c) b w → Q (.panic c) a w)
    (hE : ∀ j v w w', E w w' → R j v w → R j v w') (hS : S (Array.replicate ops.size false) w.drew) (hs : EachFromM P .any ops Q R S E a m 0)
    (hend : ∀ vs l w, (∀ j, j < m → l.getD j false = true) → S l w → (∀ j, j < m → R j (vs j) w) → wpAnyH P .any ops Q (fun _ => True) (ops.size - m) (firstM ops.size m) (puts ops vs a m) w) :
    (Code.region id ops true).wp P Q a w := by
  refine wp_region_any hm ?_
  have hnone : ∀ j, (Array.replicate ops.size false).getD j false = false := fun j => by
    rw [Array.getD_eq_getD_getElem?, Array.getElem?_replicate]
    split <;> rfl
  have h := wpAny_eachM (md := .any) ht hn hQ hE hs (fun vs l w h0 h1 h2 => wpAny_of_held _ _ _ _ (hend vs l w h0 h1 h2)) ops.size (Array.replicate ops.size false) (fun _ => undef) w.drew (by simp) hS
    (fun j _ h => by rw [hnone] at h; cases h) (fun j _ => hnone j) ?_ (fun j o _ h => by rw [hnone] at h; cases h) (fun _ h => by cases h)
  · rw [putsL_none _ _ _ _ (fun j _ => hnone j)] at h
    exact h
  · have h1 : m ≤ ops.size := by
      unfold tidy at ht
      rw [Bool.and_eq_true] at ht
      exact Nat.le_of_ble_eq_true ht.1
    have h2 : (List.range m).filter (fun j => !(Array.replicate ops.size false).getD j false) = List.range m := List.filter_eq_self.2 (fun j _ => by rw [hnone]; rfl)
    rw [h2, List.length_range]
    omega

/-- One operation, the state written out. -/
def TellsOpM (P : Program) (Q : Exit → Act → World → Prop) (R : Nat → Value → World → Prop) (S : Array Bool → World → Prop) (E : World → World → Prop) (b : (Nat → Value) → Act) (i : Nat) (o : Oper) : Prop :=
  ∀ (vs : Nat → Value) (l : Array Bool) (w : World), S l w → l.getD i false = false → i < l.size → (∀ j, Oper.waits .any o j = true → R j (vs j) w) →
    ∀ K : Act → World → Prop, Shut (∀ v w', S (l.setIfInBounds i true) w' → E w w' → R i v w' → K ((b vs).put o.dst v) w') → Oper.wp P o (b vs) w K Q
def TellsFromM (P : Program) (ops : Array Oper) (Q : Exit → Act → World → Prop) (R : Nat → Value → World → Prop) (S : Array Bool → World → Prop) (E : World → World → Prop) (b : (Nat → Value) → Act) (m k : Nat) : Prop :=
  ∀ i o, k ≤ i → i < m → ops[i]? = some o → TellsOpM P Q R S E b i o
theorem TellsFromM.nil {R : Nat → Value → World → Prop} {S : Array Bool → World → Prop} {E : World → World → Prop} {b : (Nat → Value) → Act} {m : Nat} : TellsFromM P ops Q R S E b m m :=
  fun _ _ h h' => absurd h' (Nat.not_lt.2 h)
theorem TellsFromM.cons {R : Nat → Value → World → Prop} {S : Array Bool → World → Prop} {E : World → World → Prop} {b : (Nat → Value) → Act} {m k : Nat} {o : Oper} (ho : ops[k]? = some o)
    (h : TellsOpM P Q R S E b k o) (hs : TellsFromM P ops Q R S E b m (k + 1)) : TellsFromM P ops Q R S E b m k := fun i o' h1 h2 h3 => by
  by_cases hk : i = k
  · subst hk; rw [ho] at h3; cases h3; exact h
  · exact hs i o' (by omega) h2 h3
/-- THE LAW, the state written out. -/
theorem wp_region_toldM {R : Nat → Value → World → Prop} {S : Array Bool → World → Prop} {E : World → World → Prop} {a : Act} {w : World} {id : Nat} (m n : Nat) {b : (Nat → Value) → Act}
    (hm : P.follows .mixedOrders = true) (ht : tidy .any ops [] m n = true) (hn : a.tmps.size = n) (hQ : ∀ c (a b : Act) w, a.defers = b.defers → Q (.panic c) b w → Q (.panic c) a w)
    (hE : ∀ j v w w', E w w' → R j v w → R j v w') (hb : ∀ vs, puts ops vs a m = b vs) (hS : S (Array.replicate ops.size false) w.drew) (hs : TellsFromM P ops Q R S E b m 0)
    (hend : ∀ vs l w, (∀ j, j < m → l.getD j false = true) → S l w → (∀ j, j < m → R j (vs j) w) → wpAnyH P .any ops Q (fun _ => True) (ops.size - m) (firstM ops.size m) (b vs) w) :
    (Code.region id ops true).wp P Q a w := by
  refine wp_region_eachM (R := R) (S := S) (E := E) m n hm ht hn hQ hE hS ?_ ?_
  · intro i o h1 h2 h3 vs l w' h4 h5 h6 h7 K hK
    rw [hb vs] at hK ⊢
    exact hs i o h1 h2 h3 vs l w' h4 h5 h6 h7 K hK
  · intro vs l w' h0 h1 h2
    rw [hb vs]
    exact hend vs l w' h0 h1 h2
end
end Go.Proofs.YteldjmocbbbinaaGreatDoor

/- For pictures drawn with places: the box of a picture beside the reader. -/
namespace Go.Proofs.YteldjmocbbbinaaGreatDoor
open Go.RowKit

/-- the box of a picture, a result's box, beside the reader -/
structure KX (w wc : World) (B R X lo q : Nat) (k d wd hi : Int) (a : Option Addr) (n c : Nat) (cs : List Int) (b : Option Addr) (m cc : Nat) (ps : List Int) : Prop where
  rd : RdAt wc B q
  res : wc.heap[R]? = some (.cells #[.int .i64 0, .int .i64 0, .int .i64 0, .int .i64 0, .slice none 0 0, .slice none 0 0] 25 (0, 0))
  box : wc.heap[X]? = some (.cells #[.int .i64 k, .int .i64 d, .int .i64 wd, .int .i64 hi, .slice a n c, .slice b m cc] 25 (0, 0))
  i4 : IntsFrom wc lo a cs
  i5 : IntsFrom wc lo b ps
  bel : Below w.heap.size w wc
  hR : R ≠ B
  hX : X ≠ B
  hlo : B < lo
  hRlo : R < lo
  hB : w.heap.size ≤ B
theorem KX.pick {w wc w' : World} {B R X lo q n c m cc : Nat} {k d wd hi : Int} {a b : Option Addr} {cs ps : List Int} (h : KX w wc B R X lo q k d wd hi a n c cs b m cc ps) (hr : RdAt w' B (q + 1)) (ho : Only B wc w') : KX w w' B R X lo (q + 1) k d wd hi a n c cs b m cc ps :=
  { h with rd := hr, res := (ho.rest _ (lt_of_block h.res) h.hR).trans h.res, box := (ho.rest _ (lt_of_block h.box) h.hX).trans h.box, i4 := h.i4.only ho h.hlo, i5 := h.i5.only ho h.hlo, bel := h.bel.trans (ho.below.mono h.hB) }
theorem KX.drew {w wc : World} {B R X lo q n c m cc : Nat} {k d wd hi : Int} {a b : Option Addr} {cs ps : List Int} (h : KX w wc B R X lo q k d wd hi a n c cs b m cc ps) : KX w wc.drew B R X lo q k d wd hi a n c cs b m cc ps :=
  { h with rd := h.rd.drew, res := h.res, box := h.box, i4 := h.i4, i5 := h.i5, bel := h.bel.drew }

theorem IntsFrom.old {w : World} {lo : Nat} {a : Option Addr} {zs : List Int} (h : IntsFrom w lo a zs) (o : Obj) : IntsFrom (w.alloc o) lo a zs := by
  rcases h with e | ⟨b, off, rfl, h1, h2, h3⟩
  · exact .inl e
  · exact .inr ⟨b, off, rfl, h1, by simp; omega, fun i hi => by rw [World.cell?_alloc_past _ _ _ h2]; exact h3 i hi⟩
/-- the picture's box behind the store into the result's -/
theorem row_keeps {w wc : World} {B R X lo q n c m cc : Nat} {k d wd hi : Int} {a b : Option Addr} {cs ps : List Int} (h : KX w wc B R X lo q k d wd hi a n c cs b m cc ps) (hRX : R ≠ X) (new : Array Value) :
    (wc.setRow R new).cell? ⟨X, 0, none⟩ = some (.int .i64 k) ∧ (wc.setRow R new).cell? ⟨X, 1, none⟩ = some (.int .i64 d) ∧ (wc.setRow R new).cell? ⟨X, 2, none⟩ = some (.int .i64 wd) ∧ (wc.setRow R new).cell? ⟨X, 3, none⟩ = some (.int .i64 hi) ∧ (wc.setRow R new).cell? ⟨X, 4, none⟩ = some (.slice a n c) ∧ (wc.setRow R new).cell? ⟨X, 5, none⟩ = some (.slice b m cc) :=
  (box6 ((setRow_other wc R X new (fun e => hRX e.symm)).trans h.box)).1

end Go.Proofs.YteldjmocbbbinaaGreatDoor
