/- What stands at a place of a text. -/
import Derived.Test.YtmfnepibhhhdcaaTyBack
import Derived.Test.YtmfnepibhhhdcaaTyAdd
import Derived.Test.YtmfnepibhhhdcaaTyThree
import Derived.Test.YtmfnepibhhhdcaaTyBox
namespace Go.Proofs.Ytmfnepibhhhdcaa
open Go.RowKit Go.Shelf Go.Maps

attribute [local go_sem] Oper.semAt_some

def tkV (p : Tk) : Value := .agg #[.int .i64 p.1, .int .i64 p.2.1, .int .i64 p.2.2]
/-- the best one so far -/
def bestOf (s : ByteArray) (A : Nat) (pre : List (BkS A)) : Nat × Nat := (pre.map (fun x => x.1.2)).foldl (Ty.upd s A) (0, 0)
theorem bestOf_snoc (s : ByteArray) (A : Nat) (pre : List (BkS A)) (x : BkS A) : bestOf s A (pre ++ [x]) = Ty.upd s A (bestOf s A pre) x.1.2 := by unfold bestOf; rw [List.map_append, List.foldl_append]; rfl
def TokEnd (s : ByteArray) (A : Nat) (w : World) (e : Ending) (w' : World) : Prop := e = .returned (tkV (Ty.tok s A)) ∧ Below w.heap.size w w'

set_option maxRecDepth 100000 in
set_option maxHeartbeats 4000000 in
theorem token_no (s : ByteArray) (B A : Nat) (w : World) (hs : s.size ≤ 9001) (hA : A < s.size) (h3 : ¬ A + 3 ≤ s.size) :
    Calls Try.prog 85 #[.map (some B), .string s, .int .i64 (A : Int)] w (TokEnd s A w) := by
  have hro : Fence.wide.round = none := rfl
  have HT : Hid (∀ w, Calls Try.prog 113 #[.string s, .int .i64 (A : Int)] w (ThreeEnd (.agg #[.int .u8 0, .int .u8 0, .int .u8 0]) false w)) := fun w => threeAt_no s A w hs (by omega) h3
  have hAi : (A : Int) < (s.size : Int) := by omega
  have hT : Ty.tok s A = ((s[A].toNat : Int), 0, 0) := by
    unfold Ty.tok
    rw [if_neg (Ty.bst_short h3 A (Nat.le_refl _) (by omega)), Ty.b_at hA]
  obtain ⟨c, hc⟩ : ∃ c : Nat, s[A].toNat = c := ⟨_, rfl⟩
  have hcb : c < 256 := by rw [← hc]; exact UInt8.toNat_lt _
  have HF : Hid (∀ w', Below w.heap.size w w' → TokEnd s A w (.returned (.agg #[.int .i64 (c : Int), .int .i64 0, .int .i64 0])) w') := fun w' hb => by
    rw [hc] at hT
    exact ⟨by rw [hT]; rfl, hb⟩
  clear hT
  refine (callsIn_wide (n := 3)).1 (callsIn_of_wp_marks Try.func85 rfl trivial ?_ hro)
  simp only [Try.ntmps85, List.size_toArray, List.length_cons, List.length_nil, Nat.reduceAdd, Nat.reduceSub, Array.replicate_succ, Array.replicate_zero, List.push_toArray, List.append_toArray, List.nil_append, List.cons_append]
  gi_wp2
  refine ⟨trivial, ?_⟩
  gi_wp2
  refine (callsIn_wide.2 (HT.out _)).mono ?_
  rintro e w1 ⟨rfl, b1⟩
  have hs1 : w.heap.size + 3 ≤ w1.heap.size := Nat.le_trans (by simp) b1.size
  obtain ⟨w2, hw2⟩ : ∃ w2, w2 = w1.alloc (.cells #[.int .u8 0, .int .u8 0, .int .u8 0] 139) := ⟨_, rfl⟩
  have b2 : Below (w.heap.size + 3) (((w.alloc (.cells #[.string s] 9)).alloc (.cells #[.int .i64 (A : Int)] 3)).alloc (.cells #[.int .i64 0, .int .i64 0, .int .i64 0] 39)) w2 := by rw [hw2]; exact (b1.mono (by simp)).alloc hs1 _
  have ct : w2.cell? ⟨w.heap.size, 0, none⟩ = some (.string s) := (b2.cell (p := ⟨w.heap.size, 0, none⟩) (by show w.heap.size < _; omega)).trans (by simp [go_sem])
  have ca : w2.cell? ⟨w.heap.size + 1, 0, none⟩ = some (.int .i64 (A : Int)) := (b2.cell (p := ⟨w.heap.size + 1, 0, none⟩) (by show w.heap.size + 1 < _; omega)).trans (by simp [go_sem])
  have hr : w2.heap[w.heap.size + 2]? = some (.cells #[.int .i64 0, .int .i64 0, .int .i64 0] 39 (0, 0)) := (b2.block _ (by omega)).trans (by
    have := heap_alloc_new ((w.alloc (.cells #[.string s] 9)).alloc (.cells #[.int .i64 (A : Int)] 3)) (.cells #[.int .i64 0, .int .i64 0, .int .i64 0] 39); simpa [World.size_alloc] using this)
  have bb2 : Below w.heap.size w w2 := ((((Below.refl _ w).alloc (Nat.le_refl _) _).alloc (by simp) _).alloc (by simp; omega) _).trans (b2.mono (by omega))
  have hr3 : w2.heap[w.heap.size + 1 + 1]? = some (.cells #[.int .i64 0, .int .i64 0, .int .i64 0] 39 (0, 0)) := hr
  obtain ⟨⟨r0, r1, r2⟩, f0, f1, f2⟩ := box3 hr3
  have hR := three_row hr3 (.int .i64 (c : Int)) (.int .i64 0) (.int .i64 0)
  have HB : Hid (Below w.heap.size w (w2.setRow (w.heap.size + 1 + 1) #[.int .i64 (c : Int), .int .i64 0, .int .i64 0])) := ty_below_setRow bb2 (by omega) hr3 _
  have hq := setRow_heap _ _ _ #[.int .i64 (c : Int), .int .i64 0, .int .i64 0] _ _ hr3
  rw [hw2] at ct ca r0 r1 r2 f0 f1 f2
  clear hr3 hr b2 b1 bb2
  gi_wp2
  rw [← hw2, hR]
  exact ⟨_, by simp [results, Try.results85, go_sem, World.cell?, hq], HF.out _ HB.out⟩
end Go.Proofs.Ytmfnepibhhhdcaa
