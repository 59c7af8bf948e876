/- ChunksGet of the program. -/
import Derived.Test.YtgbcjkpmiceddaaCgWork
namespace Go.Proofs.Ytgbcjkpmiceddaa
open Go.RowKit Go.Shelf

/-- how ChunksGet ends: the list that it answers is its own -/
def CgAns (w : World) (s : ByteArray) (e : Ending) (w' : World) : Prop :=
  ∃ ao cap, e = .returned (.tuple #[.slice ao (Cg.ansL s).length cap, .bool (Cg.ansB s)]) ∧ OwnC w' w.heap.size (.slice ao (Cg.ansL s).length cap) (Cg.ansL s).length (Cg.ansL s) ∧ Below w.heap.size w w'
theorem cgAns_no {w w' : World} {s : ByteArray} {e : Ending} (h : Cg.ans s = none) (h1 : e = .returned (.tuple #[.slice none 0 0, .bool false])) (h2 : Below w.heap.size w w') : CgAns w s e w' := by
  have h3 : Cg.ansL s = [] := by unfold Cg.ansL; rw [h]; rfl
  have h4 : Cg.ansB s = false := by unfold Cg.ansB; rw [h]; rfl
  unfold CgAns
  rw [h3, h4]
  exact ⟨none, 0, h1, World.ownsRow_nil _ _ _ _, h2⟩
theorem cgAns_yes {w w' : World} {s : ByteArray} {e : Ending} {ao : Option Addr} {n cap : Nat} (l : List (ByteArray × ByteArray)) (h : Cg.ans s = some l) (h1 : e = .returned (.tuple #[.slice ao n cap, .bool true])) (h3 : OwnC w' w.heap.size (.slice ao n cap) n l) (h2 : Below w.heap.size w w') : CgAns w s e w' := by
  have h4 : Cg.ansL s = l := by unfold Cg.ansL; rw [h]; rfl
  have h5 : Cg.ansB s = true := by unfold Cg.ansB; rw [h]; rfl
  have hn := h3.len
  subst hn
  unfold CgAns
  rw [h4, h5]
  exact ⟨ao, cap, h1, h3, h2⟩
theorem OwnC.base {w : World} {B B' n : Nat} {v : Value} {l : List (ByteArray × ByteArray)} (h : OwnC w B v n l) (hb : B' ≤ B) : OwnC w B' v n l := by
  refine ⟨h.1, ?_⟩
  rcases h.2 with h2 | ⟨g, cap, cur, hv, hg, r⟩
  · exact .inl h2
  · exact .inr ⟨g, cap, cur, hv, Nat.le_trans hb hg, r⟩
theorem OwnC.shape {w : World} {B n : Nat} {v : Value} {l : List (ByteArray × ByteArray)} (h : OwnC w B v n l) : ∃ ao cap, v = .slice ao n cap := by
  rcases h.2 with ⟨rfl, h0⟩ | ⟨g, cap, cur, rfl, _⟩
  · exact ⟨none, 0, by rw [h0]⟩
  · exact ⟨_, _, rfl⟩

/-- the work was done -/
def CwYes (w : World) (s : ByteArray) (w' : World) : Prop :=
  (∃ l, Cg.ans s = some l ∧ ∃ v, Boxed w' (w.heap.size + 2) 24 v ∧ OwnC w' (w.heap.size + 4) v l.length l) ∧ Below w.heap.size w w'
/-- it broke off -/
def CwNo (w : World) (s : ByteArray) (c : Int) (w' : World) : Prop := c ≠ 0 ∧ Cg.ans s = none ∧ Below w.heap.size w w'
theorem cg_up {w w' : World} {k : Nat} {T : TypeId} {v : Value} (h : Boxed w k T v) (b : Below w.heap.size w w') : Boxed w' k T v := (b.block k (cg_lt h)).trans h
theorem trio2 (w : World) (a b c : Obj) : (((w.alloc a).alloc b).alloc c).heap[w.heap.size + 2]? = some c := by
  have := World.alloc_heap_new ((w.alloc a).alloc b) c; simpa using this
theorem trio1 (w : World) (a b c : Obj) : (((w.alloc a).alloc b).alloc c).heap[w.heap.size + 1]? = some b :=
  (Below.heap_alloc _ _ _ (by simp)).trans (by have := World.alloc_heap_new (w.alloc a) b; simpa using this)
theorem trio0 (w : World) (a b c : Obj) : (((w.alloc a).alloc b).alloc c).heap[w.heap.size]? = some a :=
  (Below.heap_alloc _ _ _ (by simp <;> omega)).trans ((Below.heap_alloc _ _ _ (by simp)).trans (World.alloc_heap_new w a))

set_option maxHeartbeats 4000000 in
set_option maxRecDepth 20000 in
theorem impl_chunksGet (s : ByteArray) (w : World) (hs : s.size ≤ 3000000) :
    Calls Try.prog 6 #[.string s] w (CgAns w s) := by
  by_cases h0 : (s.size : Int) > 9000
  · have d0 : decide ((s.size : Int) > 9000) = true := decide_eq_true h0
    have HF : Hid (Cg.ans s = none) := Cg.ans_no fun h => by have := h.1; omega
    go_enter Try.func6, Try.ntmps6
    go_wp2_with fail
    refine bodyPost_ret (v := .tuple #[.slice none 0 0, .bool false]) (by simp [results, Try.results6, go_sem]) rfl (cgAns_no HF.out rfl (Below.refl _ _))
  · have d0 : decide ((s.size : Int) > 9000) = false := decide_eq_false h0
    have hsz : s.size ≤ 9000 := by omega
    obtain ⟨W4, hW4⟩ : ∃ W4, W4 = (((w.alloc (.cells #[.string s, .int .i64 0] 40)).alloc (.cells #[.pointer (some ⟨w.heap.size, 0, none⟩)] 36)).alloc (.cells #[.slice none 0 0] 24)) := ⟨_, rfl⟩
    have hs4 : W4.heap.size = w.heap.size + 3 := by rw [hW4]; simp
    have HB4 : Hid (Below w.heap.size w W4) := by
      rw [hW4]
      exact (((Below.refl _ _).alloc (Nat.le_refl _) _).alloc (by simp) _).alloc (by simp <;> omega) _
    have HX : Hid (Cc W4 w.heap.size s 0 ∧ Boxed W4 (w.heap.size + 1) 36 (.pointer (some ⟨w.heap.size, 0, none⟩)) ∧ Boxed W4 (w.heap.size + 2) 24 (.slice none 0 0)) := by
      rw [hW4]
      exact ⟨trio0 .., trio1 .., trio2 ..⟩
    have HWK : Hid (Calls Try.prog 18 #[.pointer (some ⟨w.heap.size + 1, 0, none⟩), .pointer (some ⟨w.heap.size + 2, 0, none⟩)] (W4.alloc (.cells #[.int .i64 0] 3)) fun e w' => Boxed w' W4.heap.size 3 (.int .i64 0) ∧ ((∃ v, e = .returned v) ∧ CwYes w s w' ∨ ∃ c, e = fault c ∧ CwNo w s c w')) := by
      obtain ⟨x0, x1, x2⟩ := HX.out
      have ba : Below W4.heap.size W4 (W4.alloc (.cells #[.int .i64 0] 3)) := (Below.refl _ _).alloc (Nat.le_refl _) _
      have hsa : (W4.alloc (.cells #[.int .i64 0] 3)).heap.size = w.heap.size + 4 := by rw [World.size_alloc, hs4]
      have hwa : Below w.heap.size w (W4.alloc (.cells #[.int .i64 0] 3)) := HB4.out.trans (ba.mono HB4.out.size)
      refine (cgWork_any (w.heap.size + 1) (w.heap.size + 2) w.heap.size s _ (cg_up x1 ba) (cg_up x2 ba) (x0.kept ba) hsz (by omega) (by omega) (by omega)).mono ?_
      rintro e w' ⟨ho, h⟩
      rw [hsa] at ho h
      have hbel : Below w.heap.size w w' := hwa.trans (ho.below (by omega) (by omega) (by omega))
      refine ⟨ho.boxC (Boxed.new W4 3 (.int .i64 0)) (by omega) (by omega) (by omega), ?_⟩
      rcases h with ⟨hv, l, g1, v, g2, g3⟩ | ⟨c, g1, g2, g3⟩
      · exact .inl ⟨⟨_, hv⟩, ⟨l, g1, v, g2, g3⟩, hbel⟩
      · exact .inr ⟨c, g1, g2, g3, hbel⟩
    have HFI : Hid (Calls Try.prog 17 #[.func (.func 18) #[] #[.pointer (some ⟨w.heap.size + 1, 0, none⟩), .pointer (some ⟨w.heap.size + 2, 0, none⟩)]] W4 (FaultOut W4 (CwYes w s) (CwNo w s))) :=
      faultIn_any 18 _ (enters_of Try.func18 (by kernel_rfl) rfl) _ _ W4 HWK.out
    clear HWK HX
    have hmf : ∀ (fn : Fn) (first cap : Array Value) (w : World), (Instr.makeFunc fn first cap).run Try.prog w = .ok (.func fn first cap) w := fun _ _ _ _ => rfl
    have hW4' : (((w.alloc (.cells #[.string s, .int .i64 0] 40)).alloc (.cells #[.pointer (some ⟨w.heap.size, 0, none⟩)] 36)).alloc (.cells #[.slice none 0 0] 24)) = W4 := hW4.symm
    clear hW4
    go_enter Try.func6, Try.ntmps6
    go_wp2_with fail
    refine HFI.out.mono ?_
    rintro e w7 ⟨w6, hb6, (⟨rfl, ⟨⟨l, g1, v, g2, g3⟩, g5⟩, ht⟩ | ⟨c, rfl, ⟨hc0, hno, g5⟩, ht⟩)⟩
    · have HANS : Hid (Cg.ans s = some l) := g1
      have hne : ∀ k, k < w.heap.size + 3 → k ≠ W4.heap.size := fun k hk => by omega
      have hb7 : Boxed w7 (w.heap.size + 2) 24 v := by rw [ht]; exact (Below.heap_setCell w6 ⟨W4.heap.size, 0, none⟩ _ _ (hne _ (by omega))).trans g2
      have hw7 : OwnC w7 w.heap.size v l.length l := by
        rw [ht]
        exact (g3.same (fun k hk hb => Below.heap_setCell w6 ⟨W4.heap.size, 0, none⟩ _ k (fun e => by have e2 : k = W4.heap.size := e; omega))).base (by omega)
      obtain ⟨ao, cap, rfl⟩ := hw7.shape
      have HF : Hid (OwnC w7 w.heap.size (.slice ao l.length cap) l.length l ∧ Below w.heap.size w w7) := ⟨hw7, by show Below _ _ _; rw [ht]; exact g5.setCell (by show w.heap.size ≤ W4.heap.size; omega) _⟩
      have k1 := hb7.cell
      clear hb7 hw7 g1 g2 g3 g5 ht hb6 HFI HB4
      go_wp2_with fail
      refine bodyPost_ret (v := .tuple #[.slice ao l.length cap, .bool true]) (by simp [results, Try.results6, go_sem]) rfl (cgAns_yes l HANS.out rfl HF.out.1 HF.out.2)
    · have HANS : Hid (Cg.ans s = none) := hno
      have HF : Hid (Below w.heap.size w w7) := by show Below _ _ _; rw [ht]; exact g5.setCell (by show w.heap.size ≤ W4.heap.size; omega) _
      have hcb : (c != 0) = true := by rw [bne_iff_ne]; exact hc0
      clear hno g5 ht hb6 HFI HB4
      go_wp2_with fail
      refine bodyPost_ret (v := .tuple #[.slice none 0 0, .bool false]) (by simp [results, Try.results6, go_sem]) rfl (cgAns_no HANS.out rfl HF.out)
end Go.Proofs.Ytgbcjkpmiceddaa
