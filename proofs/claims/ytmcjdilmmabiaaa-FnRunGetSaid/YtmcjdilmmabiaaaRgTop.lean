/- RunGet of the program. -/
import Derived.Test.YtmcjdilmmabiaaaRgWork
import Derived.Shelf.Abstract
namespace Go.Proofs.Ytmcjdilmmabiaaa
open Go.RowKit Go.Shelf

def Rg.Valid (s : ByteArray) (at_ sz ct : Int) : Prop := 1 ≤ sz ∧ sz ≤ 4 ∧ 0 ≤ ct ∧ ct ≤ 1000 ∧ 0 ≤ at_ ∧ at_ ≤ (s.size : Int) ∧ s.size ≤ 9000
instance (s : ByteArray) (at_ sz ct : Int) : Decidable (Rg.Valid s at_ sz ct) := by unfold Rg.Valid; infer_instance
/-- what RunGet answers -/
def Rg.res (s : ByteArray) (at_ sz ct : Int) : Option (List Int × Nat) := if Rg.Valid s at_ sz ct then Rg.get s sz.toNat at_.toNat ct.toNat else none
def Rg.ansL (s : ByteArray) (at_ sz ct : Int) : List Int := (Rg.res s at_ sz ct).elim [] (·.1)
def Rg.ansE (s : ByteArray) (at_ sz ct : Int) : Int := (Rg.res s at_ sz ct).elim 0 (fun r => (r.2 : Int))
def Rg.ansB (s : ByteArray) (at_ sz ct : Int) : Bool := (Rg.res s at_ sz ct).isSome
theorem Rg.ans_some {s : ByteArray} {at_ sz ct : Int} {l : List Int} {E : Nat} (h : Rg.res s at_ sz ct = some (l, E)) : Rg.ansL s at_ sz ct = l ∧ Rg.ansE s at_ sz ct = (E : Int) ∧ Rg.ansB s at_ sz ct = true := by
  unfold Rg.ansL Rg.ansE Rg.ansB; rw [h]; exact ⟨rfl, rfl, rfl⟩
theorem Rg.ans_none {s : ByteArray} {at_ sz ct : Int} (h : Rg.res s at_ sz ct = none) : Rg.ansL s at_ sz ct = [] ∧ Rg.ansE s at_ sz ct = 0 ∧ Rg.ansB s at_ sz ct = false := by
  unfold Rg.ansL Rg.ansE Rg.ansB; rw [h]; exact ⟨rfl, rfl, rfl⟩
theorem Rg.res_bad {s : ByteArray} {at_ sz ct : Int} (h : ¬ Rg.Valid s at_ sz ct) : Rg.ansL s at_ sz ct = [] ∧ Rg.ansE s at_ sz ct = 0 ∧ Rg.ansB s at_ sz ct = false := Rg.ans_none (if_neg h)
theorem Rg.res_ok {s : ByteArray} {at_ sz ct : Int} (h : Rg.Valid s at_ sz ct) : Rg.res s at_ sz ct = Rg.get s sz.toNat at_.toNat ct.toNat := if_pos h

/-- the work was done -/
def RgYes (w : World) (s : ByteArray) (S A N : Nat) (w' : World) : Prop :=
  ∃ l E v, Rg.get s S A N = some (l, E) ∧ Boxed w' (w.heap.size + 4) 30 v ∧ OwnI w' (w.heap.size + 6) v N l ∧ Br w' (w.heap.size + 2) s E ∧ Boxed w' (w.heap.size + 3) 52 (.pointer (some ⟨w.heap.size + 2, 0, none⟩)) ∧ Below w.heap.size w w'
/-- it broke off -/
def RgNo (w : World) (s : ByteArray) (S A N : Nat) (c : Int) (w' : World) : Prop := c ≠ 0 ∧ Rg.get s S A N = none ∧ Below w.heap.size w w'

/-- how RunGet of the program ends -/
def RgOwn (w : World) (s : ByteArray) (at_ sz ct : Int) (e : Ending) (w' : World) : Prop :=
  (∃ ao cap, e = .returned (.tuple #[.slice ao (Rg.ansL s at_ sz ct).length cap, .int .i64 (Rg.ansE s at_ sz ct), .bool (Rg.ansB s at_ sz ct)]) ∧ Owns w' w.heap.size ao (Rg.ansL s at_ sz ct) ∧ (Rg.ansL s at_ sz ct).length ≤ cap) ∧ Below w.heap.size w w'
theorem rgOwn_mk {w w' : World} {s : ByteArray} {at_ sz ct : Int} {e : Ending} (ao : Option Addr) (cap : Nat) (h1 : e = .returned (.tuple #[.slice ao (Rg.ansL s at_ sz ct).length cap, .int .i64 (Rg.ansE s at_ sz ct), .bool (Rg.ansB s at_ sz ct)])) (h2 : Owns w' w.heap.size ao (Rg.ansL s at_ sz ct)) (h4 : (Rg.ansL s at_ sz ct).length ≤ cap) (h3 : Below w.heap.size w w') : RgOwn w s at_ sz ct e w' := ⟨⟨ao, cap, h1, h2, h4⟩, h3⟩

theorem box_up {w w' : World} {k : Nat} {T : TypeId} {v : Value} (h : Boxed w k T v) (b : Below w.heap.size w w') : Boxed w' k T v := (b.block k (lt_heap h)).trans h
theorem drewN_up (w : World) (n : Nat) : Below w.heap.size w (w.drewN n) := ⟨rfl, rfl, rfl, Nat.le_refl _, fun _ _ => rfl⟩
theorem five4 (w : World) (a b c d e : Obj) : (((((w.alloc a).alloc b).alloc c).alloc d).alloc e).heap[w.heap.size + 4]? = some e := by
  have := World.alloc_heap_new ((((w.alloc a).alloc b).alloc c).alloc d) e; simpa using this
theorem five3 (w : World) (a b c d e : Obj) : (((((w.alloc a).alloc b).alloc c).alloc d).alloc e).heap[w.heap.size + 3]? = some d :=
  (Below.heap_alloc _ _ _ (by simp)).trans (by have := World.alloc_heap_new (((w.alloc a).alloc b).alloc c) d; simpa using this)
theorem five2 (w : World) (a b c d e : Obj) : (((((w.alloc a).alloc b).alloc c).alloc d).alloc e).heap[w.heap.size + 2]? = some c :=
  (Below.heap_alloc _ _ _ (by simp <;> omega)).trans ((Below.heap_alloc _ _ _ (by simp)).trans (by have := World.alloc_heap_new ((w.alloc a).alloc b) c; simpa using this))
theorem five1 (w : World) (a b c d e : Obj) : (((((w.alloc a).alloc b).alloc c).alloc d).alloc e).heap[w.heap.size + 1]? = some b :=
  (Below.heap_alloc _ _ _ (by simp <;> omega)).trans ((Below.heap_alloc _ _ _ (by simp <;> omega)).trans ((Below.heap_alloc _ _ _ (by simp)).trans (by have := World.alloc_heap_new (w.alloc a) b; simpa using this)))
theorem five0 (w : World) (a b c d e : Obj) : (((((w.alloc a).alloc b).alloc c).alloc d).alloc e).heap[w.heap.size]? = some a :=
  (Below.heap_alloc _ _ _ (by simp <;> omega)).trans ((Below.heap_alloc _ _ _ (by simp <;> omega)).trans ((Below.heap_alloc _ _ _ (by simp <;> omega)).trans ((Below.heap_alloc _ _ _ (by simp)).trans (World.alloc_heap_new w a))))
theorem own_cap {w : World} {lo n c : Nat} {a : Option Addr} {zs : List Int} (h : OwnI w lo (.slice a n c) n zs) : n ≤ c := by
  rcases h.2 with ⟨e, h0⟩ | ⟨g, cap', cur, e, _, _, h1, _⟩
  · cases e; omega
  · cases e; exact h1
theorem own_down {w : World} {lo lo' : Nat} {a : Option Addr} {l : List Int} (h : Owns w lo a l) (hl : lo' ≤ lo) : Owns w lo' a l := by
  rcases h with e | ⟨b, rfl, hb, h2, h3⟩
  · exact .inl e
  · exact .inr ⟨b, rfl, Nat.le_trans hl hb, h2, h3⟩
theorem Owns.off_set {w : World} {lo k i : Nat} {a : Option Addr} {l : List Int} {v : Value} (h : Owns w lo a l) (hk : k < lo) : Owns (w.setCell ⟨k, i, none⟩ v) lo a l := by
  rcases h with e | ⟨b, rfl, h1, h2, h3⟩
  · exact .inl e
  · have hh := Below.heap_setCell w ⟨k, i, none⟩ v b (by show b ≠ k; omega)
    exact .inr ⟨b, rfl, h1, by simpa using h2, fun j hj => ⟨(World.cell?_of_block (w := w) (a := ⟨b, j, none⟩) hh).trans (h3 j hj).1, (World.frozen?_of_block (w := w) (a := ⟨b, j, none⟩) hh).trans (h3 j hj).2⟩⟩
set_option maxHeartbeats 4000000 in
set_option maxRecDepth 20000 in
theorem impl_runGet (s : ByteArray) (at_ sz ct : Int) (w : World) (hs : s.size ≤ 1048576) :
    Calls Try.prog 16 #[.string s, .int .i64 at_, .int .i64 sz, .int .i64 ct] w (RgOwn w s at_ sz ct) := by
  by_cases h0 : sz < 1
  · have d0 : decide (sz < 1) = true := decide_eq_true h0
    have hbad : ¬ Rg.Valid s at_ sz ct := fun h => by unfold Rg.Valid at h; omega
    obtain ⟨rL, rE, rB⟩ := Rg.res_bad hbad
    have HF : Hid (Rg.ansL s at_ sz ct = [] ∧ Rg.ansE s at_ sz ct = 0 ∧ Rg.ansB s at_ sz ct = false) := ⟨rL, rE, rB⟩
    clear hbad rL rE rB
    go_enter Try.func16, Try.ntmps16
    go_wp2_with fail
    refine bodyPost_ret (v := .tuple #[.slice none 0 0, .int .i64 0, .bool false]) (by simp [results, Try.results16, go_sem]) rfl (rgOwn_mk none 0 (by rw [HF.out.1, HF.out.2.1, HF.out.2.2]; rfl) (.inl HF.out.1) (by rw [HF.out.1]; exact Nat.le_refl _) ?_)
    exact ((Below.refl _ _).alloc (Nat.le_refl _) _).alloc (by simp) _
  · have d0 : decide (sz < 1) = false := decide_eq_false h0
    by_cases h1 : sz > 4
    · have d1 : decide (sz > 4) = true := decide_eq_true h1
      have hbad : ¬ Rg.Valid s at_ sz ct := fun h => by unfold Rg.Valid at h; omega
      obtain ⟨rL, rE, rB⟩ := Rg.res_bad hbad
      have HF : Hid (Rg.ansL s at_ sz ct = [] ∧ Rg.ansE s at_ sz ct = 0 ∧ Rg.ansB s at_ sz ct = false) := ⟨rL, rE, rB⟩
      clear hbad rL rE rB
      go_enter Try.func16, Try.ntmps16
      go_wp2_with fail
      refine bodyPost_ret (v := .tuple #[.slice none 0 0, .int .i64 0, .bool false]) (by simp [results, Try.results16, go_sem]) rfl (rgOwn_mk none 0 (by rw [HF.out.1, HF.out.2.1, HF.out.2.2]; rfl) (.inl HF.out.1) (by rw [HF.out.1]; exact Nat.le_refl _) ?_)
      exact ((Below.refl _ _).alloc (Nat.le_refl _) _).alloc (by simp) _
    · have d1 : decide (sz > 4) = false := decide_eq_false h1
      by_cases h2 : ct < 0
      · have d2 : decide (ct < 0) = true := decide_eq_true h2
        have hbad : ¬ Rg.Valid s at_ sz ct := fun h => by unfold Rg.Valid at h; omega
        obtain ⟨rL, rE, rB⟩ := Rg.res_bad hbad
        have HF : Hid (Rg.ansL s at_ sz ct = [] ∧ Rg.ansE s at_ sz ct = 0 ∧ Rg.ansB s at_ sz ct = false) := ⟨rL, rE, rB⟩
        clear hbad rL rE rB
        go_enter Try.func16, Try.ntmps16
        go_wp2_with fail
        refine bodyPost_ret (v := .tuple #[.slice none 0 0, .int .i64 0, .bool false]) (by simp [results, Try.results16, go_sem]) rfl (rgOwn_mk none 0 (by rw [HF.out.1, HF.out.2.1, HF.out.2.2]; rfl) (.inl HF.out.1) (by rw [HF.out.1]; exact Nat.le_refl _) ?_)
        exact ((Below.refl _ _).alloc (Nat.le_refl _) _).alloc (by simp) _
      · have d2 : decide (ct < 0) = false := decide_eq_false h2
        by_cases h3 : ct > 1000
        · have d3 : decide (ct > 1000) = true := decide_eq_true h3
          have hbad : ¬ Rg.Valid s at_ sz ct := fun h => by unfold Rg.Valid at h; omega
          obtain ⟨rL, rE, rB⟩ := Rg.res_bad hbad
          have HF : Hid (Rg.ansL s at_ sz ct = [] ∧ Rg.ansE s at_ sz ct = 0 ∧ Rg.ansB s at_ sz ct = false) := ⟨rL, rE, rB⟩
          clear hbad rL rE rB
          go_enter Try.func16, Try.ntmps16
          go_wp2_with fail
          refine bodyPost_ret (v := .tuple #[.slice none 0 0, .int .i64 0, .bool false]) (by simp [results, Try.results16, go_sem]) rfl (rgOwn_mk none 0 (by rw [HF.out.1, HF.out.2.1, HF.out.2.2]; rfl) (.inl HF.out.1) (by rw [HF.out.1]; exact Nat.le_refl _) ?_)
          exact ((Below.refl _ _).alloc (Nat.le_refl _) _).alloc (by simp) _
        · have d3 : decide (ct > 1000) = false := decide_eq_false h3
          by_cases h4 : at_ < 0
          · have d4 : decide (at_ < 0) = true := decide_eq_true h4
            have hbad : ¬ Rg.Valid s at_ sz ct := fun h => by unfold Rg.Valid at h; omega
            obtain ⟨rL, rE, rB⟩ := Rg.res_bad hbad
            have HF : Hid (Rg.ansL s at_ sz ct = [] ∧ Rg.ansE s at_ sz ct = 0 ∧ Rg.ansB s at_ sz ct = false) := ⟨rL, rE, rB⟩
            clear hbad rL rE rB
            go_enter Try.func16, Try.ntmps16
            go_wp2_with fail
            refine bodyPost_ret (v := .tuple #[.slice none 0 0, .int .i64 0, .bool false]) (by simp [results, Try.results16, go_sem]) rfl (rgOwn_mk none 0 (by rw [HF.out.1, HF.out.2.1, HF.out.2.2]; rfl) (.inl HF.out.1) (by rw [HF.out.1]; exact Nat.le_refl _) ?_)
            exact ((Below.refl _ _).alloc (Nat.le_refl _) _).alloc (by simp) _
          · have d4 : decide (at_ < 0) = false := decide_eq_false h4
            by_cases h5 : at_ > (s.size : Int)
            · have d5 : decide (at_ > (s.size : Int)) = true := decide_eq_true h5
              have hbad : ¬ Rg.Valid s at_ sz ct := fun h => by unfold Rg.Valid at h; omega
              obtain ⟨rL, rE, rB⟩ := Rg.res_bad hbad
              have HF : Hid (Rg.ansL s at_ sz ct = [] ∧ Rg.ansE s at_ sz ct = 0 ∧ Rg.ansB s at_ sz ct = false) := ⟨rL, rE, rB⟩
              clear hbad rL rE rB
              go_enter Try.func16, Try.ntmps16
              go_wp2_with fail
              refine bodyPost_ret (v := .tuple #[.slice none 0 0, .int .i64 0, .bool false]) (by simp [results, Try.results16, go_sem]) rfl (rgOwn_mk none 0 (by rw [HF.out.1, HF.out.2.1, HF.out.2.2]; rfl) (.inl HF.out.1) (by rw [HF.out.1]; exact Nat.le_refl _) ?_)
              exact ((Below.refl _ _).alloc (Nat.le_refl _) _).alloc (by simp) _
            · have d5 : decide (at_ > (s.size : Int)) = false := decide_eq_false h5
              by_cases h6 : (s.size : Int) > 9000
              · have d6 : decide ((s.size : Int) > 9000) = true := decide_eq_true h6
                have hbad : ¬ Rg.Valid s at_ sz ct := fun h => by unfold Rg.Valid at h; omega
                obtain ⟨rL, rE, rB⟩ := Rg.res_bad hbad
                have HF : Hid (Rg.ansL s at_ sz ct = [] ∧ Rg.ansE s at_ sz ct = 0 ∧ Rg.ansB s at_ sz ct = false) := ⟨rL, rE, rB⟩
                clear hbad rL rE rB
                go_enter Try.func16, Try.ntmps16
                go_wp2_with fail
                refine bodyPost_ret (v := .tuple #[.slice none 0 0, .int .i64 0, .bool false]) (by simp [results, Try.results16, go_sem]) rfl (rgOwn_mk none 0 (by rw [HF.out.1, HF.out.2.1, HF.out.2.2]; rfl) (.inl HF.out.1) (by rw [HF.out.1]; exact Nat.le_refl _) ?_)
                exact ((Below.refl _ _).alloc (Nat.le_refl _) _).alloc (by simp) _
              · have d6 : decide ((s.size : Int) > 9000) = false := decide_eq_false h6
                obtain ⟨S, rfl⟩ := Int.eq_ofNat_of_zero_le (show 0 ≤ sz by omega)
                obtain ⟨N, rfl⟩ := Int.eq_ofNat_of_zero_le (show 0 ≤ ct by omega)
                obtain ⟨A, rfl⟩ := Int.eq_ofNat_of_zero_le (show 0 ≤ at_ by omega)
                have hval : Rg.Valid s A S N := by unfold Rg.Valid; omega
                have hres := Rg.res_ok hval
                rw [Int.toNat_natCast, Int.toNat_natCast, Int.toNat_natCast] at hres
                have HRES : Hid (Rg.res s A S N = Rg.get s S A N) := hres
                clear hval hres
                have hS1 : 1 ≤ S := by omega
                have hS4 : S ≤ 4 := by omega
                have hN : N ≤ 1000 := by omega
                have hA : A ≤ s.size := by omega
                have hsz : s.size ≤ 9000 := by omega
                obtain ⟨W5, hW5⟩ : ∃ W5, W5 = (((((w.alloc (.cells #[.int .i64 (S : Int)] 3)).alloc (.cells #[.int .i64 (N : Int)] 3)).alloc (.cells #[.string s, .int .i64 (A : Int)] 54)).alloc (.cells #[.pointer (some ⟨w.heap.size + 2, 0, none⟩)] 52)).alloc (.cells #[.slice none 0 0] 30)) := ⟨_, rfl⟩
                have hs5 : W5.heap.size = w.heap.size + 5 := by rw [hW5]; simp
                have HB5 : Hid (Below w.heap.size w W5) := by
                  rw [hW5]
                  exact (((((Below.refl _ _).alloc (Nat.le_refl _) _).alloc (by simp) _).alloc (by simp <;> omega) _).alloc (by simp <;> omega) _).alloc (by simp <;> omega) _
                have HX : Hid (Boxed W5 w.heap.size 3 (.int .i64 (S : Int)) ∧ Boxed W5 (w.heap.size + 1) 3 (.int .i64 (N : Int)) ∧ Br W5 (w.heap.size + 2) s A ∧ Boxed W5 (w.heap.size + 3) 52 (.pointer (some ⟨w.heap.size + 2, 0, none⟩)) ∧ Boxed W5 (w.heap.size + 4) 30 (.slice none 0 0)) := by
                  rw [hW5]
                  exact ⟨five0 .., five1 .., five2 .., five3 .., five4 ..⟩
                have HWK : Hid (Calls Try.prog 41 #[.pointer (some ⟨w.heap.size + 4, 0, none⟩), .pointer (some ⟨w.heap.size + 1, 0, none⟩), .pointer (some ⟨w.heap.size + 3, 0, none⟩), .pointer (some ⟨w.heap.size, 0, none⟩)] (W5.alloc (.cells #[.int .i64 0] 3)) fun e w' => Boxed w' W5.heap.size 3 (.int .i64 0) ∧ ((∃ v, e = .returned v) ∧ RgYes w s S A N w' ∨ ∃ c, e = fault c ∧ RgNo w s S A N c w')) := by
                  obtain ⟨x0, x1, x2, x3, x4⟩ := HX.out
                  have ba : Below W5.heap.size W5 (W5.alloc (.cells #[.int .i64 0] 3)) := (Below.refl _ _).alloc (Nat.le_refl _) _
                  refine (runWork_any (w.heap.size + 4) (w.heap.size + 1) (w.heap.size + 3) w.heap.size (w.heap.size + 2) A S N s _ (box_up x4 ba) (box_up x1 ba) (box_up x3 ba) (box_up x0 ba) (x2.kept ba) hsz hA hS1 hS4 hN (by omega) (by omega) (by omega) (by omega) (by omega) (by omega) (by omega)).mono ?_
                  rintro e w' ⟨ho, h⟩
                  have hbel : Below w.heap.size w w' := (HB5.out.trans (ba.mono HB5.out.size)).trans (ho.below (by omega) (by omega) (Nat.le_trans HB5.out.size ba.size))
                  refine ⟨ho.box (Boxed.new W5 3 (.int .i64 0)) (by omega) (by omega), ?_⟩
                  rcases h with ⟨hv, l, E, v, h1, h2, h3, h4⟩ | ⟨c, h1, h2, h3⟩
                  · exact .inl ⟨hv, ⟨l, E, v, h1, h2, (by rw [World.size_alloc, hs5] at h3; exact h3), h4, ho.box (box_up x3 ba) (by omega) (by omega), hbel⟩⟩
                  · exact .inr ⟨c, h1, h2, h3, hbel⟩
                have HFI : Hid (Calls Try.prog 28 #[.func (.func 41) #[] #[.pointer (some ⟨w.heap.size + 4, 0, none⟩), .pointer (some ⟨w.heap.size + 1, 0, none⟩), .pointer (some ⟨w.heap.size + 3, 0, none⟩), .pointer (some ⟨w.heap.size, 0, none⟩)]] W5 (FaultOut W5 (RgYes w s S A N) (RgNo w s S A N))) :=
                  faultIn_any 41 _ (enters_of Try.func41 (by kernel_rfl) rfl) _ _ W5 HWK.out
                clear HWK HX
                have hmf : ∀ (fn : Fn) (first cap : Array Value) (w : World), (Instr.makeFunc fn first cap).run Try.prog w = .ok (.func fn first cap) w := fun _ _ _ _ => rfl
                have hW5' : (((((w.alloc (.cells #[.int .i64 (S : Int)] 3)).alloc (.cells #[.int .i64 (N : Int)] 3)).alloc (.cells #[.string s, .int .i64 (A : Int)] 54)).alloc (.cells #[.pointer (some ⟨w.heap.size + 1 + 1, 0, none⟩)] 52)).alloc (.cells #[.slice none 0 0] 30)) = W5 := hW5.symm
                clear hW5
                go_enter Try.func16, Try.ntmps16
                go_wp2_with fail
                refine HFI.out.mono ?_
                rintro e w7 ⟨w6, hb6, (⟨rfl, ⟨l, E, v, h1, h2, h3, h4, h5, h6⟩, ht⟩ | ⟨c, rfl, ⟨hc0, hno, h6⟩, ht⟩)⟩
                · have hlen := h3.len
                  have HANS : Hid (Rg.ansL s A S N = l ∧ Rg.ansE s A S N = (E : Int) ∧ Rg.ansB s A S N = true) := Rg.ans_some (by rw [HRES.out]; exact h1)
                  obtain ⟨ao, cap, rfl, hOl⟩ := h3.owns
                  have HCP : Hid (N ≤ cap) := own_cap h3
                  have hne : ∀ k, k < w.heap.size + 5 → k ≠ W5.heap.size := fun k hk => by omega
                  have hb7 : Boxed w7 (w.heap.size + 4) 30 (.slice ao N cap) := by rw [ht]; exact (Below.heap_setCell w6 ⟨W5.heap.size, 0, none⟩ _ _ (hne _ (by omega))).trans h2
                  have hr7 : Br w7 (w.heap.size + 2) s E := by rw [ht]; exact (Below.heap_setCell w6 ⟨W5.heap.size, 0, none⟩ _ _ (hne _ (by omega))).trans h4
                  have hi7 : Boxed w7 (w.heap.size + 3) 52 (.pointer (some ⟨w.heap.size + 2, 0, none⟩)) := by rw [ht]; exact (Below.heap_setCell w6 ⟨W5.heap.size, 0, none⟩ _ _ (hne _ (by omega))).trans h5
                  have HF : Hid (Owns w7 w.heap.size ao l ∧ Below w.heap.size w w7) := by
                    refine ⟨?_, ?_⟩
                    · rw [ht]; exact own_down (hOl.off_set (by omega)) (by omega)
                    · rw [ht]; exact h6.setCell (by show w.heap.size ≤ W5.heap.size; omega) _
                  have k1 := hb7.cell
                  have k2 := hi7.cell
                  obtain ⟨_, k3, _⟩ := hr7.cells
                  clear hb7 hr7 hi7 h1 h2 h3 h4 h5 h6 ht hb6 hOl HFI HRES HB5
                  go_wp2_with fail
                  go_quiet (fail)
                  go_wp2_with fail
                  refine bodyPost_ret (v := .tuple #[.slice ao N cap, .int .i64 (E : Int), .bool true]) (by simp [results, Try.results16, go_sem]) rfl (rgOwn_mk ao cap (by rw [HANS.out.1, HANS.out.2.1, HANS.out.2.2, hlen]) ?_ (by rw [HANS.out.1, hlen]; exact HCP.out) ?_)
                  · rw [HANS.out.1]; exact HF.out.1.kept (drewN_up _ _)
                  · exact HF.out.2.trans ((drewN_up _ _).mono HF.out.2.size)
                · have HANS : Hid (Rg.ansL s A S N = [] ∧ Rg.ansE s A S N = 0 ∧ Rg.ansB s A S N = false) := Rg.ans_none (by rw [HRES.out]; exact hno)
                  have HF : Hid (Below w.heap.size w w7) := by show Below _ _ _; rw [ht]; exact h6.setCell (by show w.heap.size ≤ W5.heap.size; omega) _
                  have hcb : (c != 0) = true := by rw [bne_iff_ne]; exact hc0
                  clear hno h6 ht hb6 HFI HRES HB5
                  go_wp2_with fail
                  refine bodyPost_ret (v := .tuple #[.slice none 0 0, .int .i64 0, .bool false]) (by simp [results, Try.results16, go_sem]) rfl (rgOwn_mk none 0 (by rw [HANS.out.1, HANS.out.2.1, HANS.out.2.2]; rfl) (.inl HANS.out.1) (by rw [HANS.out.1]; exact Nat.le_refl _) HF.out)
end Go.Proofs.Ytmcjdilmmabiaaa
