/- PackGet of the program, at every text and limit. -/
import Derived.Test.YtmcjdilmmabiaaaPgTop
namespace Go.Proofs.Ytmcjdilmmabiaaa
open Go.RowKit Go.Shelf

def Pg.Valid (s : ByteArray) (lim : Int) : Prop := s.size ≤ 9000 ∧ 0 ≤ lim ∧ lim ≤ 5000
instance (s : ByteArray) (lim : Int) : Decidable (Pg.Valid s lim) := by unfold Pg.Valid; infer_instance
/-- what PackGet answers -/
def Pg.ans (s : ByteArray) (lim : Int) : Int × List UInt8 := if Pg.Valid s lim then Pg.get lim.toNat s.data.toList [] else (1, [])
theorem Pg.ans_bad {s : ByteArray} {lim : Int} (h : ¬ Pg.Valid s lim) : Pg.ans s lim = (1, []) := if_neg h
theorem Pg.ans_ok {s : ByteArray} {lim : Nat} (h : Pg.Valid s lim) : Pg.ans s lim = Pg.get lim s.data.toList [] := by unfold Pg.ans; rw [if_pos h, Int.toNat_natCast]
/-- how PackGet ends -/
def PgAns (w : World) (s : ByteArray) (lim : Int) (e : Ending) (w' : World) : Prop := e = .returned (.tuple #[.string ⟨(Pg.ans s lim).2.toArray⟩, .int .i64 (Pg.ans s lim).1]) ∧ Below w.heap.size w w'
theorem pgAns_mk {w w' : World} {s : ByteArray} {lim : Int} {e : Ending} (c : Int) (l : List UInt8) (h1 : Pg.ans s lim = (c, l)) (h2 : e = .returned (.tuple #[.string ⟨l.toArray⟩, .int .i64 c])) (h3 : Below w.heap.size w w') : PgAns w s lim e w' := ⟨by rw [h1]; exact h2, h3⟩

/-- the work was done -/
def PgYes (w : World) (s : ByteArray) (lim : Nat) (w' : World) : Prop :=
  (∃ l, Pg.Is s lim 0 l ∧ ∃ v, Ot w' (w.heap.size + 2) v lim ∧ OwnT w' (w.heap.size + 5) v l.length l) ∧ Boxed w' (w.heap.size + 3) 55 (.pointer (some ⟨w.heap.size + 2, 0, none⟩)) ∧ Below w.heap.size w w'
/-- it broke off -/
def PgNo (w : World) (s : ByteArray) (lim : Nat) (c : Int) (w' : World) : Prop := c ≠ 0 ∧ Pg.Is s lim c [] ∧ Below w.heap.size w w'
theorem pg_up {w w' : World} {k : Nat} {T : TypeId} {v : Value} (h : Boxed w k T v) (b : Below w.heap.size w w') : Boxed w' k T v := (b.block k (pg_lt h)).trans h
theorem four3 (w : World) (a b c d : Obj) : ((((w.alloc a).alloc b).alloc c).alloc d).heap[w.heap.size + 3]? = some d := by
  have := World.alloc_heap_new (((w.alloc a).alloc b).alloc c) d; simpa using this
theorem four2 (w : World) (a b c d : Obj) : ((((w.alloc a).alloc b).alloc c).alloc d).heap[w.heap.size + 2]? = some c :=
  (Below.heap_alloc _ _ _ (by simp)).trans (by have := World.alloc_heap_new ((w.alloc a).alloc b) c; simpa using this)
theorem four1 (w : World) (a b c d : Obj) : ((((w.alloc a).alloc b).alloc c).alloc d).heap[w.heap.size + 1]? = some b :=
  (Below.heap_alloc _ _ _ (by simp <;> omega)).trans ((Below.heap_alloc _ _ _ (by simp)).trans (by have := World.alloc_heap_new (w.alloc a) b; simpa using this))
theorem four0 (w : World) (a b c d : Obj) : ((((w.alloc a).alloc b).alloc c).alloc d).heap[w.heap.size]? = some a :=
  (Below.heap_alloc _ _ _ (by simp <;> omega)).trans ((Below.heap_alloc _ _ _ (by simp <;> omega)).trans ((Below.heap_alloc _ _ _ (by simp)).trans (World.alloc_heap_new w a)))
theorem OwnT.off_set {w : World} {lo k i n : Nat} {v u : Value} {l : List UInt8} (h : OwnT w lo v n l) (hk : k < lo) : OwnT (w.setCell ⟨k, i, none⟩ u) lo v n l := by
  refine World.ownsRow.kept (show World.ownsRow _ _ _ _ _ _ _ from h) (row := some k) ⟨rfl, rfl, rfl, by simp, fun j hj hne => Below.heap_setCell w ⟨k, i, none⟩ _ j (fun e => hne (by rw [e]))⟩ (.inr (fun e => ?_))
  have := (World.ownsRow.lt (show World.ownsRow _ _ _ _ _ _ _ from h) k (by first | exact e | exact e.symm)).1
  omega

set_option maxHeartbeats 4000000 in
set_option maxRecDepth 20000 in
theorem impl_packGet (s : ByteArray) (lm : Int) (w : World) (hs : s.size ≤ 3000000) :
    Calls Try.prog 10 #[.string s, .int .i64 lm] w (PgAns w s lm) := by
  by_cases h0 : (s.size : Int) > 9000
  · have d0 : decide ((s.size : Int) > 9000) = true := decide_eq_true h0
    have HF : Hid (Pg.ans s lm = (1, [])) := Pg.ans_bad fun h => by unfold Pg.Valid at h; omega
    go_enter Try.func10, Try.ntmps10
    go_wp2_with fail
    refine bodyPost_ret (v := .tuple #[.string ⟨#[]⟩, .int .i64 1]) (by simp [results, Try.results10, go_sem]) rfl (pgAns_mk 1 [] HF.out rfl (Below.refl _ _))
  · have d0 : decide ((s.size : Int) > 9000) = false := decide_eq_false h0
    by_cases h1 : lm < 0
    · have d1 : decide (lm < 0) = true := decide_eq_true h1
      have HF : Hid (Pg.ans s lm = (1, [])) := Pg.ans_bad fun h => by unfold Pg.Valid at h; omega
      go_enter Try.func10, Try.ntmps10
      go_wp2_with fail
      refine bodyPost_ret (v := .tuple #[.string ⟨#[]⟩, .int .i64 1]) (by simp [results, Try.results10, go_sem]) rfl (pgAns_mk 1 [] HF.out rfl (Below.refl _ _))
    · have d1 : decide (lm < 0) = false := decide_eq_false h1
      by_cases h2 : lm > 5000
      · have d2 : decide (lm > 5000) = true := decide_eq_true h2
        have HF : Hid (Pg.ans s lm = (1, [])) := Pg.ans_bad fun h => by unfold Pg.Valid at h; omega
        go_enter Try.func10, Try.ntmps10
        go_wp2_with fail
        refine bodyPost_ret (v := .tuple #[.string ⟨#[]⟩, .int .i64 1]) (by simp [results, Try.results10, go_sem]) rfl (pgAns_mk 1 [] HF.out rfl (Below.refl _ _))
      · have d2 : decide (lm > 5000) = false := decide_eq_false h2
        obtain ⟨lim, rfl⟩ := Int.eq_ofNat_of_zero_le (show 0 ≤ lm by omega)
        have HRES : Hid (Pg.ans s lim = Pg.get lim s.data.toList []) := Pg.ans_ok (by unfold Pg.Valid; omega)
        have hl5 : lim ≤ 5000 := by omega
        have hsz : s.size ≤ 9000 := by omega
        obtain ⟨W4, hW4⟩ : ∃ W4, W4 = ((((w.alloc (.cells #[.string s, .int .i64 0] 54)).alloc (.cells #[.pointer (some ⟨w.heap.size, 0, none⟩)] 52)).alloc (.cells #[.slice none 0 0, .int .i64 (lim : Int)] 57)).alloc (.cells #[.pointer (some ⟨w.heap.size + 2, 0, none⟩)] 55)) := ⟨_, rfl⟩
        have hs4 : W4.heap.size = w.heap.size + 4 := by rw [hW4]; simp
        have HB4 : Hid (Below w.heap.size w W4) := by
          rw [hW4]
          exact ((((Below.refl _ _).alloc (Nat.le_refl _) _).alloc (by simp) _).alloc (by simp <;> omega) _).alloc (by simp <;> omega) _
        have HX : Hid (Br W4 w.heap.size s 0 ∧ Boxed W4 (w.heap.size + 1) 52 (.pointer (some ⟨w.heap.size, 0, none⟩)) ∧ Ot W4 (w.heap.size + 2) (.slice none 0 0) lim ∧ Boxed W4 (w.heap.size + 3) 55 (.pointer (some ⟨w.heap.size + 2, 0, none⟩))) := by
          rw [hW4]
          exact ⟨four0 .., four1 .., four2 .., four3 ..⟩
        have HWK : Hid (Calls Try.prog 29 #[.pointer (some ⟨w.heap.size + 1, 0, none⟩), .pointer (some ⟨w.heap.size + 3, 0, none⟩)] (W4.alloc (.cells #[.int .i64 0] 3)) fun e w' => Boxed w' W4.heap.size 3 (.int .i64 0) ∧ ((∃ v, e = .returned v) ∧ PgYes w s lim w' ∨ ∃ c, e = fault c ∧ PgNo w s lim c w')) := by
          obtain ⟨x0, x1, x2, x3⟩ := HX.out
          have ba : Below W4.heap.size W4 (W4.alloc (.cells #[.int .i64 0] 3)) := (Below.refl _ _).alloc (Nat.le_refl _) _
          have hOt : Ot (W4.alloc (.cells #[.int .i64 0] 3)) (w.heap.size + 2) (.slice none 0 0) lim := (ba.block _ x2.lt).trans x2
          refine (packWork_any (w.heap.size + 1) (w.heap.size + 3) w.heap.size (w.heap.size + 2) lim s _ (pg_up x1 ba) (pg_up x3 ba) (x0.kept ba) hOt hsz hl5 (by omega) (by omega) (by omega) (by omega) (by omega)).mono ?_
          rintro e w' ⟨ho, h⟩
          have hsa : (W4.alloc (.cells #[.int .i64 0] 3)).heap.size = w.heap.size + 5 := by rw [World.size_alloc, hs4]
          rw [hsa] at ho h
          have hbel : Below w.heap.size w w' := (HB4.out.trans (ba.mono HB4.out.size)).trans (ho.below (by omega) (by omega) (by omega))
          refine ⟨ho.box (Boxed.new W4 3 (.int .i64 0)) (by omega) (by omega) (by omega), ?_⟩
          rcases h with ⟨hv, l, g1, v, g2, g3⟩ | ⟨c, g1, g2, g3⟩
          · exact .inl ⟨⟨_, hv⟩, ⟨l, g1, v, g2, g3⟩, ho.box (pg_up x3 ba) (by omega) (by omega) (by omega), hbel⟩
          · exact .inr ⟨c, g1, g2, g3, hbel⟩
        have HFI : Hid (Calls Try.prog 28 #[.func (.func 29) #[] #[.pointer (some ⟨w.heap.size + 1, 0, none⟩), .pointer (some ⟨w.heap.size + 3, 0, none⟩)]] W4 (FaultOut W4 (PgYes w s lim) (PgNo w s lim))) :=
          faultIn_any 29 _ (enters_of Try.func29 (by kernel_rfl) rfl) _ _ W4 HWK.out
        clear HWK HX
        have hmf : ∀ (fn : Fn) (first cap : Array Value) (w : World), (Instr.makeFunc fn first cap).run Try.prog w = .ok (.func fn first cap) w := fun _ _ _ _ => rfl
        have hW4' : ((((w.alloc (.cells #[.string s, .int .i64 0] 54)).alloc (.cells #[.pointer (some ⟨w.heap.size, 0, none⟩)] 52)).alloc (.cells #[.slice none 0 0, .int .i64 (lim : Int)] 57)).alloc (.cells #[.pointer (some ⟨w.heap.size + 1 + 1, 0, none⟩)] 55)) = W4 := hW4.symm
        clear hW4
        go_enter Try.func10, Try.ntmps10
        go_wp2_with fail
        refine HFI.out.mono ?_
        rintro e w7 ⟨w6, hb6, (⟨rfl, ⟨⟨l, g1, v, g2, g3⟩, g4, g5⟩, ht⟩ | ⟨c, rfl, ⟨hc0, hno, g5⟩, ht⟩)⟩
        · have HANS : Hid (Pg.ans s lim = (0, l)) := HRES.out.trans g1
          have hne : ∀ k, k < w.heap.size + 4 → k ≠ W4.heap.size := fun k hk => by omega
          have hb7 : Boxed w7 (w.heap.size + 3) 55 (.pointer (some ⟨w.heap.size + 2, 0, none⟩)) := by rw [ht]; exact (Below.heap_setCell w6 ⟨W4.heap.size, 0, none⟩ _ _ (hne _ (by omega))).trans g4
          have ho7 : Ot w7 (w.heap.size + 2) v lim := by rw [ht]; exact (Below.heap_setCell w6 ⟨W4.heap.size, 0, none⟩ _ _ (hne _ (by omega))).trans g2
          have hw7 : OwnT w7 (w.heap.size + 5) v l.length l := by rw [ht]; exact g3.off_set (by omega)
          have HF : Hid (Below w.heap.size w w7) := by show Below _ _ _; rw [ht]; exact g5.setCell (by show w.heap.size ≤ W4.heap.size; omega) _
          have k1 := hb7.cell
          obtain ⟨k2, _, _⟩ := ho7.cells
          have htx := hw7.text
          clear hb7 ho7 hw7 g1 g2 g3 g4 g5 ht hb6 HFI HRES HB4
          go_wp2_with fail
          refine bodyPost_ret (v := .tuple #[.string ⟨l.toArray⟩, .int .i64 0]) (by simp [results, Try.results10, go_sem]) rfl (pgAns_mk 0 l HANS.out rfl HF.out)
        · have HANS : Hid (Pg.ans s lim = (c, [])) := HRES.out.trans hno
          have HF : Hid (Below w.heap.size w w7) := by show Below _ _ _; rw [ht]; exact g5.setCell (by show w.heap.size ≤ W4.heap.size; omega) _
          have hcb : (c != 0) = true := by rw [bne_iff_ne]; exact hc0
          clear hno g5 ht hb6 HFI HRES HB4
          go_wp2_with fail
          refine bodyPost_ret (v := .tuple #[.string ⟨#[]⟩, .int .i64 c]) (by simp [results, Try.results10, go_sem]) rfl (pgAns_mk c [] HANS.out rfl HF.out)
end Go.Proofs.Ytmcjdilmmabiaaa
