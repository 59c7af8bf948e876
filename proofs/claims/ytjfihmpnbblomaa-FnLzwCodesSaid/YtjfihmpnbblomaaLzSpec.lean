/- The specification's reader of LZW in memory; its next number. -/
import Derived.Test.YtjfihmpnbblomaaLzStart
import Derived.Test.YtjfihmpnbblomaaLzKeep
import Derived.BigQuiet
import Derived.Deep.QuietTactic
import Derived.StillTailTactics
namespace Go.Proofs.Ytjfihmpnbblomaa
open Go.RowKit

/-- the reader in block B -/
def SzR (w : World) (B b : Nat) (wide : Bool) (s : ByteArray) (limit p : Nat) (lv : Value) (last : ByteArray) (ov cv : Value) (c : Int) : Prop :=
  w.heap[B]? = some (.cells #[.string s, .int .i64 (b : Int), .bool wide, .int .i64 (limit : Int), .int .i64 (p : Int), lv, .string last, ov, cv, .int .i64 c] 55 (0, 0))
theorem SzR.lt {w : World} {B b limit p : Nat} {wide : Bool} {s last : ByteArray} {lv ov cv : Value} {c : Int} (h : SzR w B b wide s limit p lv last ov cv c) : B < w.heap.size := (Array.getElem?_eq_some_iff.1 h).1
theorem SzR.cell {w : World} {B b limit p : Nat} {wide : Bool} {s last : ByteArray} {lv ov cv : Value} {c : Int} (h : SzR w B b wide s limit p lv last ov cv c) (i : Nat) : w.cell? ⟨B, i, none⟩ = (#[Value.string s, .int .i64 (b : Int), .bool wide, .int .i64 (limit : Int), .int .i64 (p : Int), lv, .string last, ov, cv, .int .i64 c])[i]? := by
  simp [World.cell?, show w.heap[B]? = _ from h]
theorem SzR.free {w : World} {B b limit p : Nat} {wide : Bool} {s last : ByteArray} {lv ov cv : Value} {c : Int} (h : SzR w B b wide s limit p lv last ov cv c) (i : Nat) : w.frozen? ⟨B, i, none⟩ = false := by
  simp [World.frozen?, show w.heap[B]? = _ from h]
theorem SzR.same {w w' : World} {B b limit p : Nat} {wide : Bool} {s last : ByteArray} {lv ov cv : Value} {c : Int} (h : SzR w B b wide s limit p lv last ov cv c) (hb : w'.heap[B]? = w.heap[B]?) : SzR w' B b wide s limit p lv last ov cv c := hb.trans h
theorem SzR.drewN {w : World} {B b limit p : Nat} {wide : Bool} {s last : ByteArray} {lv ov cv : Value} {c : Int} (h : SzR w B b wide s limit p lv last ov cv c) (m : Nat) : SzR (w.drewN m) B b wide s limit p lv last ov cv c := h
theorem SzR.drew {w : World} {B b limit p : Nat} {wide : Bool} {s last : ByteArray} {lv ov cv : Value} {c : Int} (h : SzR w B b wide s limit p lv last ov cv c) : SzR w.drew B b wide s limit p lv last ov cv c := h
theorem SzR.set {w : World} {B b limit p p' : Nat} {wide : Bool} {s last last' : ByteArray} {lv ov cv lv' ov' cv' u : Value} {c c' : Int} {i : Nat} (h : SzR w B b wide s limit p lv last ov cv c)
    (hi : (#[Value.string s, .int .i64 (b : Int), .bool wide, .int .i64 (limit : Int), .int .i64 (p : Int), lv, .string last, ov, cv, .int .i64 c]).setIfInBounds i u = #[Value.string s, .int .i64 (b : Int), .bool wide, .int .i64 (limit : Int), .int .i64 (p' : Int), lv', .string last', ov', cv', .int .i64 c']) :
    SzR (w.setCell ⟨B, i, none⟩ u) B b wide s limit p' lv' last' ov' cv' c' := by
  unfold SzR
  rw [setCell_eq_setRow w B i _ _ (0, 0) _ h, hi]
  exact setRow_heap w B _ _ _ _ h
/-- a row lies in another block -/
theorem SzR.apart {w : World} {B b limit p lo n z e : Nat} {wide : Bool} {s last : ByteArray} {lv ov cv v : Value} {c : Int} {l : List Value} (h : SzR w B b wide s limit p lv last ov cv c) (ho : w.ownsRow lo e z v n l) (hne : e ≠ 55) : v.ownBlock ≠ some B := fun hk => by
  rcases ho.2 with ⟨rfl, _⟩ | ⟨g, cap, cur, rfl, _, hg, _⟩
  · cases hk
  · have e : g = B := by cases hk; rfl
    subst e
    rw [show w.heap[g]? = _ from h] at hg
    cases hg
    exact hne rfl

set_option maxHeartbeats 1000000 in
theorem szNext_no (B b limit p n g cap : Nat) (wide : Bool) (s last : ByteArray) (ov cv : Value) (c : Int) (w : World) (hb : b ≤ 8) (hsz : s.size ≤ 9000) (hn : n ≤ 4096) (hp : p ≤ 8 * s.size) (h : SzR w B b wide s limit p (.slice (some ⟨g, 0, none⟩) n cap) last ov cv c) (hno : 8 * s.size < p + Lz.width b wide n) :
    Calls Try.prog 55 #[.pointer (some ⟨B, 0, none⟩)] w fun e w' => e = .returned (.int .i64 (-1)) ∧ SzR w' B b wide s limit p (.slice (some ⟨g, 0, none⟩) n cap) last ov cv 2 ∧ ∃ q, w' = (w.drewN q).setCell ⟨B, 9, none⟩ (.int .i64 2) := by
  obtain ⟨N, hN⟩ : ∃ N : Nat, N = Lz.width b wide n := ⟨_, rfl⟩
  have hNb := Lz.width_bd hb wide n
  have HW : Hid (∀ w', Calls Try.prog 74 #[.int .i64 (n : Int), .int .i64 (b : Int), .bool wide] w' fun e w'' => e = .returned (.int .i64 (N : Int)) ∧ w'' = w') := fun w' => by rw [hN]; exact l6Width_any b n hb (by omega) wide w'
  rw [← hN] at hno hNb
  clear hN
  have c0 := h.cell 0
  have c1 := h.cell 1
  have c2 := h.cell 2
  have c4 := h.cell 4
  have c5 := h.cell 5
  have c9 := h.cell 9
  have f9 := h.free 9
  simp at c0 c1 c2 c4 c5 c9
  have HS : Hid (SzR w B b wide s limit p (.slice (some ⟨g, 0, none⟩) n cap) last ov cv c) := h
  clear h
  have e1 : IntKind.i64.wrap ((p : Int) + (N : Int)) = ((p + N : Nat) : Int) := by
    have := wrap_i64_nat (p + N) (by omega)
    simpa using this
  have e2 : IntKind.i64.wrap (8 * (s.size : Int)) = ((8 * s.size : Nat) : Int) := by
    have := wrap_i64_nat (8 * s.size) (by omega)
    simpa using this
  have dA : decide ((p : Int) + (N : Int) > 8 * (s.size : Int)) = true := decide_eq_true (by omega)
  go_enter Try.func55, Try.ntmps55
  go_wp2_with fail
  go_quiet ((go_at_call 74; exact Calls.quiet_of_same (HW.out _)))
  go_wp2_with fail
  go_quiet (fail)
  go_wp2_with fail
  go_ret
  exact ⟨rfl, (HS.out.drewN _).set rfl, _, rfl⟩

theorem l6Get_any (s : ByteArray) (A S : Nat) (hi : Bool) (w : World) (h : A + S ≤ 8 * s.size) (hs : s.size ≤ 9000) (h24 : S ≤ 24) :
    Calls Try.prog 75 #[.string s, .int .i64 (A : Int), .int .i64 (S : Int), .bool hi] w fun e w' => e = .returned (.int .i64 (Lz.num s hi A S : Nat)) ∧ ∃ m, w' = w.drewN m := by
  cases hi
  · exact l1Get_low s A S w h hs h24
  · exact l1Get_high s A S w h hs h24

set_option maxHeartbeats 1000000 in
theorem szNext_yes (B b limit p n g cap v N : Nat) (wide : Bool) (s last : ByteArray) (ov cv : Value) (c : Int) (w : World) (hb : b ≤ 8) (hsz : s.size ≤ 9000) (hn : n ≤ 4096) (h : SzR w B b wide s limit p (.slice (some ⟨g, 0, none⟩) n cap) last ov cv c) (hN : N = Lz.width b wide n) (hin : p + N ≤ 8 * s.size) (hv : v = Lz.num s wide p N) :
    Calls Try.prog 55 #[.pointer (some ⟨B, 0, none⟩)] w fun e w' => e = .returned (.int .i64 (v : Int)) ∧ SzR w' B b wide s limit (p + N) (.slice (some ⟨g, 0, none⟩) n cap) last ov cv c ∧ ∃ q, w' = (w.drewN q).setCell ⟨B, 4, none⟩ (.int .i64 ((p + N : Nat) : Int)) := by
  have hNb := Lz.width_bd hb wide n
  have HW : Hid (∀ w', Calls Try.prog 74 #[.int .i64 (n : Int), .int .i64 (b : Int), .bool wide] w' fun e w'' => e = .returned (.int .i64 (N : Int)) ∧ w'' = w') := fun w' => by rw [hN]; exact l6Width_any b n hb (by omega) wide w'
  rw [← hN] at hNb
  clear hN
  have HG : Hid (∀ w', Calls Try.prog 75 #[.string s, .int .i64 (p : Int), .int .i64 (N : Int), .bool wide] w' fun e w'' => e = .returned (.int .i64 (v : Int)) ∧ ∃ m, w'' = w'.drewN m) := fun w' => by rw [hv]; exact l6Get_any s p N wide w' hin hsz (by omega)
  clear hv
  have c0 := h.cell 0
  have c1 := h.cell 1
  have c2 := h.cell 2
  have c4 := h.cell 4
  have c5 := h.cell 5
  have f4 := h.free 4
  simp at c0 c1 c2 c4 c5
  have HS : Hid (SzR w B b wide s limit p (.slice (some ⟨g, 0, none⟩) n cap) last ov cv c) := h
  clear h
  have e1 : IntKind.i64.wrap ((p : Int) + (N : Int)) = ((p + N : Nat) : Int) := by
    have := wrap_i64_nat (p + N) (by omega)
    simpa using this
  have e2 : IntKind.i64.wrap (8 * (s.size : Int)) = ((8 * s.size : Nat) : Int) := by
    have := wrap_i64_nat (8 * s.size) (by omega)
    simpa using this
  have dA : decide ((p : Int) + (N : Int) > 8 * (s.size : Int)) = false := decide_eq_false (by omega)
  go_enter Try.func55, Try.ntmps55
  go_wp2_with fail
  go_quiet ((go_at_call 74; exact Calls.quiet_of_same (HW.out _)))
  generalize hwr : w.drewN nq = w1
  have HS1 : Hid (SzR w1 B b wide s limit p (.slice (some ⟨g, 0, none⟩) n cap) last ov cv c ∧ ∃ q, w1 = w.drewN q) := by
    rw [← hwr]; exact ⟨HS.out.drewN _, _, rfl⟩
  clear hwr c0 c1 c2 c4 c5 f4 HS HW
  have c0 := HS1.out.1.cell 0
  have c4 := HS1.out.1.cell 4
  simp at c0 c4
  go_wp2_with fail
  go_quiet (fail)
  generalize hwr : w1.drewN nq = wr
  have HS2 : Hid (SzR wr B b wide s limit p (.slice (some ⟨g, 0, none⟩) n cap) last ov cv c ∧ ∃ q, wr = w.drewN q) := by
    rw [← hwr]; obtain ⟨h1, q, rfl⟩ := HS1.out; exact ⟨h1.drewN _, _, World.drewN_drewN _ _ _⟩
  clear hwr c0 c4 HS1
  have c0 := HS2.out.1.cell 0
  have c2 := HS2.out.1.cell 2
  have c4 := HS2.out.1.cell 4
  have f4 := HS2.out.1.free 4
  simp at c0 c2 c4
  go_wp2_with fail
  go_quiet ((go_at_call 75; exact Calls.quiet_of (HG.out _)))
  go_wp2_with fail
  go_ret
  obtain ⟨hs2, q, rfl⟩ := HS2.out
  rw [Int.natCast_add]
  exact ⟨rfl, (hs2.drewN _).set rfl, _, by rw [World.drewN_drewN]⟩
end Go.Proofs.Ytjfihmpnbblomaa
