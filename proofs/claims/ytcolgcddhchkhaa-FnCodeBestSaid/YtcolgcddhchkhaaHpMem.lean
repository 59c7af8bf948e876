/- A heap of nodes in memory: its methods. -/
import Derived.Test.YtcolgcddhchkhaaHpMath
import Derived.RangeFuncBox
import Derived.Laws.Tables
import Derived.Below
import Derived.BigQuiet
import Derived.Deep.QuietTactic
import Derived.Test.YtcolgcddhchkhaaBase
namespace Go.Proofs.Ytcolgcddhchkhaa
open Go.RowKit

theorem hp_info (name : String) (f : FuncId) (b : Bool) (hm : (Try.prog.info? 124).map (fun i => (i.methods.find? (·.name == name)).map (fun m => (m.path.toList, m.func))) = some (some ([], some (f, b)))) : ∃ i m, Try.prog.info? 124 = some i ∧ i.methods.find? (·.name == name) = some m ∧ m.path = #[] ∧ m.func = some (f, b) := by
  cases h : Try.prog.info? 124 with
  | none => rw [h] at hm; cases hm
  | some i =>
    rw [h] at hm
    cases hf : i.methods.find? (·.name == name) with
    | none => rw [Option.map_some, hf] at hm; cases hm
    | some m =>
      rw [Option.map_some, hf] at hm
      simp at hm
      exact ⟨i, m, rfl, hf, hm.1, hm.2⟩
theorem wrap_chk (xt : TypeId) (a : Addr) (name : String) (w : World) : (Builtin.ssaWrapNilChk_ #[xt] xt #[.pointer (some a), strVal "", strVal name]).run Try.prog w = .ok (.pointer (some a)) w := rfl
theorem method_val (name : String) (f : FuncId) (hm : (Try.prog.info? 124).map (fun i => (i.methods.find? (·.name == name)).map (fun m => (m.path.toList, m.func))) = some (some ([], some (f, false)))) (F : Nat) (hF : 0 < F) (Hb : Nat) (a : Option Addr) (n c : Nat) (w : World) (h : w.cell? ⟨Hb, 0, none⟩ = some (.slice a n c)) :
    (method F 124 (.pointer (some ⟨Hb, 0, none⟩)) name).run Try.prog w = .ok (f, .slice a n c) w := by
  obtain ⟨k, rfl⟩ : ∃ k, F = k + 1 := ⟨F - 1, by omega⟩
  obtain ⟨i, m, hi, hfind, hp, hf⟩ := hp_info name f false hm
  unfold method
  simp [typeInfo, hi, hfind, hp, hf, follow, receiverAt, run_underlying Try.underlying124, Place.get, Result.andThen, wrap_chk, asAddr, go_sem, h]
theorem m_len (Hb : Nat) (a : Option Addr) (n c : Nat) (w : World) (h : w.cell? ⟨Hb, 0, none⟩ = some (.slice a n c)) : (method 282 124 (.pointer (some ⟨Hb, 0, none⟩)) "Len").run Try.prog w = .ok (101, .slice a n c) w := method_val "Len" _ (by kernel_rfl) _ (by decide) Hb a n c w h
theorem m_less (Hb : Nat) (a : Option Addr) (n c : Nat) (w : World) (h : w.cell? ⟨Hb, 0, none⟩ = some (.slice a n c)) : (method 282 124 (.pointer (some ⟨Hb, 0, none⟩)) "Less").run Try.prog w = .ok (153, .slice a n c) w := method_val "Less" _ (by kernel_rfl) _ (by decide) Hb a n c w h
theorem m_swap (Hb : Nat) (a : Option Addr) (n c : Nat) (w : World) (h : w.cell? ⟨Hb, 0, none⟩ = some (.slice a n c)) : (method 282 124 (.pointer (some ⟨Hb, 0, none⟩)) "Swap").run Try.prog w = .ok (156, .slice a n c) w := method_val "Swap" _ (by kernel_rfl) _ (by decide) Hb a n c w h
theorem m_push (a : Addr) (w : World) : (method 282 124 (.pointer (some a)) "Push").run Try.prog w = .ok (155, .pointer (some a)) w := by kernel_rfl
theorem m_pop (a : Addr) (w : World) : (method 282 124 (.pointer (some a)) "Pop").run Try.prog w = .ok (154, .pointer (some a)) w := by kernel_rfl

def ptN (k : Nat) : Value := .pointer (some ⟨k, 0, none⟩)
/-- the nodes: how often each comes, and where it stands -/
def KeysAt (W : World) (K : Nat → Hp.Key) (l : List Nat) : Prop := ∀ k ∈ l, ∃ s x y : Value, W.heap[k]? = some (.cells #[s, x, y, .int .i64 ((K k).1 : Int), .int .i64 ((K k).2 : Int)] 87 (0, 0))
/-- a row of nodes of one's own -/
def RowN (W : World) (g n : Nat) (l : List Nat) : Prop := ∃ cs : Array Value, W.heap[g]? = some (.cells cs 83 (0, 0)) ∧ l.length = n ∧ ∀ i, i < n → cs[i]? = some (ptN (l.getD i 0))

set_option maxHeartbeats 400000 in
theorem hpLen (a : Option Addr) (n c : Nat) (w : World) : Calls Try.prog 101 #[.slice a n c] w fun e w' => e = .returned (.int .i64 (n : Int)) ∧ w' = w := by
  go_enter Try.func101, Try.ntmps101
  go_wp2_with fail
  go_ret
  exact ⟨rfl, rfl⟩
theorem RowN.cell {W : World} {g n : Nat} {l : List Nat} (h : RowN W g n l) {i : Nat} (hi : i < n) : W.cell? ⟨g, i, none⟩ = some (ptN (l.getD i 0)) ∧ W.frozen? ⟨g, i, none⟩ = false := by
  obtain ⟨cs, h1, h2, h3⟩ := h
  simp [World.cell?, World.frozen?, h1, h3 i hi]
theorem getD_mem {l : List Nat} {i : Nat} (h : i < l.length) : l.getD i 0 ∈ l := by
  rw [List.getD_eq_getElem?_getD, List.getElem?_eq_getElem h]; exact List.getElem_mem h
set_option maxHeartbeats 2000000 in
set_option maxRecDepth 20000 in
theorem hpLess (g n c : Nat) (l : List Nat) (K : Nat → Hp.Key) (i j : Nat) (w : World) (hi : i < n) (hj : j < n) (hR : RowN w g n l) (hK : KeysAt w K l) (hKb : ∀ k ∈ l, (K k).1 ≤ 100000000 ∧ (K k).2 ≤ 100000000) :
    Calls Try.prog 153 #[.slice (some ⟨g, 0, none⟩) n c, .int .i64 (i : Int), .int .i64 (j : Int)] w fun e w' => e = .returned (.bool (decide (Hp.klt (K (l.getD i 0)) (K (l.getD j 0))))) ∧ ∃ q, w' = w.drewN q := by
  have hl : l.length = n := by obtain ⟨cs, h1, h2, h3⟩ := hR; exact h2
  have ci := (hR.cell hi).1
  have cj := (hR.cell hj).1
  have mi := getD_mem (l := l) (i := i) (by omega)
  have mj := getD_mem (l := l) (i := j) (by omega)
  obtain ⟨s1, x1, y1, hk1⟩ := hK _ mi
  obtain ⟨s2, x2, y2, hk2⟩ := hK _ mj
  have hb1 := hKb _ mi
  have hb2 := hKb _ mj
  unfold ptN at ci cj
  generalize l.getD i 0 = a at *
  generalize l.getD j 0 = b at *
  have o1 : w.cell? ⟨a, 3, none⟩ = some (.int .i64 ((K a).1 : Int)) := by simp [World.cell?, hk1]
  have o2 : w.cell? ⟨b, 3, none⟩ = some (.int .i64 ((K b).1 : Int)) := by simp [World.cell?, hk2]
  have p1 : w.cell? ⟨a, 4, none⟩ = some (.int .i64 ((K a).2 : Int)) := by simp [World.cell?, hk1]
  have p2 : w.cell? ⟨b, 4, none⟩ = some (.int .i64 ((K b).2 : Int)) := by simp [World.cell?, hk2]
  have hkl : Hp.klt (K a) (K b) ↔ (K a).1 < (K b).1 ∨ ((K a).1 = (K b).1 ∧ (K a).2 < (K b).2) := Iff.rfl
  obtain ⟨D, hD⟩ : ∃ D, D = decide (Hp.klt (K a) (K b)) := ⟨_, rfl⟩
  rw [← hD]
  generalize K a = ka at *
  generalize K b = kb at *
  obtain ⟨u1, v1⟩ := ka
  obtain ⟨u2, v2⟩ := kb
  dsimp only at *
  have hii : (i : Int) < (n : Int) := by omega
  have hji : (j : Int) < (n : Int) := by omega
  clear hR hK hKb hk1 hk2 mi mj hl
  by_cases hne : u1 = u2
  · have d1 : (((u1 : Nat) : Int) != ((u2 : Nat) : Int)) = false := by rw [hne]; simp
    have HD : Hid (decide (v1 < v2) = D) := by
      show _ = _
      rw [hD]
      exact decide_eq_decide.2 (by rw [hkl]; omega)
    clear hD hkl hne
    go_enter Try.func153, Try.ntmps153
    go_wp2_with fail
    go_quiet (fail)
    go_wp2_with fail
    go_quiet (fail)
    go_wp2_with fail
    go_ret
    exact ⟨by show Ending.returned (Value.bool (decide (v1 < v2))) = _; rw [HD.out], _, by rw [World.drewN_drewN]⟩
  · have d1 : (((u1 : Nat) : Int) != ((u2 : Nat) : Int)) = true := by rw [bne_iff_ne]; omega
    have HD : Hid (decide (u1 < u2) = D) := by
      show _ = _
      rw [hD]
      exact decide_eq_decide.2 (by rw [hkl]; omega)
    clear hD hkl hne
    go_enter Try.func153, Try.ntmps153
    go_wp2_with fail
    go_quiet (fail)
    go_wp2_with fail
    go_quiet (fail)
    go_wp2_with fail
    go_ret
    exact ⟨by show Ending.returned (Value.bool (decide (u1 < u2))) = _; rw [HD.out], _, by rw [World.drewN_drewN]⟩

def SwapEnd (g : Nat) (l : List Nat) (i j : Nat) (w : World) (e : Ending) (w' : World) : Prop := (∃ v, e = .returned v) ∧ ∃ q, w' = ((w.setCell ⟨g, i, none⟩ (ptN (l.getD j 0))).setCell ⟨g, j, none⟩ (ptN (l.getD i 0))).drewN q
set_option maxHeartbeats 4000000 in
set_option maxRecDepth 20000 in
theorem hpSwap (g n c : Nat) (l : List Nat) (i j : Nat) (w : World) (hi : i < n) (hj : j < n) (hR : RowN w g n l) :
    Calls Try.prog 156 #[.slice (some ⟨g, 0, none⟩) n c, .int .i64 (i : Int), .int .i64 (j : Int)] w (SwapEnd g l i j w) := by
  obtain ⟨ci, fi⟩ := hR.cell hi
  obtain ⟨cj, fj⟩ := hR.cell hj
  have hii : (i : Int) < (n : Int) := by omega
  have hji : (j : Int) < (n : Int) := by omega
  unfold ptN at ci cj
  have HF : Hid (∀ (e : Ending) (W' : World), (∃ v, e = .returned v) → (∃ q, W' = (((w.setCell ⟨g, i, none⟩ (ptN (l.getD j 0))).setCell ⟨g, j, none⟩ (ptN (l.getD i 0))).drewN q)) → SwapEnd g l i j w e W') := fun e W' hv hq => ⟨hv, hq⟩
  obtain ⟨x2, c2⟩ : ∃ x2, (w.setCell ⟨g, i, none⟩ (ptN (l.getD j 0))).cell? ⟨g, j, none⟩ = some x2 := by
    by_cases e : i = j
    · subst e
      exact ⟨_, World.cell?_setCell_same _ _ _ ci⟩
    · exact ⟨_, (World.cell?_setCell_other _ _ _ _ (fun q => e (congrArg Addr.off q))).trans cj⟩
  unfold ptN at HF c2
  generalize l.getD i 0 = a at *
  generalize l.getD j 0 = b at *
  clear hR
  go_enter Try.func156, Try.ntmps156
  go_wp2_with fail
  go_region
  all_goals (
    go_wp2_with fail
    go_end0
    exact HF.out _ _ ⟨_, rfl⟩ ⟨1, rfl⟩)
end Go.Proofs.Ytcolgcddhchkhaa
