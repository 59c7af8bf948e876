/- A reader over a code that came in, and drawn texts. -/
import Derived.Test.YtcolgcddhchkhaaTextWalks
namespace Go.Proofs.Ytcolgcddhchkhaa
open Go.RowKit

theorem below_alloc0 {a w : World} (h : Below a.heap.size a w) (o : Obj) : Below a.heap.size a (w.alloc o) := h.alloc h.size o

/-- what the walks are told of a code that came in -/
def Code8 (w : World) (a : Option Addr) (len cap : Nat) : Prop := len ≤ cap ∧ cap ≤ maxLen ∧ Row8 w w.heap.size a len

theorem Code8.kept {w w' : World} {a : Option Addr} {len cap : Nat} (h : Code8 w a len cap) (hb : Below w.heap.size w w') : Code8 w' a len cap := by
  obtain ⟨h1, h2, hr⟩ := h
  refine ⟨h1, h2, ?_⟩
  rcases hr with h | ⟨b, off, rfl, hbB, hc⟩
  · exact .inl h
  · refine .inr ⟨b, off, rfl, Nat.lt_of_lt_of_le hbB hb.size, fun i hi => ?_⟩
    obtain ⟨c, hc1, hc2⟩ := hc i hi
    exact ⟨c, hc1, (hb.cell (p := ⟨b, off + i, none⟩) hbB).trans hc2⟩

theorem Row8.less {w : World} {B : Nat} {a : Option Addr} {len k : Nat} (h : Row8 w B a len) (hk : k ≤ len) : Row8 w B a k := by
  rcases h with h | ⟨b, off, rfl, hb, hc⟩
  · exact .inl (by omega)
  · exact .inr ⟨b, off, rfl, hb, fun i hi => hc i (by omega)⟩

theorem rd_new {w : World} {a : Option Addr} {len cap : Nat} (hr : Row8 w w.heap.size a len) (hl : len ≤ 2000) :
    RdAt (w.alloc (.cells #[.slice a len cap, .int .i64 0] 81)) w.heap.size 0 := by
  refine ⟨a, len, cap, ?_, ?_, ?_, hl, ?_⟩
  · rw [World.cell?_alloc_at _ _ _ _ rfl]; rfl
  · rw [World.cell?_alloc_at _ _ _ _ rfl]; rfl
  · rw [World.frozen?_alloc_at _ _ _ _ rfl]
  · rcases hr with h | ⟨b, off, rfl, hb, hc⟩
    · exact .inl h
    · refine .inr ⟨b, off, rfl, hb, fun i hi => ?_⟩
      obtain ⟨c, hc1, hc2⟩ := hc i hi
      exact ⟨c, hc1, (World.cell?_alloc_past _ _ _ hb).trans hc2⟩

set_option maxHeartbeats 400000 in
theorem open_any (a : Option Addr) (len cap : Nat) (w : World) (h : Code8 w a len cap) :
    Calls Try.prog 37 #[.slice a len cap] w fun e w' => e = .returned (.pointer (some ⟨w.heap.size, 0, none⟩)) ∧ RdAt w' w.heap.size 0 ∧ Below w.heap.size w w' := by
  obtain ⟨h1, h2, hr⟩ := h
  unfold maxLen at h2
  by_cases hb : 2000 < len
  · have hR := rd_new (cap := cap) (hr.less (show 2000 ≤ len by omega)) (by omega)
    have hcap : (2000 : Int) ≤ (cap : Int) := by omega
    rcases hr with h | ⟨b, off, rfl, hbB, hc⟩
    · omega
    · clear hc
      go_enter Try.func37, Try.ntmps37
      go_wp2
      go_ret
      exact ⟨rfl, hR, (Below.refl _ _).alloc (Nat.le_refl _) _⟩
  · have hR := rd_new (cap := cap) hr (by omega)
    clear hr
    go_enter Try.func37, Try.ntmps37
    go_wp2
    go_ret
    exact ⟨rfl, hR, (Below.refl _ _).alloc (Nat.le_refl _) _⟩

/-- the contract of a pick, its world under a name -/
theorem pick_named (B p : Nat) (n : Int) (w : World) (hr : RdAt w B p) (hn : 1 ≤ n) (hn' : n ≤ 1000000000) (hp : p ≤ 1000000000) :
    Calls Try.prog 39 #[.pointer (some ⟨B, 0, none⟩), .int .i64 n] w fun e w' => ∃ v : Nat, e = .returned (.int .i64 (v : Int)) ∧ (v : Int) < n ∧ RdAt w' B (p + 1) ∧ Only B w w' ∧ w'.heap.size = w.heap.size := by
  refine (pick_any B p n w hr hn hn' hp).mono ?_
  rintro e w' ⟨v, m, rfl, hv, rfl⟩
  exact ⟨v, rfl, hv, hr.step m, step_only w B _ m, by simp⟩
end Go.Proofs.Ytcolgcddhchkhaa
