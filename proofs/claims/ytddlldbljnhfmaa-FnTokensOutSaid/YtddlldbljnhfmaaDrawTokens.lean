/- Tokens, drawn of a code. -/
import Derived.Test.YtddlldbljnhfmaaTkSpec
import Derived.Test.YtddlldbljnhfmaaDrawWalks
import Derived.Test.YtddlldbljnhfmaaTextWalks
namespace Go.Proofs.Ytddlldbljnhfmaa
open Go.RowKit

/-- tokens were drawn -/
def OutDrawn (w : World) (e : Ending) (w' : World) : Prop :=
  ∃ (l : List Tk) (ao : Option Addr) (cap : Nat), e = .returned (.slice ao l.length cap) ∧ l.length ≤ 5001 ∧ l.length ≤ cap ∧ Toks w' ao l ∧ Below w.heap.size w w'
theorem OwnK.fits {w : World} {B n cap : Nat} {a : Option Addr} {l : List Tk} (h : OwnK w B (.slice a n cap) n l) : n ≤ cap := by
  rcases h.2 with ⟨e, h0⟩ | ⟨g, c, cur, e, _, _, h1, _⟩
  · omega
  · cases e; omega
theorem outDrawn_own {w w' : World} {B : Nat} {l : List Tk} {ao : Option Addr} {n cap : Nat} (h : OwnK w' B (.slice ao n cap) n l) (hl : n ≤ 5001) (hb : Below w.heap.size w w') : OutDrawn w (.returned (.slice ao n cap)) w' := by
  have hn := h.len
  subst hn
  obtain ⟨ao', c', e, hc⟩ := h.toks
  have hf := h.fits
  cases e
  exact ⟨l, ao, cap, rfl, hl, hf, hc, hb⟩
theorem three_cell (W : World) (x y z : Int) (k : Nat) (hk : k < 3) : ∃ u : Int, (W.alloc (.cells #[.int .i64 x, .int .i64 y, .int .i64 z] 3)).cell? ⟨W.heap.size, k, none⟩ = some (.int .i64 u) := by
  have h : k = 0 ∨ k = 1 ∨ k = 2 := by omega
  rcases h with rfl | rfl | rfl
  · exact ⟨x, by rw [World.cell?_alloc_at _ _ _ _ rfl]; rfl⟩
  · exact ⟨y, by rw [World.cell?_alloc_at _ _ _ _ rfl]; rfl⟩
  · exact ⟨z, by rw [World.cell?_alloc_at _ _ _ _ rfl]; rfl⟩
/-- the reader and a list of tokens beside it -/
def Tst (w : World) (B q : Nat) (ao : Option Addr) (n cap : Nat) (l : List Tk) (wr : World) : Prop :=
  RdAt wr B q ∧ OwnK wr (B + 1) (.slice ao n cap) n l ∧ Below B w wr
theorem Tst.next {w wr w2 : World} {B q q' n cap : Nat} {ao : Option Addr} {l : List Tk} (h : Tst w B q ao n cap l wr) (o : Only B wr w2) (hR : RdAt w2 B q') : Tst w B q' ao n cap l w2 :=
  ⟨hR, h.2.1.same (fun k hk hb => o.rest k hk (by omega)), h.2.2.trans o.below⟩
/-- one number of a token is another one -/
theorem Tst.put {w wr : World} {B q n cap g k j : Nat} {l : List Tk} (h : Tst w B q (some ⟨g, 0, none⟩) n cap l wr) (hk : k < n) (hj : j < 3) (u : Int) : ∃ l', OwnK (wr.setCell ⟨g, k * 3 + j, none⟩ (.int .i64 u)) (B + 1) (.slice (some ⟨g, 0, none⟩) n cap) n l' := by
  have hl := h.2.1.len
  have h1 := (World.ownsRow.stored (show World.ownsRow _ _ _ _ _ _ _ from h.2.1) (k * 3 + j) (.int .i64 u)).1
  have key : ∃ l', (tkCells l).set (k * 3 + j) (.int .i64 u) = tkCells l' := by
    have hs := tkCells_set l k
    obtain ⟨c1, c2, c3⟩ := tkCells_get l k (by omega)
    have hj' : j = 0 ∨ j = 1 ∨ j = 2 := by omega
    have self : ∀ (i : Nat) (v : Value), (tkCells l)[i]? = some v → (tkCells l).set i v = tkCells l := fun i v hv => by
      obtain ⟨hi, e⟩ := List.getElem?_eq_some_iff.1 hv
      rw [← e, List.set_getElem_self]
    rcases hj' with rfl | rfl | rfl
    · refine ⟨l.set k (u, (l[k]'(by omega)).2.1, (l[k]'(by omega)).2.2), ?_⟩
      rw [← hs _ _ _ (by omega)]
      have e2 : ((tkCells l).set (k * 3) (.int .i64 u)).set (k * 3 + 1) (.int .i64 (l[k]'(by omega)).2.1) = (tkCells l).set (k * 3) (.int .i64 u) := by
        rw [List.set_comm _ _ (by omega), self _ _ c2]
      have e3 : ((tkCells l).set (k * 3) (.int .i64 u)).set (k * 3 + 2) (.int .i64 (l[k]'(by omega)).2.2) = (tkCells l).set (k * 3) (.int .i64 u) := by
        rw [List.set_comm _ _ (by omega), self _ _ c3]
      rw [e2, e3]; rfl
    · refine ⟨l.set k ((l[k]'(by omega)).1, u, (l[k]'(by omega)).2.2), ?_⟩
      rw [← hs _ _ _ (by omega), self _ _ c1, List.set_comm _ _ (by omega), self _ _ c3]
    · refine ⟨l.set k ((l[k]'(by omega)).1, (l[k]'(by omega)).2.1, u), ?_⟩
      rw [← hs _ _ _ (by omega), self _ _ c1, self _ _ c2]
  obtain ⟨l', e⟩ := key
  rw [e] at h1
  exact ⟨l', h1⟩
end Go.Proofs.Ytddlldbljnhfmaa
