/- Nodes of a tree in memory, as the specification has them. -/
import Derived.Test.YtcolgcddhchkhaaCfMath
import Derived.Test.YtcolgcddhchkhaaAppInts
import Derived.Test.YtcolgcddhchkhaaDrawRow
import Derived.Deep.AppendLies
import Derived.Laws.OwnMore
namespace Go.Proofs.Ytcolgcddhchkhaa
open Go.RowKit

theorem info_node : (Try.prog.info? 132).map (fun i => (i.zero, i.size, i.bytes)) = some (some (.agg #[.int .i64 0, .slice none 0 0]), 2, 32) := by kernel_rfl

/-- symbols: where they lie, how many there is room for, which they are -/
abbrev Sy := Option Addr × Nat × List Nat
def syV (s : Sy) : Value := .slice s.1 s.2.2.length s.2.1
/-- nodes as they lie in memory -/
def ndCells : List Nat → List Sy → List Value
  | w :: ws, s :: ss => .int .i64 (w : Int) :: syV s :: ndCells ws ss
  | _, _ => []
theorem ndCells_len : ∀ (ws : List Nat) (ss : List Sy), ws.length = ss.length → (ndCells ws ss).length = ws.length * 2
  | [], [], _ => rfl
  | [], _ :: _, h => by simp at h
  | _ :: _, [], h => by simp at h
  | w :: ws, s :: ss, h => by
    simp only [ndCells, List.length_cons, ndCells_len ws ss (by simpa using h)]; omega
theorem ndCells_snoc : ∀ (ws : List Nat) (ss : List Sy) (w : Nat) (s : Sy), ws.length = ss.length → ndCells ws ss ++ [.int .i64 (w : Int), syV s] = ndCells (ws ++ [w]) (ss ++ [s])
  | [], [], w, s, _ => rfl
  | [], _ :: _, _, _, h => by simp at h
  | _ :: _, [], _, _, h => by simp at h
  | x :: ws, y :: ss, w, s, h => by simp only [ndCells, List.cons_append, ndCells_snoc ws ss w s (by simpa using h)]
theorem ndCells_get : ∀ (ws : List Nat) (ss : List Sy) (h : ws.length = ss.length) (i : Nat) (hi : i < ws.length), (ndCells ws ss)[i * 2]? = some (.int .i64 (ws[i] : Int)) ∧ (ndCells ws ss)[i * 2 + 1]? = some (syV (ss[i]'(by omega)))
  | w :: ws, s :: ss, h, 0, hi => by simp [ndCells]
  | w :: ws, s :: ss, h, i + 1, hi => by
    have := ndCells_get ws ss (by simpa using h) i (by simpa using hi)
    rw [show (i + 1) * 2 = i * 2 + 1 + 1 by omega, show i * 2 + 1 + 1 + 1 = i * 2 + 1 + 1 + 1 from rfl]
    simp only [ndCells, List.getElem?_cons_succ, List.getElem_cons_succ]
    exact this

/-- symbols in a row behind the block Q -/
def SymRow (Q : Nat) (W : World) (s : Sy) : Prop := s.2.2.length ≤ s.2.1 ∧ (s.2.2 = [] ∨ ∃ b cs fr, s.1 = some ⟨b, 0, none⟩ ∧ Q < b ∧ W.heap[b]? = some (.cells cs 3 fr) ∧ ∀ i (h : i < s.2.2.length), cs[i]? = some (.int .i64 (s.2.2[i] : Int)))
/-- rows of ints behind Q stay -/
def IntK (Q : Nat) (W W' : World) : Prop := W.heap.size ≤ W'.heap.size ∧ ∀ b cs fr, Q < b → W.heap[b]? = some (.cells cs 3 fr) → W'.heap[b]? = some (.cells cs 3 fr)
theorem IntK.refl (Q : Nat) (W : World) : IntK Q W W := ⟨Nat.le_refl _, fun _ _ _ _ h => h⟩
theorem IntK.trans {Q : Nat} {A B C : World} (h : IntK Q A B) (k : IntK Q B C) : IntK Q A C := ⟨Nat.le_trans h.1 k.1, fun b cs fr hb hc => k.2 b cs fr hb (h.2 b cs fr hb hc)⟩
theorem IntK.alloc {Q : Nat} {A B : World} (h : IntK Q A B) (o : Obj) : IntK Q A (B.alloc o) := h.trans ⟨by simp, fun b _ _ _ hc => (Below.heap_alloc B o b (Array.getElem?_eq_some_iff.1 hc).1).trans hc⟩
theorem IntK.drew {Q : Nat} {A B : World} (h : IntK Q A B) : IntK Q A B.drew := h
theorem IntK.drewN {Q : Nat} {A B : World} (h : IntK Q A B) (m : Nat) : IntK Q A (B.drewN m) := h
theorem IntK.out {Q : Nat} {A B : World} (h : IntK Q A B) (i : Nat) (v : Value) : IntK Q A (B.setCell ⟨Q, i, none⟩ v) := h.trans ⟨by simp, fun b _ _ hb hc => by rw [Below.heap_setCell B ⟨Q, i, none⟩ v b (by show b ≠ Q; omega)]; exact hc⟩
/-- the row of another type grows -/
theorem IntK.grown {Q : Nat} {A B C : World} {v : Value} {lo n size : Nat} {e : TypeId} {xs : List Value} (h : IntK Q A B) (hr : B.ownsRow lo e size v n xs) (he : e ≠ 3) (hg : B.grownBy C v.ownBlock) : IntK Q A C :=
  h.trans ⟨hg.size, fun b _ _ _ hc => (hg.block b (Array.getElem?_eq_some_iff.1 hc).1 (fun eb => by
    rcases hr.2 with ⟨rfl, _⟩ | ⟨g, cap, cur, rfl, _, hgg, _⟩
    · cases eb
    · simp [Value.ownBlock] at eb
      subst eb
      rw [hgg] at hc
      cases hc
      exact he rfl)).trans hc⟩
theorem IntK.below {Q : Nat} {A B C : World} (h : IntK Q A B) (hb : Below B.heap.size B C) : IntK Q A C := h.trans ⟨hb.size, fun b _ _ _ hc => (hb.block b (Array.getElem?_eq_some_iff.1 hc).1).trans hc⟩
theorem SymRow.kept {Q : Nat} {W W' : World} {s : Sy} (h : SymRow Q W s) (k : IntK Q W W') : SymRow Q W' s := by
  refine ⟨h.1, ?_⟩
  rcases h.2 with e | ⟨b, cs, fr, h1, h2, h3, h4⟩
  · exact .inl e
  · exact .inr ⟨b, cs, fr, h1, h2, k.2 b cs fr h2 h3, h4⟩
theorem SymRow.ints {Q : Nat} {W : World} {s : Sy} (h : SymRow Q W s) : Ints W s.1 (s.2.2.map (fun x : Nat => (x : Int))) := by
  rcases h.2 with e | ⟨b, cs, fr, h1, h2, h3, h4⟩
  · left; rw [e]; rfl
  · refine .inr ⟨b, 0, h1, (Array.getElem?_eq_some_iff.1 h3).1, fun i hi => ?_⟩
    rw [List.length_map] at hi
    rw [Nat.zero_add, List.getElem_map]
    simp [World.cell?, h3, h4 i hi]
theorem SymRow.low {Q : Nat} {W W' : World} {s : Sy} (h : SymRow Q W s) (hk : ∀ k, k < W.heap.size → Q < k → W'.heap[k]? = W.heap[k]?) : SymRow Q W' s := by
  refine ⟨h.1, ?_⟩
  rcases h.2 with e | ⟨b, cs, fr, h1, h2, h3, h4⟩
  · exact .inl e
  · exact .inr ⟨b, cs, fr, h1, h2, (hk b (Array.getElem?_eq_some_iff.1 h3).1 h2).trans h3, h4⟩
/-- symbols that lie in a row of the call's own -/
theorem symRow_own {Q lo n c : Nat} {W : World} {a : Option Addr} {l : List Nat} (h : OwnI W lo (.slice a n c) n (l.map (fun x : Nat => (x : Int)))) (hQ : Q < lo) : SymRow Q W (a, c, l) := by
  have hl := h.len
  rw [List.length_map] at hl
  rcases h.2 with ⟨e, h0⟩ | ⟨g, cap, cur, e, h1, h2, h3, _, _, h6⟩
  · cases e
    have : l = [] := List.eq_nil_of_length_eq_zero (by omega)
    subst this
    exact ⟨Nat.le_refl _, .inl rfl⟩
  · cases e
    refine ⟨by show l.length ≤ c; omega, .inr ⟨g, cur, (0, 0), rfl, by omega, h2, fun i hi => ?_⟩⟩
    have hi' : i < l.length := hi
    have : (cur.toList.take (n * 1))[i]? = some (.int .i64 ((l[i] : Nat) : Int)) := by
      rw [h6, intsV_get _ i (by rw [List.length_map]; exact hi'), List.getElem_map]
    rw [List.getElem?_take_of_lt (by omega)] at this
    simpa using this

/-- a list of nodes of the call's own -/
def Nodes (Q lo : Nat) (W : World) (v : Value) (ws : List Nat) (ss : List Sy) : Prop :=
  Q < lo ∧ ws.length = ss.length ∧ W.ownsRow lo 132 2 v ws.length (ndCells ws ss) ∧ ∀ s ∈ ss, SymRow Q W s
theorem Nodes.shape {Q lo : Nat} {W : World} {v : Value} {ws : List Nat} {ss : List Sy} (h : Nodes Q lo W v ws ss) : ∃ a c, v = .slice a ws.length c ∧ ws.length ≤ c := by
  rcases h.2.2.1.2 with ⟨rfl, h0⟩ | ⟨g, cap, cur, rfl, _, _, h1, _⟩
  · rw [h0]; exact ⟨none, 0, rfl, Nat.le_refl _⟩
  · exact ⟨_, cap, rfl, h1⟩
theorem Nodes.at {Q lo : Nat} {W : World} {a : Option Addr} {n c : Nat} {ws : List Nat} {ss : List Sy} (h : Nodes Q lo W (.slice a n c) ws ss) {i : Nat} (hi : i < ws.length) :
    ∃ g, a = some ⟨g, 0, none⟩ ∧ W.cell? ⟨g, i * 2, none⟩ = some (.int .i64 (ws[i] : Int)) ∧ W.cell? ⟨g, i * 2 + 1, none⟩ = some (syV (ss[i]'(by rw [← h.2.1]; exact hi))) ∧ SymRow Q W (ss[i]'(by rw [← h.2.1]; exact hi)) := by
  obtain ⟨_, h1, h2, h3⟩ := h
  rcases h2.2 with ⟨e, h0⟩ | ⟨g, cap, cur, e, _, hg, _⟩
  · omega
  · cases e
    obtain ⟨c1, c2⟩ := ndCells_get ws ss h1 i hi
    refine ⟨g, rfl, ?_, ?_, h3 _ (List.getElem_mem _)⟩
    · have := World.ownsRow.cells h2 (g := g) rfl (i * 2) _ c1
      rw [show (⟨g, 0, none⟩ : Addr).add (i * 2) = ⟨g, i * 2, none⟩ by simp [Addr.add]; try omega] at this
      exact this
    · have := World.ownsRow.cells h2 (g := g) rfl (i * 2 + 1) _ c2
      rw [show (⟨g, 0, none⟩ : Addr).add (i * 2 + 1) = ⟨g, i * 2 + 1, none⟩ by simp [Addr.add]; try omega] at this
      exact this
theorem Nodes.same {Q lo : Nat} {W W' : World} {v : Value} {ws : List Nat} {ss : List Sy} (h : Nodes Q lo W v ws ss) (hk : ∀ k, k < W.heap.size → Q < k → W'.heap[k]? = W.heap[k]?) : Nodes Q lo W' v ws ss := by
  refine ⟨h.1, h.2.1, ⟨h.2.2.1.1, ?_⟩, fun s hs => ?_⟩
  · rcases h.2.2.1.2 with h2 | ⟨g, cap, cur, hv, hg, hh, r⟩
    · exact .inl h2
    · exact .inr ⟨g, cap, cur, hv, hg, (hk g (Array.getElem?_eq_some_iff.1 hh).1 (by have := h.1; omega)).trans hh, r⟩
  · exact (h.2.2.2 s hs).low hk
theorem Nodes.lower {Q lo lo' : Nat} {W : World} {v : Value} {ws : List Nat} {ss : List Sy} (h : Nodes Q lo W v ws ss) (hl : lo' ≤ lo) (hQ : Q < lo') : Nodes Q lo' W v ws ss := by
  refine ⟨hQ, h.2.1, ⟨h.2.2.1.1, ?_⟩, h.2.2.2⟩
  rcases h.2.2.1.2 with h2 | ⟨g, cap, cur, hv, hg, r⟩
  · exact .inl h2
  · exact .inr ⟨g, cap, cur, hv, by omega, r⟩
theorem nodes_none (Q : Nat) (W : World) (hQ : Q < W.heap.size) : Nodes Q W.heap.size (W.alloc (.cells #[] 132)) (.slice (some ⟨W.heap.size, 0, none⟩) 0 0) [] [] :=
  ⟨hQ, rfl, ⟨rfl, .inr ⟨W.heap.size, 0, #[], rfl, Nat.le_refl _, heap_alloc_new W _, Nat.le_refl _, Nat.zero_le _, rfl, rfl⟩⟩, fun _ h => by simp at h⟩

/-- a node is put behind others -/
theorem wpList_appN {ops : Array Oper} {rest : List Oper} {o : Oper} {ac : Act} {K : Exit → Act → World → Prop} (w0 : World) (hgd : o.guard = none) (x y : Operand)
    (ho : o.op = .call { callee := .builtin .append, args := #[x, y], argTypes := #[130, 130] })
    (Q lo : Nat) (v : Value) (ws : List Nat) (ss : List Sy) (wt n : Nat) (s : Sy) (hs : ac.eval x = v) (hown : Nodes Q lo w0 v ws ss) (hwn : ws.length = n) (hsy : SymRow Q w0 s) (H : Nat) (hH : w0.heap.size = H) (hx : ac.eval y = .slice (some ⟨H, 0, none⟩) 1 1) (hn : n ≤ 2000000) (hb : lo ≤ w0.heap.size)
    (h : ∀ g cap w', Nodes Q lo w' (.slice (some ⟨g, 0, none⟩) (n + 1) cap) (ws ++ [wt]) (ss ++ [s]) → IntK Q w0 w' → Below lo w0 w' → wpList Try.prog ops K rest (ac.put o.dst (.slice (some ⟨g, 0, none⟩) (n + 1) cap)) w') :
    wpList Try.prog ops K (o :: rest) ac (w0.alloc (.cells #[.int .i64 (wt : Int), syV s] 132)) := by
  subst hwn
  subst hH
  obtain ⟨i0, hi0, hz0, hz1, hz2⟩ := info_parts info_node
  have hA : (w0.alloc (.cells #[.int .i64 (wt : Int), syV s] 132)).ownsRow lo 132 2 v ws.length (ndCells ws ss) := World.ownsRow.alloc hown.2.2.1 _
  refine wpList_append_lies _ hgd x y _ ho lo 132 i0 (.agg #[.int .i64 0, .slice none 0 0]) 2 32 Try.underlying130 hi0 hz0 hz1 hz2 rfl (by decide) v ws.length (ndCells ws ss) hs hA ⟨w0.heap.size, 0, none⟩ 1 1 [.int .i64 (wt : Int), syV s] hx rfl (World.news_of_block (heap_alloc_new _ _)) (fun u hu => by simp at hu; rcases hu with rfl | rfl <;> rfl) (by decide) (by unfold maxLen; omega) (by omega) (Nat.le_trans hb (by simp)) _ rfl ?_
  intro g cap w' hown' hg hat hlt
  have hk : IntK Q w0 w' := ((IntK.refl Q w0).alloc _).grown hA (by decide) hg
  refine h g cap w' ⟨hown.1, by simp [hown.2.1], ?_, fun t ht => ?_⟩ hk ?_
  · rw [List.length_append, List.length_singleton, ← ndCells_snoc _ _ _ _ hown.2.1]; exact hown'
  · rcases List.mem_append.1 ht with ht | ht
    · exact (hown.2.2.2 t ht).kept hk
    · rw [List.mem_singleton] at ht; subst ht; exact hsy.kept hk
  · exact ((Below.refl _ _).alloc hb _).trans ((Below.refl _ _).grown hg (Nat.le_trans hb (by simp)) (fun j hj => (World.ownsRow.lt hown.2.2.1 j hj).1))
end Go.Proofs.Ytcolgcddhchkhaa
