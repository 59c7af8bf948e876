/- Ints appended to a row of the call's own: none or more. -/
import Derived.Test.YtjmeaeimpkijmaaGreatDoorIntOwn
import Derived.Test.YtjmeaeimpkijmaaGreatDoorMarkWalks
namespace Go.Proofs.YtjmeaeimpkijmaaGreatDoor
open Go.RowKit

/-- nothing is appended -/
theorem append_nothing (a : Option Addr) (n cap : Nat) (h : n ≤ cap) (b : Option Addr) (c : Nat) (ty : TypeId) (w : World) :
    (Builtin.append_ #[26, 26] ty #[.slice a n cap, .slice b 0 c]).run Tryz.prog w = .ok (.slice a n cap) w := by
  obtain ⟨i0, hi0, hz0, hz1, hz2⟩ := info_parts info_int
  cases a <;> cases b <;> simp [Builtin.append_, run_underlying Tryz.underlying26, sizeOf, typeInfo, hi0, Builtin.lenOf, Builtin.firstCells, h, storeCells, loadCells, loadCellsFrom]

theorem run_append_ints (ty : TypeId) (base : Nat) (v : Value) (n : Nat) (l : List Int) (w : World) (hown : OwnI w base v n l) (ca : Option Addr) (m c : Nat) (cs : List Int) (hc : Ints w ca cs) (hm : cs.length = m) (h63 : n + m ≤ 9000000) (hbase : base ≤ w.heap.size) :
    ∃ a cap w', (Builtin.append_ #[26, 26] ty #[v, .slice ca m c]).run Tryz.prog w = .ok (.slice a (n + m) cap) w' ∧ OwnI w' base (.slice a (n + m) cap) (n + m) (l ++ cs) ∧ w.grownBy w' v.ownBlock := by
  obtain ⟨i0, hi0, hz0, hz1, hz2⟩ := info_parts info_int
  rcases Nat.eq_zero_or_pos m with h0 | hp
  · subst h0
    have hcs : cs = [] := List.eq_nil_of_length_eq_zero hm
    subst hcs
    obtain ⟨ao, cap, rfl, _⟩ := hown.owns
    have hle : n ≤ cap := by
      rcases hown.2 with ⟨e, h0⟩ | ⟨g, cap', cur, e, _, _, h1, _⟩
      · cases e; omega
      · cases e; exact h1
    refine ⟨ao, cap, w, append_nothing ao n cap hle ca c ty w, by simpa using hown, ⟨rfl, rfl, rfl, Nat.le_refl _, fun _ _ _ => rfl⟩⟩
  · rcases hc with e | ⟨b, off, rfl, hb, hcell⟩
    · rw [e] at hm; simp at hm; omega
    · obtain ⟨g, cap, w', hr, h2, h3, _, _⟩ := run_append_lies (P := Tryz.prog) w 26 ty base 3 i0 (.int .i64 0) 1 8 Tryz.underlying26 hi0 hz0 hz1 hz2 rfl (by decide) v n (intsV l) hown ⟨b, off, none⟩ m c (intsV cs) (by rw [intsV_len]; omega)
        (fun j u hu => by
          have hj : j < cs.length := by
            rcases Nat.lt_or_ge j cs.length with h | h
            · exact h
            · rw [List.getElem?_eq_none (by rw [intsV_len]; exact h)] at hu; cases hu
          rw [intsV_get cs j hj] at hu
          cases hu
          have hadd : (⟨b, off, none⟩ : Addr).add j = ⟨b, off + j, none⟩ := by unfold Addr.add; split <;> simp_all
          rw [hadd]; exact hcell j hj)
        (fun u hu => by simp [intsV] at hu; obtain ⟨x, _, rfl⟩ := hu; rfl) hp (by unfold maxLen; omega) (by omega) hbase w.heap.size rfl
      exact ⟨some ⟨g, 0, none⟩, cap, w', hr, by show World.ownsRow _ _ _ _ _ _ _; rw [show intsV (l ++ cs) = intsV l ++ intsV cs by simp [intsV]]; exact h2, h3⟩

theorem wp_append_ints {w : World} {o : Oper} {a : Act} {K : Act → World → Prop} {Q : Exit → Act → World → Prop} (s x : Operand)
    (ho : o.op = .call { callee := .builtin .append, args := #[s, x], argTypes := #[26, 26] })
    (base : Nat) (v : Value) (n : Nat) (l : List Int) (hs : a.eval s = v) (hown : OwnI w base v n l) (ca : Option Addr) (m c : Nat) (cs : List Int) (hx : a.eval x = .slice ca m c) (hc : Ints w ca cs) (hm : cs.length = m) (h63 : n + m ≤ 9000000) (hbase : base ≤ w.heap.size)
    (h : ∀ a' cap w', OwnI w' base (.slice a' (n + m) cap) (n + m) (l ++ cs) → w.grownBy w' v.ownBlock → K (a.put o.dst (.slice a' (n + m) cap)) w') : o.wp Tryz.prog a w K Q := by
  obtain ⟨a', cap, w', hr, h2, h3⟩ := run_append_ints o.type base v n l w hown ca m c cs hc hm h63 hbase
  unfold Oper.wp execOp
  simp only [ho, resolve, invoke, builtin, Sem.run_bind, Sem.run_pure, Result.andThen_ok, List.map_toArray, List.map_cons, List.map_nil, hs, hx, hr]
  exact h a' cap w' h2 h3

theorem wpList_append_ints {w : World} {ops : Array Oper} {rest : List Oper} {o : Oper} {a : Act} {Q : Exit → Act → World → Prop} (hgd : o.guard = none) (s x : Operand)
    (ho : o.op = .call { callee := .builtin .append, args := #[s, x], argTypes := #[26, 26] })
    (base : Nat) (v : Value) (n : Nat) (l : List Int) (hs : a.eval s = v) (hown : OwnI w base v n l) (ca : Option Addr) (m c : Nat) (cs : List Int) (hx : a.eval x = .slice ca m c) (hc : Ints w ca cs) (hm : cs.length = m) (h63 : n + m ≤ 9000000) (hbase : base ≤ w.heap.size)
    (h : ∀ a' cap w', OwnI w' base (.slice a' (n + m) cap) (n + m) (l ++ cs) → w.grownBy w' v.ownBlock → wpList Tryz.prog ops Q rest (a.put o.dst (.slice a' (n + m) cap)) w') : wpList Tryz.prog ops Q (o :: rest) a w :=
  wpList_plain hgd fun _ hK => wp_append_ints s x ho base v n l hs hown ca m c cs hx hc hm h63 hbase fun a' cap w' h2 h3 => hK _ _ (h a' cap w' h2 h3)

theorem step_append_ints {w : World} {ops : Array Oper} {o : Oper} {a : Act} {K : Act → World → Prop} {Q : Exit → Act → World → Prop} {E : Prop} (hgd : o.guard = none) (s x : Operand)
    (ho : o.op = .call { callee := .builtin .append, args := #[s, x], argTypes := #[26, 26] })
    (base : Nat) (v : Value) (n : Nat) (l : List Int) (hs : a.eval s = v) (hown : OwnI w base v n l) (ca : Option Addr) (m c : Nat) (cs : List Int) (hx : a.eval x = .slice ca m c) (hc : Ints w ca cs) (hm : cs.length = m) (h63 : n + m ≤ 9000000) (hbase : base ≤ w.heap.size)
    (h : ∀ a' cap w', OwnI w' base (.slice a' (n + m) cap) (n + m) (l ++ cs) → w.grownBy w' v.ownBlock → K (a.put o.dst (.slice a' (n + m) cap)) w') :
    if Region.wanted o (yielded ops a.tmps) = true then Oper.wp Tryz.prog o a w K Q else E := by
  have hw : Region.wanted o (yielded ops a.tmps) = true := by simp [Region.wanted, hgd]
  rw [if_pos hw]
  exact wp_append_ints s x ho base v n l hs hown ca m c cs hx hc hm h63 hbase h
end Go.Proofs.YtjmeaeimpkijmaaGreatDoor
