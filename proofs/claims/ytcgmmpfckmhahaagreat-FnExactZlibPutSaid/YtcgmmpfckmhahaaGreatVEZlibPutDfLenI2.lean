/- All lengths as symbols, as the program has them; the lengths of lengths in their order; the fixed codes. -/
import Derived.Test.YtcgmmpfckmhahaaGreatVEZlibPutDfLenI
import Derived.Test.YtcgmmpfckmhahaaGreatKEZlibPutx6
import Derived.Test.YtcgmmpfckmhahaaGreatKEZlibPutx0
namespace Go.Proofs.YtcgmmpfckmhahaaGreat
open Go.RowKit

theorem info_sign3 : (Tryz.prog.info? 100).map (fun i => (i.zero, i.size, i.bytes)) = some (some (.agg #[.int .i64 0, .int .i64 0, .int .i64 0]), 3, 24) := by kernel_rfl
theorem make_none (w : World) : (Instr.makeSlice 36 (.int .i64 0) (.int .i64 19)).run Tryz.prog w = .ok (.slice (some ⟨w.heap.size, 0, none⟩) 0 19) (w.alloc (.cells (madeCells #[.int .i64 0] 19) 3)) := by
  obtain ⟨i0, hi, hz0, hz1, hz2⟩ := info_parts info_int
  have h := run_make (P := Tryz.prog) w 36 3 i0 (.int .i64 0) Tryz.underlying36 hi hz0 .i64 .i64 0 19 (by omega) (by omega) (by rw [hz2]; omega) (by omega)
  rw [h, hz1]
  rfl
theorem own_none19 (w : World) : OwnI (w.alloc (.cells (madeCells #[.int .i64 0] 19) 3)) w.heap.size (.slice (some ⟨w.heap.size, 0, none⟩) 0 19) 0 [] :=
  ⟨rfl, .inr ⟨w.heap.size, 19, madeCells #[.int .i64 0] 19, rfl, Nat.le_refl _, heap_alloc_new w _, by decide, by decide, by simp [madeCells], by simp [intsV]⟩⟩
def lord0 : Array Value := Array.replicate 19 (.int .i64 0)
def lordV : Array Value := (Df.lord.map (fun n : Nat => Value.int .i64 (n : Int))).toArray
set_option maxRecDepth 100000 in
theorem zeroLord (w : World) : (zeroValue 131).run Tryz.prog w = .ok (.agg lord0) w := by kernel_rfl
theorem lordV_size : lordV.size = 19 := rfl
theorem lord0_size : lord0.size = 19 := rfl
set_option maxRecDepth 100000 in
set_option maxHeartbeats 1000000 in
theorem lengthOrder_any (w : World) : Calls Tryz.prog 96 #[] w fun e w' => e = .returned (.agg lordV) ∧ Below w.heap.size w w' := by
  have hz := fun w => zeroLord w
  have hg : (w.alloc (.cells lord0 131)).heap[w.heap.size]? = some (.cells lord0 131 (0, 0)) := heap_alloc_new _ _
  go_enter Tryz.func96, Tryz.ntmps96
  have hsz0 : lord0.size = 19 := rfl
  have hne : ¬ lord0 = #[] := by decide
  go_wp2_with (refine wpList_store_row rfl 131 (.tmp 0) (.tmp 1) rfl w.heap.size lordV rfl rfl 131 lord0 hg (by kernel_rfl) (by rw [lordV_size, lord0_size]) (by kernel_rfl) ?_)
  have hs2 := setRow_heap _ _ _ lordV _ _ hg
  refine bodyPost_ret_by (results_cell_row (p := 0) (ty := 131) (by kernel_rfl) _ _ w.heap.size 131 lordV (0, 0) _ rfl hs2 Tryz.underlying131 rfl (by kernel_rfl)) rfl ⟨rfl, ?_⟩
  exact ((Below.refl _ _).alloc (Nat.le_refl _) _).trans ⟨rfl, rfl, rfl, by simp, fun k hk => setRow_other _ _ k _ (by omega)⟩
theorem wpList_app3' {T TS : TypeId} (hT : (Tryz.prog.info? T).map (fun i => (i.zero, i.size, i.bytes)) = some (some (.agg #[.int .i64 0, .int .i64 0, .int .i64 0]), 3, 24)) (hU : Tryz.prog.underlying TS = some (.slice T))
    {ops : Array Oper} {rest : List Oper} {o : Oper} {a : Act} {Q : Exit → Act → World → Prop} (w0 : World) (c0 : Nat) (hc0 : c0 = w0.heap.size) (hgd : o.guard = none) (s x : Operand)
    (ho : o.op = .call { callee := .builtin .append, args := #[s, x], argTypes := #[TS, TS] })
    (base : Nat) (v : Value) (n : Nat) (l : List Tk) (t1 t2 t3 : Int) (hs : a.eval s = v) (hown : Own3 T w0 base v n l) (hx : a.eval x = .slice (some ⟨c0, 0, none⟩) 1 1) (hn : n ≤ 1000000) (hb : base ≤ w0.heap.size)
    (h : ∀ g cap w', Own3 T w' base (.slice (some ⟨g, 0, none⟩) (n + 1) cap) (n + 1) (l ++ [(t1, t2, t3)]) → Below base w0 w' → wpList Tryz.prog ops Q rest (a.put o.dst (.slice (some ⟨g, 0, none⟩) (n + 1) cap)) w') :
    wpList Tryz.prog ops Q (o :: rest) a (w0.alloc (.cells #[.int .i64 t1, .int .i64 t2, .int .i64 t3] T)) := by
  subst hc0
  exact wpList_app3 hT hU w0 hgd s x ho base v n l t1 t2 t3 hs hown hx hn hb h
def SignsEnd (w : World) (l : List Tk) (e : Ending) (w' : World) : Prop := (∃ a n cap, e = .returned (.slice a n cap) ∧ Own3 100 w' w.heap.size (.slice a n cap) n l) ∧ Below w.heap.size w w'
set_option maxHeartbeats 4000000 in
set_option maxRecDepth 20000 in
theorem lengthSigns_any (a : Option Addr) (L cap : Nat) (l : List Int) (w : World) (h : Ints w a l) (hL : l.length = L) (hLb : L ≤ 1000) :
    Calls Tryz.prog 81 #[.slice a L cap] w (SignsEnd w (Df.runs l)) := by
  have HI : Hid (Ints w a l) := h
  have HL : Hid (l.length = L) := hL
  have HLS : Hid (∀ (w' : World) (p : Nat), Below w.heap.size w w' → p < L → Calls Tryz.prog 94 #[.slice a L cap, .int .i64 (p : Int)] w' (RunIs l p w')) := fun w' p b hp => lengthSign_any a L cap p l w' (h.kept b) hL hLb hp
  clear h hL
  obtain ⟨base, hbase⟩ : ∃ base, base = w.heap.size := ⟨_, rfl⟩
  have HO0 : Hid (Own3 100 w base (.slice none 0 0) 0 [] ∧ Below base w w) := ⟨World.ownsRow_nil _ _ _ _, Below.refl _ _⟩
  have HBB : Hid (base = w.heap.size) := hbase
  clear hbase
  go_enter Tryz.func81, Tryz.ntmps81
  go_wp2_with fail
  go_loopw [3, 4] (fun o i wr => ∃ (p m : Nat) (xs : List Tk) (ao : Option Addr) (c : Nat), p ≤ L ∧ m ≤ p ∧ i = .int .i64 (p : Int) ∧ o = .slice ao m c ∧ Hid (Df.runs l = xs ++ Df.runsFrom l p) ∧ Hid (Own3 100 wr base (.slice ao m c) m xs ∧ Below base w wr)) (fun _ i _ => L - (intOf i).toNat)
  case atStart => exact ⟨0, 0, [], _, _, Nat.zero_le _, Nat.le_refl _, rfl, rfl, rfl, HO0⟩
  case round =>
    obtain ⟨p, m, xs, ao, c, hp, hmp, rfl, rfl, HR, HO⟩ := hrel
    clear HO0
    by_cases hlt : p < L
    · have hpi : (p : Int) < (L : Int) := by omega
      have hpl : p < l.length := by rw [HL.out]; exact hlt
      have HBW : Hid (Below w.heap.size w wr) := by have h := HO.out.2; rw [HBB.out] at h; exact h
      have HA := HLS.out wr p HBW.out hlt
      have hst := Df.runs_step hpl
      have hin := Df.run_in hpl
      have hpo := Df.run_pos l p
      rw [HL.out] at hin
      unfold RunIs at HA
      obtain ⟨t, k, hr⟩ : ∃ t k, Df.run l p = (t, k) := ⟨_, _, rfl⟩
      rw [hr] at HA hst hin hpo
      obtain ⟨t1, t2, t3⟩ := t
      dsimp only at HA hst hin hpo
      have HST : Hid (Df.runsFrom l p = (t1, t2, t3) :: Df.runsFrom l (p + k)) := hst
      have HAH : Hid (Calls Tryz.prog 94 #[.slice a L cap, .int .i64 (p : Int)] wr fun e w' => e = .returned (.tuple #[.agg #[.int .i64 t1, .int .i64 t2, .int .i64 t3], .int .i64 (k : Int)]) ∧ Below wr.heap.size wr w') := HA
      obtain ⟨P2, hP2⟩ : ∃ P2, P2 = p + k := ⟨_, rfl⟩
      have eP2 : (p : Int) + (k : Int) = (P2 : Int) := by omega
      have wP2 := wrap_i64_nat P2 (by omega)
      have hP2L : P2 ≤ L := by omega
      have hP2p : p < P2 := by omega
      rw [← hP2] at HST
      clear HA hst hr hin hpo hP2
      go_wp2_with fail
      refine HAH.out.mono ?_
      rintro e w1 ⟨rfl, b1⟩
      have HO1 : Hid (Own3 100 w1 base (.slice ao m c) m xs ∧ Below base w w1 ∧ base ≤ w1.heap.size) := by
        have h3 : base ≤ wr.heap.size := by rw [HBB.out]; exact HBW.out.size
        exact ⟨Own3.below HO.out.1 b1, HO.out.2.trans (b1.mono h3), Nat.le_trans h3 b1.size⟩
      clear b1 HO HAH
      obtain ⟨W, hW⟩ : ∃ W, W = w1.alloc (.cells #[.int .i64 t1, .int .i64 t2, .int .i64 t3] 100) := ⟨_, rfl⟩
      have HOW : Hid (Own3 100 W base (.slice ao m c) m xs ∧ Below base w W ∧ base ≤ W.heap.size) := by
        have b : Below w1.heap.size w1 W := by rw [hW]; exact (Below.refl _ _).alloc (Nat.le_refl _) _
        exact ⟨Own3.below HO1.out.1 b, HO1.out.2.1.trans (b.mono HO1.out.2.2), Nat.le_trans HO1.out.2.2 b.size⟩
      rw [hW] at HOW
      clear HO1 hW
      go_wp2_with (at_builtin; refine wpList_app3' info_sign3 Tryz.underlying109 (w1.alloc (.cells #[.int .i64 t1, .int .i64 t2, .int .i64 t3] 100)) (w1.heap.size + 1) (by simp) (by rfl) _ _ (by rfl) base _ m xs t1 t2 t3 (by rfl) HOW.out.1 (by rfl) (by omega) HOW.out.2.2 ?_)
      intro g7 cap7 w7 hown7 hb7
      have HF : Hid (Own3 100 w7 base (.slice (some ⟨g7, 0, none⟩) (m + 1) cap7) (m + 1) (xs ++ [(t1, t2, t3)]) ∧ Below base w w7) := ⟨hown7, HOW.out.2.1.trans hb7⟩
      have HR2 : Hid (Df.runs l = xs ++ [(t1, t2, t3)] ++ Df.runsFrom l P2) := by
        show _ = _
        rw [HR.out, HST.out, List.append_assoc]
        rfl
      clear hown7 hb7 HOW HR HST
      go_wp2_with fail
      go_roundw
      case rel => exact ⟨P2, m + 1, _, _, _, by omega, by omega, by go_num, rfl, HR2, HF⟩
      case measure => simp [intOf]; omega
    · have hpi : ¬ (p : Int) < (L : Int) := by omega
      have hpl : ¬ p < l.length := by rw [HL.out]; exact hlt
      have HE : Hid (SignsEnd w (Df.runs l) (.returned (.slice ao m c)) wr) := by
        show SignsEnd _ _ _ _
        have h1 := HR.out
        rw [Df.runs_end hpl, List.append_nil] at h1
        have h2 := HO.out
        rw [HBB.out] at h2
        exact ⟨⟨_, _, _, rfl, by rw [h1]; exact h2.1⟩, h2.2⟩
      clear HO HR
      go_wp2_with fail
      go_ret
      exact HE.out
theorem lord_ltI : ∀ k, k < 19 → Df.lord.getD k 0 < 19 := by decide
theorem lord_i0 (w : World) : Sem.run Tryz.prog (Instr.index 131 (.agg lordV) (.int .i64 0)) w = .ok (.int .i64 16) w := by kernel_rfl
theorem lord_i1 (w : World) : Sem.run Tryz.prog (Instr.index 131 (.agg lordV) (.int .i64 1)) w = .ok (.int .i64 17) w := by kernel_rfl
theorem lord_i2 (w : World) : Sem.run Tryz.prog (Instr.index 131 (.agg lordV) (.int .i64 2)) w = .ok (.int .i64 18) w := by kernel_rfl
theorem lord_i3 (w : World) : Sem.run Tryz.prog (Instr.index 131 (.agg lordV) (.int .i64 3)) w = .ok (.int .i64 0) w := by kernel_rfl
theorem lord_i4 (w : World) : Sem.run Tryz.prog (Instr.index 131 (.agg lordV) (.int .i64 4)) w = .ok (.int .i64 8) w := by kernel_rfl
theorem lord_i5 (w : World) : Sem.run Tryz.prog (Instr.index 131 (.agg lordV) (.int .i64 5)) w = .ok (.int .i64 7) w := by kernel_rfl
theorem lord_i6 (w : World) : Sem.run Tryz.prog (Instr.index 131 (.agg lordV) (.int .i64 6)) w = .ok (.int .i64 9) w := by kernel_rfl
theorem lord_i7 (w : World) : Sem.run Tryz.prog (Instr.index 131 (.agg lordV) (.int .i64 7)) w = .ok (.int .i64 6) w := by kernel_rfl
theorem lord_i8 (w : World) : Sem.run Tryz.prog (Instr.index 131 (.agg lordV) (.int .i64 8)) w = .ok (.int .i64 10) w := by kernel_rfl
theorem lord_i9 (w : World) : Sem.run Tryz.prog (Instr.index 131 (.agg lordV) (.int .i64 9)) w = .ok (.int .i64 5) w := by kernel_rfl
theorem lord_i10 (w : World) : Sem.run Tryz.prog (Instr.index 131 (.agg lordV) (.int .i64 10)) w = .ok (.int .i64 11) w := by kernel_rfl
theorem lord_i11 (w : World) : Sem.run Tryz.prog (Instr.index 131 (.agg lordV) (.int .i64 11)) w = .ok (.int .i64 4) w := by kernel_rfl
theorem lord_i12 (w : World) : Sem.run Tryz.prog (Instr.index 131 (.agg lordV) (.int .i64 12)) w = .ok (.int .i64 12) w := by kernel_rfl
theorem lord_i13 (w : World) : Sem.run Tryz.prog (Instr.index 131 (.agg lordV) (.int .i64 13)) w = .ok (.int .i64 3) w := by kernel_rfl
theorem lord_i14 (w : World) : Sem.run Tryz.prog (Instr.index 131 (.agg lordV) (.int .i64 14)) w = .ok (.int .i64 13) w := by kernel_rfl
theorem lord_i15 (w : World) : Sem.run Tryz.prog (Instr.index 131 (.agg lordV) (.int .i64 15)) w = .ok (.int .i64 2) w := by kernel_rfl
theorem lord_i16 (w : World) : Sem.run Tryz.prog (Instr.index 131 (.agg lordV) (.int .i64 16)) w = .ok (.int .i64 14) w := by kernel_rfl
theorem lord_i17 (w : World) : Sem.run Tryz.prog (Instr.index 131 (.agg lordV) (.int .i64 17)) w = .ok (.int .i64 1) w := by kernel_rfl
theorem lord_i18 (w : World) : Sem.run Tryz.prog (Instr.index 131 (.agg lordV) (.int .i64 18)) w = .ok (.int .i64 15) w := by kernel_rfl
set_option maxRecDepth 20000 in
theorem lord_index (k : Nat) (hk : k < 19) (w : World) : Sem.run Tryz.prog (Instr.index 131 (.agg lordV) (.int .i64 (k : Int))) w = .ok (.int .i64 ((Df.lord.getD k 0 : Nat) : Int)) w := by
  have h : k = 0 ∨ k = 1 ∨ k = 2 ∨ k = 3 ∨ k = 4 ∨ k = 5 ∨ k = 6 ∨ k = 7 ∨ k = 8 ∨ k = 9 ∨ k = 10 ∨ k = 11 ∨ k = 12 ∨ k = 13 ∨ k = 14 ∨ k = 15 ∨ k = 16 ∨ k = 17 ∨ k = 18 := by omega
  rcases h with rfl | rfl | rfl | rfl | rfl | rfl | rfl | rfl | rfl | rfl | rfl | rfl | rfl | rfl | rfl | rfl | rfl | rfl | rfl
  · exact lord_i0 w
  · exact lord_i1 w
  · exact lord_i2 w
  · exact lord_i3 w
  · exact lord_i4 w
  · exact lord_i5 w
  · exact lord_i6 w
  · exact lord_i7 w
  · exact lord_i8 w
  · exact lord_i9 w
  · exact lord_i10 w
  · exact lord_i11 w
  · exact lord_i12 w
  · exact lord_i13 w
  · exact lord_i14 w
  · exact lord_i15 w
  · exact lord_i16 w
  · exact lord_i17 w
  · exact lord_i18 w
theorem ordered_takeI (BY : List Int) {k : Nat} (hk : k < 19) : (Df.ordered BY).take (k + 1) = (Df.ordered BY).take k ++ [BY.getD (Df.lord.getD k 0) 0] := by
  rw [List.take_succ_eq_append_getElem (by rw [Df.ordered_len]; exact hk)]
  congr 2
  unfold Df.ordered
  rw [List.getElem_map, List.getD_eq_getElem?_getD (l := Df.lord), List.getElem?_eq_getElem (show k < Df.lord.length from hk)]
  rfl
theorem getD_cellI {w : World} {b : Nat} {l : List Int} (h : Ints w (some ⟨b, 0, none⟩) l) {i : Nat} (hi : i < l.length) : w.cell? ⟨b, i, none⟩ = some (.int .i64 (l.getD i 0)) := by
  rcases h with e | ⟨b', off', e', _, hc⟩
  · rw [e] at hi; simp at hi
  · cases e'
    have := hc i hi
    rw [Nat.zero_add] at this
    rw [this, List.getD_eq_getElem?_getD, List.getElem?_eq_getElem hi]
    rfl
set_option maxHeartbeats 4000000 in
set_option maxRecDepth 20000 in
theorem inLengthOrder_any (b : Nat) (BY : List Int) (w : World) (h : Ints w (some ⟨b, 0, none⟩) BY) (hl : BY.length = 19) :
    Calls Tryz.prog 83 #[.slice (some ⟨b, 0, none⟩) 19 19] w fun e w' => (∃ a c, e = .returned (.slice a 19 c) ∧ OwnI w' w.heap.size (.slice a 19 c) 19 (Df.ordered BY)) ∧ Below w.heap.size w w' := by
  have HI : Hid (Ints w (some ⟨b, 0, none⟩) BY) := h
  have HL : Hid (BY.length = 19) := hl
  clear h hl
  have hmk := make_none w
  obtain ⟨W0, hW0⟩ : ∃ W0, W0 = w.alloc (.cells (madeCells #[.int .i64 0] 19) 3) := ⟨_, rfl⟩
  obtain ⟨base, hbase⟩ : ∃ base, base = w.heap.size := ⟨_, rfl⟩
  rw [← hW0, ← hbase] at hmk
  have HO0 : Hid (OwnI W0 base (.slice (some ⟨base, 0, none⟩) 0 19) 0 ((Df.ordered BY).take 0) ∧ Below base w W0) := by
    rw [hW0, hbase]; exact ⟨own_none19 w, (Below.refl _ _).alloc (Nat.le_refl _) _⟩
  have HBB : Hid (base = w.heap.size) := hbase
  clear hW0 hbase
  go_enter Tryz.func83, Tryz.ntmps83
  go_wp2_with fail
  refine (lengthOrder_any W0).mono ?_
  rintro e W1 ⟨rfl, b1⟩
  have HO1 : Hid (OwnI W1 base (.slice (some ⟨base, 0, none⟩) 0 19) 0 ((Df.ordered BY).take 0) ∧ Below base w W1) := by
    obtain ⟨h1, h2⟩ := HO0.out
    have h3 : base ≤ W0.heap.size := by rw [HBB.out]; exact h2.size
    have hg : W0.grownBy W1 none := ⟨b1.os, b1.tape, b1.output, b1.size, fun k hk _ => b1.block k hk⟩
    exact ⟨World.ownsRow.kept (show World.ownsRow _ _ _ _ _ _ _ from h1) hg (.inr (by simp [Value.ownBlock])), h2.trans (b1.mono h3)⟩
  clear HO0 hmk b1
  go_wp2_with fail
  go_loopw [3, 8] (fun o i wr => ∃ (k : Nat) (ao : Option Addr) (cap : Nat), k ≤ 19 ∧ i = .int .i64 (k : Int) ∧ o = .slice ao k cap ∧ Hid (OwnI wr base (.slice ao k cap) k ((Df.ordered BY).take k) ∧ Below base w wr)) (fun _ i _ => 19 - (intOf i).toNat)
  case atStart => exact ⟨0, _, _, Nat.zero_le _, rfl, rfl, HO1⟩
  case round =>
    obtain ⟨k, ao, cap, hk, rfl, rfl, HR⟩ := hrel
    clear HO1
    by_cases hlt : k < 19
    · have hki : (k : Int) < 19 := by omega
      have hq := lord_ltI k hlt
      have hidx := lord_index k hlt wr
      have HTA : Hid ((Df.ordered BY).take (k + 1) = (Df.ordered BY).take k ++ [BY.getD (Df.lord.getD k 0) 0]) := ordered_takeI BY hlt
      obtain ⟨q, hqe⟩ : ∃ q, q = Df.lord.getD k 0 := ⟨_, rfl⟩
      rw [← hqe] at hq hidx HTA
      have hbw : base ≤ wr.heap.size := by rw [HBB.out]; exact HR.out.2.size
      have bW : Below w.heap.size w wr := by have h := HR.out.2; rw [HBB.out] at h; exact h
      have hcB := getD_cellI (HI.out.kept bW) (i := q) (by rw [HL.out]; exact hq)
      obtain ⟨z, hz⟩ : ∃ z, z = BY.getD q 0 := ⟨_, rfl⟩
      rw [← hz] at hcB HTA
      have hqi : (q : Int) < 19 := by omega
      clear bW hz hqe
      go_wp2_with (at_builtin; refine wpList_app1 wr (by rfl) _ _ (by rfl) base _ k ((Df.ordered BY).take k) z (by rfl) HR.out.1 (by rfl) (by omega) hbw ?_)
      intro g7 cap7 w7 hown7 hg7
      have HF : Hid (OwnI w7 base (.slice (some ⟨g7, 0, none⟩) (k + 1) cap7) (k + 1) ((Df.ordered BY).take (k + 1)) ∧ Below base w w7) := ⟨by rw [HTA.out]; exact hown7, hg7.below HR.out.2 (Nat.le_refl _) hbw⟩
      clear hown7 hg7 HR HTA
      go_wp2_with fail
      go_roundw
      case rel => exact ⟨k + 1, _, _, by omega, by go_num, rfl, HF⟩
      case measure => simp [intOf]; omega
    · have hki : ¬ (k : Int) < 19 := by omega
      have hkN : k = 19 := by omega
      subst hkN
      have HE : Hid (OwnI wr w.heap.size (.slice ao 19 cap) 19 (Df.ordered BY) ∧ Below w.heap.size w wr) := by
        have h := HR.out
        rw [HBB.out, List.take_of_length_le (by rw [Df.ordered_len]; exact Nat.le_refl _)] at h
        exact h
      clear HR
      go_wp2_with fail
      go_ret
      exact ⟨⟨_, _, rfl, HE.out.1⟩, HE.out.2⟩
theorem row_step (f : List Int) (n k : Nat) (hf : f.length = n) (hk : k < n) : (f.take k ++ List.replicate (n - k) 0).set k (f.getD k 0) = f.take (k + 1) ++ List.replicate (n - (k + 1)) 0 := by
  have hl : (f.take k).length = k := by rw [List.length_take]; omega
  rw [List.set_append_right _ _ (by omega), hl, Nat.sub_self, List.take_succ_eq_append_getElem (by omega), List.append_assoc]
  congr 1
  obtain ⟨m, hm⟩ : ∃ m, n - k = m + 1 := ⟨n - k - 1, by omega⟩
  rw [hm, show n - (k + 1) = m by omega, List.replicate_succ, List.set_cons_zero, List.getD_eq_getElem?_getD, List.getElem?_eq_getElem (by omega)]
  rfl
theorem row_len (f : List Int) (n k : Nat) (hf : f.length = n) (hk : k ≤ n) : (f.take k ++ List.replicate (n - k) 0).length = n := by
  rw [List.length_append, List.length_take, List.length_replicate]; omega
set_option maxHeartbeats 4000000 in
set_option maxRecDepth 20000 in
theorem fixedLengths_any (w : World) :
    Calls Tryz.prog 22 #[] w fun e w' => (∃ b1 b2, e = .returned (.tuple #[.slice (some ⟨b1, 0, none⟩) 288 288, .slice (some ⟨b2, 0, none⟩) 32 32]) ∧ w.heap.size ≤ b1 ∧ w.heap.size ≤ b2 ∧ DRow w' b1 Df.fixS ∧ DRow w' b2 Df.fixD) ∧ Below w.heap.size w w' := by
  have hmk : (Instr.makeSlice 36 (.int .i64 288) (.int .i64 288)).run Tryz.prog w = .ok (.slice (some ⟨w.heap.size, 0, none⟩) 288 288) (w.alloc (.cells ((List.replicate 288 (0 : Int)).map (Value.int .i64)).toArray 3)) := make_rowN 288 (by omega) w
  obtain ⟨W0, hW0⟩ : ∃ W0, W0 = w.alloc (.cells ((List.replicate 288 (0 : Int)).map (Value.int .i64)).toArray 3) := ⟨_, rfl⟩
  obtain ⟨B1, hB1⟩ : ∃ B1, B1 = w.heap.size := ⟨_, rfl⟩
  rw [← hW0, ← hB1] at hmk
  have hr0 : DRow W0 B1 (List.replicate 288 0) := by rw [hW0, hB1]; exact heap_alloc_new _ _
  have HR0 : Hid (DRow W0 B1 (Df.fixS.take 0 ++ List.replicate (288 - 0) 0) ∧ Below w.heap.size w W0) := ⟨hr0, by rw [hW0]; exact (Below.refl _ _).alloc (Nat.le_refl _) _⟩
  have HB : Hid (B1 = w.heap.size) := hB1
  clear hW0 hB1 hr0
  go_enter Tryz.func22, Tryz.ntmps22
  go_wp2_with fail
  go_loopw [9] (fun i wr => ∃ k : Nat, k ≤ 288 ∧ i = .int .i64 (k : Int) ∧ Hid (DRow wr B1 (Df.fixS.take k ++ List.replicate (288 - k) 0) ∧ Below w.heap.size w wr)) (fun i _ => 288 - (intOf i).toNat)
  case atStart => exact ⟨0, Nat.zero_le _, rfl, HR0⟩
  case round =>
    obtain ⟨k, hk, rfl, HR⟩ := hrel
    clear HR0 hmk
    by_cases hlt : k < 288
    · have hki : (k : Int) < 288 := by omega
      have hrl := row_len Df.fixS 288 k Df.fixS_len hk
      have cK := HR.out.1.cell k (by rw [hrl]; exact hlt)
      have fK := HR.out.1.free k
      have hfx : Df.fixS.getD k 0 = if k < 144 then 8 else if k < 256 then 9 else if k < 280 then 7 else 8 := by
        unfold Df.fixS
        rw [List.getD_eq_getElem?_getD, List.getElem?_map, List.getElem?_range hlt]
        rfl
      have HSET : Hid (DRow (wr.setCell ⟨B1, k, none⟩ (.int .i64 (if k < 144 then 8 else if k < 256 then 9 else if k < 280 then 7 else 8))) B1 (Df.fixS.take (k + 1) ++ List.replicate (288 - (k + 1)) 0)) := by
        have h := HR.out.1.set k (Df.fixS.getD k 0)
        rw [row_step Df.fixS 288 k Df.fixS_len hlt, hfx] at h
        exact h
      obtain ⟨u, hu⟩ : ∃ u, u = (Df.fixS.take k ++ List.replicate (288 - k) 0)[k] := ⟨_, rfl⟩
      rw [← hu] at cK
      clear hrl hfx hu
      by_cases h1 : k < 144
      · have h1i : (k : Int) < 144 := by omega
        have HF : Hid (DRow (wr.setCell ⟨B1, k, none⟩ (.int .i64 8)) B1 (Df.fixS.take (k + 1) ++ List.replicate (288 - (k + 1)) 0) ∧ Below w.heap.size w (wr.setCell ⟨B1, k, none⟩ (.int .i64 8))) := by
          have h := HSET.out
          rw [if_pos h1] at h
          exact ⟨h, HR.out.2.setCell (p := ⟨B1, k, none⟩) (by show w.heap.size ≤ B1; rw [HB.out]; exact Nat.le_refl _) _⟩
        clear HSET HR
        go_wp2_with fail
        go_roundw
        case rel => exact ⟨k + 1, by omega, by go_num, HF⟩
        case measure => simp [intOf]; omega
      · have h1i : ¬ (k : Int) < 144 := by omega
        by_cases h2 : k < 256
        · have h2i : (k : Int) < 256 := by omega
          have HF : Hid (DRow (wr.setCell ⟨B1, k, none⟩ (.int .i64 9)) B1 (Df.fixS.take (k + 1) ++ List.replicate (288 - (k + 1)) 0) ∧ Below w.heap.size w (wr.setCell ⟨B1, k, none⟩ (.int .i64 9))) := by
            have h := HSET.out
            rw [if_neg h1, if_pos h2] at h
            exact ⟨h, HR.out.2.setCell (p := ⟨B1, k, none⟩) (by show w.heap.size ≤ B1; rw [HB.out]; exact Nat.le_refl _) _⟩
          clear HSET HR
          go_wp2_with fail
          go_roundw
          case rel => exact ⟨k + 1, by omega, by go_num, HF⟩
          case measure => simp [intOf]; omega
        · have h2i : ¬ (k : Int) < 256 := by omega
          by_cases h3 : k < 280
          · have h3i : (k : Int) < 280 := by omega
            have HF : Hid (DRow (wr.setCell ⟨B1, k, none⟩ (.int .i64 7)) B1 (Df.fixS.take (k + 1) ++ List.replicate (288 - (k + 1)) 0) ∧ Below w.heap.size w (wr.setCell ⟨B1, k, none⟩ (.int .i64 7))) := by
              have h := HSET.out
              rw [if_neg h1, if_neg h2, if_pos h3] at h
              exact ⟨h, HR.out.2.setCell (p := ⟨B1, k, none⟩) (by show w.heap.size ≤ B1; rw [HB.out]; exact Nat.le_refl _) _⟩
            clear HSET HR
            go_wp2_with fail
            go_roundw
            case rel => exact ⟨k + 1, by omega, by go_num, HF⟩
            case measure => simp [intOf]; omega
          · have h3i : ¬ (k : Int) < 280 := by omega
            have HF : Hid (DRow (wr.setCell ⟨B1, k, none⟩ (.int .i64 8)) B1 (Df.fixS.take (k + 1) ++ List.replicate (288 - (k + 1)) 0) ∧ Below w.heap.size w (wr.setCell ⟨B1, k, none⟩ (.int .i64 8))) := by
              have h := HSET.out
              rw [if_neg h1, if_neg h2, if_neg h3] at h
              exact ⟨h, HR.out.2.setCell (p := ⟨B1, k, none⟩) (by show w.heap.size ≤ B1; rw [HB.out]; exact Nat.le_refl _) _⟩
            clear HSET HR
            go_wp2_with fail
            go_roundw
            case rel => exact ⟨k + 1, by omega, by go_num, HF⟩
            case measure => simp [intOf]; omega
    · have hki : ¬ (k : Int) < 288 := by omega
      have hkN : k = 288 := by omega
      subst hkN
      have HE : Hid (DRow wr B1 Df.fixS ∧ Below w.heap.size w wr) := by
        have h := HR.out
        rw [List.take_of_length_le (by rw [Df.fixS_len]; exact Nat.le_refl _), Nat.sub_self, List.replicate_zero, List.append_nil] at h
        exact h
      clear HR
      have hmk2 : (Instr.makeSlice 36 (.int .i64 32) (.int .i64 32)).run Tryz.prog wr = .ok (.slice (some ⟨wr.heap.size, 0, none⟩) 32 32) (wr.alloc (.cells ((List.replicate 32 (0 : Int)).map (Value.int .i64)).toArray 3)) := make_rowN 32 (by omega) wr
      obtain ⟨W2, hW2⟩ : ∃ W2, W2 = wr.alloc (.cells ((List.replicate 32 (0 : Int)).map (Value.int .i64)).toArray 3) := ⟨_, rfl⟩
      obtain ⟨B2, hB2⟩ : ∃ B2, B2 = wr.heap.size := ⟨_, rfl⟩
      rw [← hW2, ← hB2] at hmk2
      have b2 : Below wr.heap.size wr W2 := by rw [hW2]; exact (Below.refl _ _).alloc (Nat.le_refl _) _
      have HR2 : Hid (DRow W2 B2 (Df.fixD.take 0 ++ List.replicate (32 - 0) 0) ∧ DRow W2 B1 Df.fixS ∧ Below w.heap.size w W2) := ⟨by rw [hW2, hB2]; exact heap_alloc_new _ _, HE.out.1.kept (b2.block B1 HE.out.1.lt), HE.out.2.trans (b2.mono HE.out.2.size)⟩
      have HB2 : Hid (w.heap.size ≤ B2 ∧ B1 ≠ B2) := ⟨by rw [hB2]; exact HE.out.2.size, by have := HE.out.1.lt; omega⟩
      clear hW2 hB2 b2 HE
      go_wp2_with fail
      go_loopw [37] (fun i wq => ∃ k : Nat, k ≤ 32 ∧ i = .int .i64 (k : Int) ∧ Hid (DRow wq B2 (Df.fixD.take k ++ List.replicate (32 - k) 0) ∧ DRow wq B1 Df.fixS ∧ Below w.heap.size w wq)) (fun i _ => 32 - (intOf i).toNat)
      case atStart => exact ⟨0, Nat.zero_le _, rfl, HR2⟩
      case round =>
        obtain ⟨k, hk, rfl, HR⟩ := hrel
        clear HR2 hmk2
        by_cases hlt : k < 32
        · have hki : (k : Int) < 32 := by omega
          have hrl := row_len Df.fixD 32 k Df.fixD_len hk
          have cK := HR.out.1.cell k (by rw [hrl]; exact hlt)
          have fK := HR.out.1.free k
          have hfx : Df.fixD.getD k 0 = 5 := by
            unfold Df.fixD
            rw [List.getD_eq_getElem?_getD, List.getElem?_replicate, if_pos hlt]
            rfl
          have hset := HR.out.1.set k (Df.fixD.getD k 0)
          rw [row_step Df.fixD 32 k Df.fixD_len hlt, hfx] at hset
          have hoth := HR.out.2.1.kept (Below.heap_setCell _ ⟨B2, k, none⟩ (.int .i64 5) B1 HB2.out.2)
          have hbl := HR.out.2.2.setCell (p := ⟨B2, k, none⟩) HB2.out.1 (.int .i64 5)
          have HF : Hid (_ ∧ _ ∧ _) := ⟨hset, hoth, hbl⟩
          obtain ⟨u, hu⟩ : ∃ u, u = (Df.fixD.take k ++ List.replicate (32 - k) 0)[k] := ⟨_, rfl⟩
          rw [← hu] at cK
          clear hrl hfx hu hset hoth hbl HR
          go_wp2_with fail
          go_roundw
          case rel => exact ⟨k + 1, by omega, by go_num, HF⟩
          case measure => simp [intOf]; omega
        · have hki : ¬ (k : Int) < 32 := by omega
          have hkN : k = 32 := by omega
          subst hkN
          have h := HR.out
          rw [List.take_of_length_le (by rw [Df.fixD_len]; exact Nat.le_refl _), Nat.sub_self, List.replicate_zero, List.append_nil] at h
          have HE2 : Hid (DRow _ B2 Df.fixD ∧ DRow _ B1 Df.fixS ∧ Below w.heap.size w _) := h
          clear HR h
          go_wp2_with fail
          refine bodyPost_ret (v := .tuple #[.slice (some ⟨B1, 0, none⟩) 288 288, .slice (some ⟨B2, 0, none⟩) 32 32]) (by simp [results, Tryz.results22, go_sem]) rfl ⟨⟨B1, B2, rfl, by rw [HB.out]; exact Nat.le_refl _, HB2.out.1, HE2.out.2.1, HE2.out.1⟩, HE2.out.2.2⟩
end Go.Proofs.YtcgmmpfckmhahaaGreat
