/- RunPut of the program. -/
import Derived.Test.YtmcjdilmmabiaaaRnIterI
import Derived.Test.YtmcjdilmmabiaaaRnWent
import Derived.Test.YtmcjdilmmabiaaaRoundReg
import Derived.Test.YtmcjdilmmabiaaaRtText
import Derived.Maps.AppendAt
namespace Go.Proofs.Ytmcjdilmmabiaaa
open Go.RowKit Go.Shelf

attribute [local go_sem] Oper.semAt_some

/-- the list as it came: in a block below the call's own, or empty -/
def CameIn (w : World) (a : Option Addr) (b off : Nat) (l : List Int) : Prop := (b = w.heap.size ∧ l = []) ∨ (b < w.heap.size ∧ a = some ⟨b, off, none⟩ ∧ ∀ i (h : i < l.length), w.cell? ⟨b, off + i, none⟩ = some (.int .i64 l[i]))
theorem CameIn.of {w : World} {a : Option Addr} {l : List Int} (h : Ints w a l) : ∃ b off, CameIn w a b off l := by
  rcases h with rfl | ⟨b, off, rfl, hb, hc⟩
  · exact ⟨w.heap.size, 0, .inl ⟨rfl, rfl⟩⟩
  · exact ⟨b, off, .inr ⟨hb, rfl, hc⟩⟩
theorem CameIn.lies {w W : World} {a : Option Addr} {b off : Nat} {l : List Int} (h : CameIn w a b off l) (hb : Below w.heap.size w W) (hz : w.heap.size < W.heap.size) : RI.Lies W b off l := by
  rcases h with ⟨rfl, rfl⟩ | ⟨h1, _, h3⟩
  · exact ⟨hz, fun i hi => by simp at hi⟩
  · exact ⟨by omega, fun i hi => (hb.cell (p := ⟨b, off + i, none⟩) h1).trans (h3 i hi)⟩
theorem RI.Lies.take {w : World} {b off : Nat} {l : List Int} (h : RI.Lies w b off l) (t : Nat) : b < w.heap.size ∧ ∀ i (hi : i < (l.take t).length), w.cell? ⟨b, off + i, none⟩ = some (.int .i64 (l.take t)[i]) :=
  ⟨h.1, fun i hi => by
    have h1 : i < l.length := by rw [List.length_take] at hi; omega
    rw [List.getElem_take]; exact h.2 i h1⟩
theorem CameIn.le {w : World} {a : Option Addr} {b off : Nat} {l : List Int} (h : CameIn w a b off l) : b ≤ w.heap.size := by
  rcases h with ⟨rfl, _⟩ | ⟨h1, _⟩ <;> omega
theorem CameIn.ptr {w : World} {a : Option Addr} {b off : Nat} {l : List Int} (h : CameIn w a b off l) : l.length = 0 ∨ a = some ⟨b, off, none⟩ := by
  rcases h with ⟨_, rfl⟩ | ⟨_, h1, _⟩
  · exact .inl rfl
  · exact .inr h1

/-- between two rounds: the text so far in a row of the call's own -/
def RtI (w : World) (S : Nat) (l : List Int) (N : Nat) (pre : List (RI.St N 128)) (W : World) : Prop :=
  (∃ v, Boxed W (w.heap.size + 1) 22 v ∧ OwnT W (w.heap.size + 5) v (Rt.flat S l (pre.map Subtype.val)).length (Rt.flat S l (pre.map Subtype.val))) ∧
  Boxed W w.heap.size 3 (.int .i64 (S : Int)) ∧ Below w.heap.size w W ∧ w.heap.size + 5 ≤ W.heap.size

theorem rtI_own (w : World) (S : Nat) (l : List Int) (N B : Nat) (hB : w.heap.size + 5 ≤ B) : OwnFrom B (RtI w S l N) := by
  rintro pre X Y row ⟨⟨v, hv, hr⟩, hZ, hb, hs⟩ hg hrow
  have hne : ∀ k, k < w.heap.size + 5 → some k ≠ row := fun k hk e => by have := (hrow k e.symm).1; omega
  refine ⟨⟨v, hv.kept hg (hne _ (by omega)), World.ownsRow.kept (show World.ownsRow _ _ _ _ _ _ _ from hr) hg ?_⟩, hZ.kept hg (hne _ (by omega)), hb.grown hg hb.size (fun k e => by have := (hrow k e).1; omega), Nat.le_trans hs hg.size⟩
  by_cases h0 : v.ownBlock = none
  · exact .inl h0
  · refine .inr (fun e => ?_)
    rcases (show World.ownsRow _ _ _ _ _ _ _ from hr).2 with ⟨rfl, _⟩ | ⟨g, cap, cur, rfl, _, h2, _⟩
    · exact h0 rfl
    · obtain ⟨_, o, ho, hc⟩ := hrow g e.symm
      rw [h2] at ho; cases ho; cases hc

theorem rt_end {w : World} {S : Nat} {l : List Int} {N : Nat} {pre : List (RI.St N 128)} {x : RI.St N 128} {W W' : World} {T : TypeId} {v : Value} {m : Nat} {q : List UInt8} (hI : RtI w S l N pre W) (hw : Went (w.heap.size + 1) (w.heap.size + 5) T W W')
    (hb : Boxed W' (w.heap.size + 1) 22 v) (hr : OwnT W' (w.heap.size + 5) v m q) (hq : q = Rt.flat S l (pre.map Subtype.val) ++ Rt.piece S l x.1) (B : Nat) : KeepsFrom B W W' ∧ Beside (w.heap.size + 1) (w.heap.size + 5) W W' ∧ RtI w S l N (pre ++ [x]) W' := by
  obtain ⟨_, hZ, hbel, hs⟩ := hI
  refine ⟨hw.ko.from _, hw.bs, ⟨v, hb, ?_⟩, (hw.bs.2 w.heap.size (by omega) (by omega)).trans hZ, hbel.trans (hw.bl.mono (by omega)), Nat.le_trans hs hw.bs.1⟩
  rw [List.map_append, List.map_singleton, Rt.flat_snoc, ← hq, hr.len]
  exact hr

set_option linter.unusedSimpArgs false in
set_option maxRecDepth 100000 in
set_option maxHeartbeats 8000000 in
theorem impl_runPut_in (a : Option Addr) (N cap S : Nat) (l : List Int) (w : World) (hl : Ints w a l) (hn : l.length = N) (hN : N ≤ 1000) (hcap : N ≤ cap) (hS1 : 1 ≤ S) (hS : S ≤ 4) (hf : Rt.fit S l = true) :
    CallsIn Fence.wide 3 Try.prog 14 #[.slice a N cap, .int .i64 (S : Int)] w fun e W' => e = .returned (.string ⟨(Rt.all S l).toArray⟩) ∧ Below w.heap.size w W' := by
  have hro : Fence.wide.round = none := rfl
  obtain ⟨i0, hi0, hz0, hz1, hz2⟩ := info_parts info_u8t
  have HN : Hid (l.length = N) := hn
  have HF : Hid (Rt.fit S l = true) := hf
  have d1 : decide ((S : Int) < 1) = false := by simp; omega
  have d2 : decide ((S : Int) > 4) = false := by simp; omega
  have d3 : decide ((N : Int) > 1000) = false := by simp; omega
  obtain ⟨b, off, hcm⟩ := CameIn.of hl
  have HCM : Hid (CameIn w a b off l) := hcm
  obtain ⟨B, hB⟩ : ∃ B, B = 8 * S := ⟨_, rfl⟩
  have e8 : (8 : Int) * (S : Int) = (B : Int) := by omega
  have HNF : Hid (∀ X : World, Below w.heap.size w X → Calls Try.prog 37 #[.slice a N cap, .int .i64 (B : Int)] X fun e w' => e = .returned (.bool true) ∧ w' = X) := fun X hX => by
    have := numbersFit_any a N cap B S l X (hl.kept hX) HN.out (by omega) hB hS
    rw [HF.out] at this; exact this
  have hBb : B ≤ 32 := by omega
  clear hl hn hf hcm hB
  refine callsIn_of_wp_marks Try.func14 rfl trivial ?_ hro
  simp only [Try.ntmps14, List.size_toArray, List.length_cons, List.length_nil, Nat.reduceAdd, Nat.reduceSub, Array.replicate_succ, Array.replicate_zero, List.push_toArray, List.append_toArray, List.nil_append, List.cons_append]
  gi_wp2
  refine ⟨trivial, ?_⟩
  gi_wp2
  refine (callsIn_wide.2 (HNF.out _ ((Below.refl _ _).alloc (Nat.le_refl _) _))).mono ?_
  rintro e w2 ⟨rfl, hw2⟩
  subst hw2
  clear HNF
  gi_wp2
  refine ⟨trivial, ?_⟩
  gi_wp2
  refine (callsIn_wide.2 (RI.stretchesOf_any a N cap 2 128 _)).mono ?_
  rintro e w3 ⟨rfl, hw3⟩
  gi_wp2
  clear hw3
  obtain ⟨W0, hW0⟩ : ∃ W0, ((((w.alloc (.cells #[.int .i64 (S : Int)] 3)).alloc (.cells #[.slice none 0 0] 22)).alloc (.cells #[.slice a N cap] 30)).alloc (.cells #[.int .i64 2] 3)).alloc (.cells #[.int .i64 128] 3) = W0 := ⟨_, rfl⟩
  rw [hW0]
  have HZ : Hid (W0.heap.size = w.heap.size + 5) := by show _ = _; rw [← hW0]; simp
  have HB0 : Hid (Below w.heap.size w W0) := by
    show Below _ _ _
    rw [← hW0]; exact (((((Below.refl _ w).alloc (Nat.le_refl _) _).alloc (by simp) _).alloc (by simp; omega) _).alloc (by simp; omega) _).alloc (by simp; omega) _
  have HBz : Hid (Boxed W0 w.heap.size 3 (.int .i64 (S : Int))) := by
    show Boxed _ _ _ _
    rw [← hW0]; exact ((((Boxed.new w 3 _).alloc _).alloc _).alloc _).alloc _
  have HBx : Hid (Boxed W0 (w.heap.size + 1) 22 (.slice none 0 0)) := by
    show Boxed _ _ _ _
    rw [← hW0, show w.heap.size + 1 = (w.alloc (.cells #[.int .i64 (S : Int)] 3)).heap.size by simp]
    exact (((Boxed.new _ 22 _).alloc _).alloc _).alloc _
  have HH : Hid (RI.Held W0 a (w.heap.size + 1 + 1) (w.heap.size + 1 + 1 + 2) (w.heap.size + 1 + 1 + 1) b off cap N 2 128 l) := by
    refine ⟨?_, ?_, ?_, HCM.out.lies HB0.out (by rw [HZ.out]; omega)⟩
    · rw [← hW0, show w.heap.size + 1 + 1 = ((w.alloc (.cells #[.int .i64 (S : Int)] 3)).alloc (.cells #[.slice none 0 0] 22)).heap.size by simp]
      exact (((Boxed.new _ 30 _).alloc _).alloc _).cell
    · rw [← hW0, show w.heap.size + 1 + 1 + 2 = ((((w.alloc (.cells #[.int .i64 (S : Int)] 3)).alloc (.cells #[.slice none 0 0] 22)).alloc (.cells #[.slice a N cap] 30)).alloc (.cells #[.int .i64 2] 3)).heap.size by simp]
      exact (Boxed.new _ 3 _).cell
    · rw [← hW0, show w.heap.size + 1 + 1 + 1 = (((w.alloc (.cells #[.int .i64 (S : Int)] 3)).alloc (.cells #[.slice none 0 0] 22)).alloc (.cells #[.slice a N cap] 30)).heap.size by simp]
      exact ((Boxed.new _ 3 _).alloc _).cell
  clear hW0
  have hbz := HCM.out.le
  have HS := RI.stretches_stops 2 (by omega) a (w.heap.size + 1 + 1) (w.heap.size + 1 + 1 + 2) (w.heap.size + 1 + 1 + 1) b off cap N 2 128 (w.heap.size + 1) (w.heap.size + 5) l W0 (by omega) (by omega) (by omega) (by omega) (by omega) (by omega) (by omega) (by omega) (by rw [HZ.out]; exact Nat.le_refl _)
    HN.out (by omega) (by omega) (by omega) (by omega) hcap (by rw [← HN.out]; exact HCM.out.ptr) HH.out
  refine wpIn_rangeFunc_ownH hro (by omega) (gf := 52) (lb := _) rfl trivial (enters_of Try.func52 (by kernel_rfl) rfl)
    HS Beside.trans (Beside.book (by rw [HZ.out]; exact Nat.le_refl _)) (Below.refl _ _) (fun _ => rfl)
    (RtI w S l N) (fun _ _ _ => False) (rtI_own w S l N _ (by rw [HZ.out]; exact Nat.le_refl _)) (fun _ _ _ _ _ hs _ _ => hs)
    ⟨⟨_, HBx.out, ownT_nil _ _⟩, HBz.out, HB0.out, by rw [HZ.out]; exact Nat.le_refl _⟩
    (fun x a' W => ∃ Bx, w.heap.size + 5 ≤ Bx ∧ W.heap[Bx]? = some (.cells #[.slice (some ⟨b, off + x.1.1, none⟩) x.1.2.1 (cap - x.1.1), .bool x.1.2.2] 70 (0, 0)) ∧
      a' = { tmps := #[.slice a N cap, .int .i64 (S : Int), undef, .pointer (some ⟨w.heap.size, 0, none⟩), .string ⟨#[]⟩, .pointer (some ⟨w.heap.size + 1, 0, none⟩), .pointer (some ⟨Bx, 0, none⟩), undef, .int .i64 (S : Int), .bool false, .bool false, .int .i64 (S : Int), .bool false, .bool false, .bool false, .slice a N cap, .int .i64 (N : Int), .bool false, .bool false, .bool false, .slice a N cap, .int .i64 (S : Int), .int .i64 (B : Int), .bool true, .bool false, .bool false, .slice a N cap, .func (.func 52) #[] #[.pointer (some ⟨w.heap.size + 1 + 1, 0, none⟩), .pointer (some ⟨w.heap.size + 1 + 1 + 2, 0, none⟩), .pointer (some ⟨w.heap.size + 1 + 1 + 1, 0, none⟩)], .agg #[.slice (some ⟨b, off + x.1.1, none⟩) x.1.2.1 (cap - x.1.1), .bool x.1.2.2], undef, undef, undef, undef, undef, undef, undef, undef, undef, undef, undef, undef, undef, undef, undef, undef, undef, undef, undef, undef, undef, undef, undef, undef, undef, undef, undef, undef, undef, undef], defers := [] })
    ?ax ?assign ?body ?done ?stop
  case ax =>
    rintro x a' _ X Y row ⟨Bx, h1, h2, h3⟩ hg hrow
    refine ⟨Bx, h1, (hg.block Bx (lt_of_at h2) (fun e => ?_)).trans h2, h3⟩
    obtain ⟨_, o, ho, hc⟩ := hrow Bx e.symm
    rw [h2] at ho; cases ho; cases hc
  case assign =>
    rintro r pre x W K hi hK
    dsimp only [RI.enc]
    gi_wp2
    have hsz := hi.2.2.2
    exact hK _ _ ((KeepsOthers.alloc _ _).from _) (Beside.of ((Below.refl _ W).alloc hsz _)) ((rtI_own w S l N _ (Nat.le_refl _)).alloc _ hi) ⟨W.heap.size, hsz, heap_alloc_new _ _, rfl⟩
  case body =>
    rintro r pre ⟨⟨k, z, ag⟩, hk, hzl, hzm⟩ a' W _ ⟨rr, hrr⟩ hI ⟨Bx, hBx, hbx, rfl⟩ hlt
    have HI : Hid (RtI w S l N pre W) := hI
    obtain ⟨⟨v, hv, hrow⟩, hZb, hbel, hsz⟩ := hI
    dsimp only at hk hzl hzm hbx
    have hpl : pre.length ≤ 1000 := by
      have h1 := Rn.all_len (least := 2) (m := 128) (l := l) (l.length - 0) 0
      have h2 : (Rn.from_ 2 128 l 0).length ≤ l.length - 0 := h1
      rw [HN.out] at h2
      omega
    have hfl := Rt.flat_len S l hS (pre.map Subtype.val) (fun y hy => by
      obtain ⟨x, _, rfl⟩ := List.mem_map.1 hy
      exact x.2.2.2)
    rw [List.length_map] at hfl
    obtain ⟨q, hq⟩ : ∃ q, q = Rt.flat S l (pre.map Subtype.val) := ⟨_, rfl⟩
    obtain ⟨m, hm⟩ : ∃ m, m = q.length := ⟨_, rfl⟩
    rw [← hq, ← hm] at hrow
    have hmb : m ≤ 513000 := by rw [hm, hq]; omega
    have HR : Hid (OwnT W (w.heap.size + 5) v m q) := hrow
    have HV : Hid (Boxed W (w.heap.size + 1) 22 v) := hv
    have HX : Hid (W.heap[Bx]? = some (.cells #[.slice (some ⟨b, off + k, none⟩) z (cap - k), .bool ag] 70 (0, 0))) := hbx
    have HZb : Hid (Boxed W w.heap.size 3 (.int .i64 (S : Int))) := hZb
    have hBA : Bx ≠ w.heap.size + 1 := by omega
    have hck : 1 ≤ cap - k := by omega
    have hzck : z ≤ cap - k := by omega
    have c0 := cell_two0 hbx
    have c1 := cell_two1 hbx
    have hvc := hv.cell
    have hvf := hv.frozen
    clear hrow hv hbx hZb hfl hlt hpl hm HS HH HB0 HBx HBz hrr
    cases ag with
    | true =>
      obtain ⟨d, hd⟩ : ∃ d : Nat, d = 127 + z := ⟨_, rfl⟩
      have e1 : (127 : Int) + (z : Int) = (d : Int) := by omega
      have hdb : d < 256 := by omega
      obtain ⟨h, hh⟩ : ∃ h, h = UInt8.ofNat d := ⟨_, rfl⟩
      obtain ⟨tx, htx⟩ : ∃ tx, tx = Rt.txt S ((l.drop k).take 1) := ⟨_, rfl⟩
      have hts : tx.length ≤ 512 := by
        have h1 : (Rt.txt S ((l.drop k).take 1)).length = S * ((l.drop k).take 1).length := Rt.txt_len S _
        have h2 : ((l.drop k).take 1).length ≤ 128 := by rw [List.length_take]; omega
        have h3 : S * ((l.drop k).take 1).length ≤ 4 * 128 := Nat.mul_le_mul hS h2
        rw [htx]; omega
      have HQ : Hid (q ++ [h] ++ tx = Rt.flat S l (pre.map Subtype.val) ++ Rt.piece S l (k, z, true)) := by
        show _ = _
        rw [hq, List.append_assoc, htx, hh, hd]; rfl
      have HU : Hid ([Value.int .u8 (d : Int)] = u8V [h]) := by
        show _ = _
        rw [hh]; simp [u8V]; omega
      have HT : Hid (∀ X : World, Went (w.heap.size + 1) (w.heap.size + 5) 70 W X → Calls Try.prog 39 #[.slice (some ⟨b, off + k, none⟩) 1 (cap - k), .int .i64 (S : Int), .bool false] X fun e w' => e = .returned (.string ⟨tx.toArray⟩) ∧ Below X.heap.size X w') := fun X hX => by
        have hLX := HCM.out.lies (W := X) (hbel.trans (hX.bl.mono (by omega))) (by have := hX.bs.1; omega)
        have := numberText_any b (off + k) (cap - k) 1 S ((l.drop k).take 1) X (RI.Lies.take (hLX.drop k) 1) (by rw [List.length_take, List.length_drop, HN.out]; omega) (by omega) hS1 hS (Rt.fit_sub HF.out k 1)
        rw [← htx] at this; exact this
      clear hd hh htx hq
      gi_wp2_with (gi_at_builtin; refine wpListIn_append_own _ rfl _ _ 22 rfl (w.heap.size + 5) 5 i0 (.int .u8 0) 1 1 Try.underlying22 hi0 hz0 hz1 hz2 rfl (by decide) v m (u8V q) rfl (World.ownsRow.alloc (show World.ownsRow _ _ _ _ _ _ _ from HR.out) _) ⟨W.heap.size, 0, none⟩ 1 1 [.int .u8 (d : Int)] rfl rfl (cell_one_new _ _ _) (by simp [Value.oneCell']) (by unfold maxLen; omega) (by omega) (Nat.le_trans hsz (by simp)) ?_)
      intro v4 w4 hown4 hg4 _
      obtain ⟨g, cap4, rfl⟩ := ownsRow_succ hown4
      have hW4 : Went (w.heap.size + 1) (w.heap.size + 5) 70 W w4 := ((Went.refl _ _ _ W).alloc hsz (by omega) (.cells #[.int .u8 (d : Int)] 5)).append (World.ownsRow.alloc (show World.ownsRow _ _ _ _ _ _ _ from HR.out) _) (by decide) hg4 (Nat.le_trans hsz (by simp)) (by omega)
      have hvA : Boxed (W.alloc (.cells #[.int .u8 (d : Int)] 5)) (w.heap.size + 1) 22 v := HV.out.alloc _
      have hv4 : Boxed w4 (w.heap.size + 1) 22 v := hvA.kept hg4 (Boxed.not_row hvA (by decide) (World.ownsRow.alloc (show World.ownsRow _ _ _ _ _ _ _ from HR.out) _))
      have hv4c := hv4.cell
      have hv4f := hv4.frozen
      obtain ⟨w5, hw5⟩ : ∃ w5, w5 = w4.setCell ⟨w.heap.size + 1, 0, none⟩ (.slice (some ⟨g, 0, none⟩) (m + 1) cap4) := ⟨_, rfl⟩
      have HW5 : Hid (Went (w.heap.size + 1) (w.heap.size + 5) 70 W w5) := by show Went _ _ _ _ _; rw [hw5]; exact hW4.store hv4 (by decide) _
      have HV5 : Hid (Boxed w5 (w.heap.size + 1) 22 (.slice (some ⟨g, 0, none⟩) (m + 1) cap4)) := by show Boxed _ _ _ _; rw [hw5]; exact hv4.set _
      have HO5 : Hid (OwnT w5 (w.heap.size + 5) (.slice (some ⟨g, 0, none⟩) (m + 1) cap4) (m + 1) (q ++ [h])) := by
        show OwnT _ _ _ _ _
        unfold OwnT
        rw [← u8V_append, ← HU.out, hw5]
        exact World.ownsRow.kept hown4 (grownBy_setCell' w4 (w.heap.size + 1) _) (.inr (hv4.not_row (by decide) hown4).symm)
      have HZ5 : Hid (Boxed w5 w.heap.size 3 (.int .i64 (S : Int))) := (HW5.out.bs.2 w.heap.size (by omega) (by omega)).trans HZb.out
      have hx5 : w5.cell? ⟨Bx, 0, none⟩ = some (.slice (some ⟨b, off + k, none⟩) z (cap - k)) := cell_two0 (HW5.out.bx _ _ _ HX.out)
      rw [hw5] at hx5
      have cz5 := HZ5.out.cell
      clear hvA hW4 hown4 hg4 hv4 HR HV HX
      gi_wp2
      rw [← hw5]
      clear hx5 hw5 hv4c hv4f c0 c1 hvc hvf
      refine round_region_held (S := fun w' => w'.cell? ⟨w.heap.size, 0, none⟩ = some (.int .i64 (S : Int))) (by kernel_rfl) (fun _ _ h => h) (by kernel_rfl) cz5 (fun _ => ?_)
      refine wpAnyH_take (i := 1) (v := (.slice (some ⟨b, off + k, none⟩) 1 (cap - k))) rfl (by kernel_rfl) (by kernel_rfl) (by kernel_rfl) (fun _ _ _ h => h) (Or.inl ⟨by rfl, ?_⟩) cz5 ?_
      · intro w' s1
        go_simp
      try simp only [Act.put, List.setIfInBounds_toArray, List.set_cons_zero, List.set_cons_succ]
      refine wpAnyH_take (i := 2) (v := .int .i64 (S : Int)) rfl (by kernel_rfl) (by kernel_rfl) (by kernel_rfl) (fun _ _ _ h => h) (Or.inl ⟨by rfl, ?_⟩) cz5 ?_
      · intro w' s1
        go_simp
      try simp only [Act.put, List.setIfInBounds_toArray, List.set_cons_zero, List.set_cons_succ]
      refine wpAnyH_ready (rs := [0, 3]) (by kernel_rfl) (by simp) ?_
      refine AllReadyH.cons rfl (fun K hK => ?_) (AllReadyH.cons rfl (fun K hK => ?_) AllReadyH.nil)
      · have hv5c := HV5.out.cell
        go_simp
        refine hK.out _ _ cz5 (fun _ => ?_)
        clear hK K
        try simp only [Act.put, List.setIfInBounds_toArray, List.set_cons_zero, List.set_cons_succ]
        refine wpAnyH_ready (rs := [3]) (by kernel_rfl) (by simp) ?_
        refine AllReadyH.cons rfl (fun K hK => ?_) AllReadyH.nil
        go_simp
        refine (HT.out _ HW5.out.drew).mono ?_
        rintro e w6 ⟨rfl, b6⟩
        have hown6 : OwnT w6 (w.heap.size + 5) (.slice (some ⟨g, 0, none⟩) (m + 1) cap4) (m + 1) (q ++ [h]) := OwnT.kept (w := w5.drew) HO5.out b6
        have hW6 : Went (w.heap.size + 1) (w.heap.size + 5) 70 W w6 := HW5.out.drew.call b6 (Nat.le_trans hsz HW5.out.bs.1) (by omega)
        have hv6 : Boxed w6 (w.heap.size + 1) 22 (.slice (some ⟨g, 0, none⟩) (m + 1) cap4) := (b6.block _ (lt_of_at HV5.out)).trans HV5.out
        have cz6 : w6.cell? ⟨w.heap.size, 0, none⟩ = some (.int .i64 (S : Int)) := (b6.cell (p := ⟨w.heap.size, 0, none⟩) (lt_of_at HZ5.out)).trans HZ5.out.cell
        have hs6 : w.heap.size + 5 ≤ w6.heap.size := Nat.le_trans (Nat.le_trans hsz HW5.out.bs.1) b6.size
        clear b6
        go_wp2_with fail
        refine hK.out _ _ cz6 (fun _ => ?_)
        clear hK K
        try simp only [Act.put, List.setIfInBounds_toArray, List.set_cons_zero, List.set_cons_succ]
        refine wpAnyH_ready (rs := [4]) (by kernel_rfl) (by simp) ?_
        refine AllReadyH.cons rfl (fun K hK => ?_) AllReadyH.nil
        refine step_appTs w6 (by rfl) _ _ (by rfl) (w.heap.size + 5) _ (m + 1) (q ++ [h]) tx (by rfl) hown6 (by rfl) (by omega) (by omega) hs6 ?_
        intro g7 cap7 w7 hown8 hg7
        have hW7 : Went (w.heap.size + 1) (w.heap.size + 5) 70 W w7 := hW6.append (show World.ownsRow _ _ _ _ _ _ _ from hown6) (by decide) hg7 hs6 (by omega)
        have hv7 := hv6.kept hg7 (Boxed.not_row hv6 (by decide) (show World.ownsRow _ _ _ _ _ _ _ from hown6))
        have cz7 : w7.cell? ⟨w.heap.size, 0, none⟩ = some (.int .i64 (S : Int)) := (World.cell?_of_block (w := w6) (a := ⟨w.heap.size, 0, none⟩) (hg7.block w.heap.size (by omega) (fun e => by have := (World.ownsRow.lt (show World.ownsRow _ _ _ _ _ _ _ from hown6) _ e.symm).1; omega))).trans cz6
        refine hK.out _ _ cz7 (fun _ => ?_)
        clear hK K
        try simp only [Act.put, List.setIfInBounds_toArray, List.set_cons_zero, List.set_cons_succ]
        refine wpAnyH_ready (rs := [5]) (by kernel_rfl) (by simp) ?_
        refine AllReadyH.cons rfl (fun K hK => ?_) AllReadyH.nil
        have hv7c := hv7.cell
        have hv7f := hv7.frozen
        go_simp
        refine hK.out _ _ ((World.cell?_setCell_other _ _ _ _ (fun e => by have := congrArg Addr.block e; simp at this)).trans cz7) (fun _ => ?_)
        clear hK K
        try simp only [Act.put, List.setIfInBounds_toArray, List.set_cons_zero, List.set_cons_succ]
        refine wpAnyH_done (by kernel_rfl) ?_ _
        exact rt_end HI.out (hW7.store hv7 (by decide) _) (hv7.set _) (World.ownsRow.kept (show World.ownsRow _ _ _ _ _ _ _ from hown8) (grownBy_setCell' w7 (w.heap.size + 1) _) (.inr (hv7.not_row (by decide) (show World.ownsRow _ _ _ _ _ _ _ from hown8)).symm)) HQ.out _
      · go_simp
        refine (HT.out _ HW5.out.drew).mono ?_
        rintro e w6 ⟨rfl, b6⟩
        have hown6 : OwnT w6 (w.heap.size + 5) (.slice (some ⟨g, 0, none⟩) (m + 1) cap4) (m + 1) (q ++ [h]) := OwnT.kept (w := w5.drew) HO5.out b6
        have hW6 : Went (w.heap.size + 1) (w.heap.size + 5) 70 W w6 := HW5.out.drew.call b6 (Nat.le_trans hsz HW5.out.bs.1) (by omega)
        have hv6 : Boxed w6 (w.heap.size + 1) 22 (.slice (some ⟨g, 0, none⟩) (m + 1) cap4) := (b6.block _ (lt_of_at HV5.out)).trans HV5.out
        have cz6 : w6.cell? ⟨w.heap.size, 0, none⟩ = some (.int .i64 (S : Int)) := (b6.cell (p := ⟨w.heap.size, 0, none⟩) (lt_of_at HZ5.out)).trans HZ5.out.cell
        have hs6 : w.heap.size + 5 ≤ w6.heap.size := Nat.le_trans (Nat.le_trans hsz HW5.out.bs.1) b6.size
        clear b6
        go_wp2_with fail
        refine hK.out _ _ cz6 (fun _ => ?_)
        clear hK K
        try simp only [Act.put, List.setIfInBounds_toArray, List.set_cons_zero, List.set_cons_succ]
        refine wpAnyH_ready (rs := [0]) (by kernel_rfl) (by simp) ?_
        refine AllReadyH.cons rfl (fun K hK => ?_) AllReadyH.nil
        have hv6c := hv6.cell
        go_simp
        refine hK.out _ _ cz6 (fun _ => ?_)
        clear hK K
        try simp only [Act.put, List.setIfInBounds_toArray, List.set_cons_zero, List.set_cons_succ]
        refine wpAnyH_ready (rs := [4]) (by kernel_rfl) (by simp) ?_
        refine AllReadyH.cons rfl (fun K hK => ?_) AllReadyH.nil
        refine step_appTs w6 (by rfl) _ _ (by rfl) (w.heap.size + 5) _ (m + 1) (q ++ [h]) tx (by rfl) hown6 (by rfl) (by omega) (by omega) hs6 ?_
        intro g7 cap7 w7 hown8 hg7
        have hW7 : Went (w.heap.size + 1) (w.heap.size + 5) 70 W w7 := hW6.append (show World.ownsRow _ _ _ _ _ _ _ from hown6) (by decide) hg7 hs6 (by omega)
        have hv7 := hv6.kept hg7 (Boxed.not_row hv6 (by decide) (show World.ownsRow _ _ _ _ _ _ _ from hown6))
        have cz7 : w7.cell? ⟨w.heap.size, 0, none⟩ = some (.int .i64 (S : Int)) := (World.cell?_of_block (w := w6) (a := ⟨w.heap.size, 0, none⟩) (hg7.block w.heap.size (by omega) (fun e => by have := (World.ownsRow.lt (show World.ownsRow _ _ _ _ _ _ _ from hown6) _ e.symm).1; omega))).trans cz6
        refine hK.out _ _ cz7 (fun _ => ?_)
        clear hK K
        try simp only [Act.put, List.setIfInBounds_toArray, List.set_cons_zero, List.set_cons_succ]
        refine wpAnyH_ready (rs := [5]) (by kernel_rfl) (by simp) ?_
        refine AllReadyH.cons rfl (fun K hK => ?_) AllReadyH.nil
        have hv7c := hv7.cell
        have hv7f := hv7.frozen
        go_simp
        refine hK.out _ _ ((World.cell?_setCell_other _ _ _ _ (fun e => by have := congrArg Addr.block e; simp at this)).trans cz7) (fun _ => ?_)
        clear hK K
        try simp only [Act.put, List.setIfInBounds_toArray, List.set_cons_zero, List.set_cons_succ]
        refine wpAnyH_done (by kernel_rfl) ?_ _
        exact rt_end HI.out (hW7.store hv7 (by decide) _) (hv7.set _) (World.ownsRow.kept (show World.ownsRow _ _ _ _ _ _ _ from hown8) (grownBy_setCell' w7 (w.heap.size + 1) _) (.inr (hv7.not_row (by decide) (show World.ownsRow _ _ _ _ _ _ _ from hown8)).symm)) HQ.out _
    | false =>
      obtain ⟨d, hd⟩ : ∃ d : Nat, d = z - 1 := ⟨_, rfl⟩
      have e1 : (z : Int) - 1 = (d : Int) := by omega
      have hdb : d < 256 := by omega
      obtain ⟨h, hh⟩ : ∃ h, h = UInt8.ofNat d := ⟨_, rfl⟩
      obtain ⟨tx, htx⟩ : ∃ tx, tx = Rt.txt S ((l.drop k).take z) := ⟨_, rfl⟩
      have hts : tx.length ≤ 512 := by
        have h1 : (Rt.txt S ((l.drop k).take z)).length = S * ((l.drop k).take z).length := Rt.txt_len S _
        have h2 : ((l.drop k).take z).length ≤ 128 := by rw [List.length_take]; omega
        have h3 : S * ((l.drop k).take z).length ≤ 4 * 128 := Nat.mul_le_mul hS h2
        rw [htx]; omega
      have HQ : Hid (q ++ [h] ++ tx = Rt.flat S l (pre.map Subtype.val) ++ Rt.piece S l (k, z, false)) := by
        show _ = _
        rw [hq, List.append_assoc, htx, hh, hd]; rfl
      have HU : Hid ([Value.int .u8 (d : Int)] = u8V [h]) := by
        show _ = _
        rw [hh]; simp [u8V]; omega
      have HT : Hid (∀ X : World, Went (w.heap.size + 1) (w.heap.size + 5) 70 W X → Calls Try.prog 39 #[.slice (some ⟨b, off + k, none⟩) z (cap - k), .int .i64 (S : Int), .bool false] X fun e w' => e = .returned (.string ⟨tx.toArray⟩) ∧ Below X.heap.size X w') := fun X hX => by
        have hLX := HCM.out.lies (W := X) (hbel.trans (hX.bl.mono (by omega))) (by have := hX.bs.1; omega)
        have := numberText_any b (off + k) (cap - k) z S ((l.drop k).take z) X (RI.Lies.take (hLX.drop k) z) (by rw [List.length_take, List.length_drop, HN.out]; omega) (by omega) hS1 hS (Rt.fit_sub HF.out k z)
        rw [← htx] at this; exact this
      clear hd hh htx hq
      gi_wp2_with (gi_at_builtin; refine wpListIn_append_own _ rfl _ _ 22 rfl (w.heap.size + 5) 5 i0 (.int .u8 0) 1 1 Try.underlying22 hi0 hz0 hz1 hz2 rfl (by decide) v m (u8V q) rfl (World.ownsRow.alloc (show World.ownsRow _ _ _ _ _ _ _ from HR.out) _) ⟨W.heap.size, 0, none⟩ 1 1 [.int .u8 (d : Int)] rfl rfl (cell_one_new _ _ _) (by simp [Value.oneCell']) (by unfold maxLen; omega) (by omega) (Nat.le_trans hsz (by simp)) ?_)
      intro v4 w4 hown4 hg4 _
      obtain ⟨g, cap4, rfl⟩ := ownsRow_succ hown4
      have hW4 : Went (w.heap.size + 1) (w.heap.size + 5) 70 W w4 := ((Went.refl _ _ _ W).alloc hsz (by omega) (.cells #[.int .u8 (d : Int)] 5)).append (World.ownsRow.alloc (show World.ownsRow _ _ _ _ _ _ _ from HR.out) _) (by decide) hg4 (Nat.le_trans hsz (by simp)) (by omega)
      have hvA : Boxed (W.alloc (.cells #[.int .u8 (d : Int)] 5)) (w.heap.size + 1) 22 v := HV.out.alloc _
      have hv4 : Boxed w4 (w.heap.size + 1) 22 v := hvA.kept hg4 (Boxed.not_row hvA (by decide) (World.ownsRow.alloc (show World.ownsRow _ _ _ _ _ _ _ from HR.out) _))
      have hv4c := hv4.cell
      have hv4f := hv4.frozen
      obtain ⟨w5, hw5⟩ : ∃ w5, w5 = w4.setCell ⟨w.heap.size + 1, 0, none⟩ (.slice (some ⟨g, 0, none⟩) (m + 1) cap4) := ⟨_, rfl⟩
      have HW5 : Hid (Went (w.heap.size + 1) (w.heap.size + 5) 70 W w5) := by show Went _ _ _ _ _; rw [hw5]; exact hW4.store hv4 (by decide) _
      have HV5 : Hid (Boxed w5 (w.heap.size + 1) 22 (.slice (some ⟨g, 0, none⟩) (m + 1) cap4)) := by show Boxed _ _ _ _; rw [hw5]; exact hv4.set _
      have HO5 : Hid (OwnT w5 (w.heap.size + 5) (.slice (some ⟨g, 0, none⟩) (m + 1) cap4) (m + 1) (q ++ [h])) := by
        show OwnT _ _ _ _ _
        unfold OwnT
        rw [← u8V_append, ← HU.out, hw5]
        exact World.ownsRow.kept hown4 (grownBy_setCell' w4 (w.heap.size + 1) _) (.inr (hv4.not_row (by decide) hown4).symm)
      have HZ5 : Hid (Boxed w5 w.heap.size 3 (.int .i64 (S : Int))) := (HW5.out.bs.2 w.heap.size (by omega) (by omega)).trans HZb.out
      have hx5 : w5.cell? ⟨Bx, 0, none⟩ = some (.slice (some ⟨b, off + k, none⟩) z (cap - k)) := cell_two0 (HW5.out.bx _ _ _ HX.out)
      rw [hw5] at hx5
      have cz5 := HZ5.out.cell
      clear hvA hW4 hown4 hg4 hv4 HR HV HX
      gi_wp2
      rw [← hw5]
      clear hx5 hw5 hv4c hv4f c0 c1 hvc hvf
      refine round_region_held (S := fun w' => w'.cell? ⟨w.heap.size, 0, none⟩ = some (.int .i64 (S : Int))) (by kernel_rfl) (fun _ _ h => h) (by kernel_rfl) cz5 (fun _ => ?_)
      refine wpAnyH_take (i := 1) (v := (.slice (some ⟨b, off + k, none⟩) z (cap - k))) rfl (by kernel_rfl) (by kernel_rfl) (by kernel_rfl) (fun _ _ _ h => h) (Or.inl ⟨by rfl, ?_⟩) cz5 ?_
      · intro w' s1
        go_simp
      try simp only [Act.put, List.setIfInBounds_toArray, List.set_cons_zero, List.set_cons_succ]
      refine wpAnyH_take (i := 2) (v := .int .i64 (S : Int)) rfl (by kernel_rfl) (by kernel_rfl) (by kernel_rfl) (fun _ _ _ h => h) (Or.inl ⟨by rfl, ?_⟩) cz5 ?_
      · intro w' s1
        go_simp
      try simp only [Act.put, List.setIfInBounds_toArray, List.set_cons_zero, List.set_cons_succ]
      refine wpAnyH_ready (rs := [0, 3]) (by kernel_rfl) (by simp) ?_
      refine AllReadyH.cons rfl (fun K hK => ?_) (AllReadyH.cons rfl (fun K hK => ?_) AllReadyH.nil)
      · have hv5c := HV5.out.cell
        go_simp
        refine hK.out _ _ cz5 (fun _ => ?_)
        clear hK K
        try simp only [Act.put, List.setIfInBounds_toArray, List.set_cons_zero, List.set_cons_succ]
        refine wpAnyH_ready (rs := [3]) (by kernel_rfl) (by simp) ?_
        refine AllReadyH.cons rfl (fun K hK => ?_) AllReadyH.nil
        go_simp
        refine (HT.out _ HW5.out.drew).mono ?_
        rintro e w6 ⟨rfl, b6⟩
        have hown6 : OwnT w6 (w.heap.size + 5) (.slice (some ⟨g, 0, none⟩) (m + 1) cap4) (m + 1) (q ++ [h]) := OwnT.kept (w := w5.drew) HO5.out b6
        have hW6 : Went (w.heap.size + 1) (w.heap.size + 5) 70 W w6 := HW5.out.drew.call b6 (Nat.le_trans hsz HW5.out.bs.1) (by omega)
        have hv6 : Boxed w6 (w.heap.size + 1) 22 (.slice (some ⟨g, 0, none⟩) (m + 1) cap4) := (b6.block _ (lt_of_at HV5.out)).trans HV5.out
        have cz6 : w6.cell? ⟨w.heap.size, 0, none⟩ = some (.int .i64 (S : Int)) := (b6.cell (p := ⟨w.heap.size, 0, none⟩) (lt_of_at HZ5.out)).trans HZ5.out.cell
        have hs6 : w.heap.size + 5 ≤ w6.heap.size := Nat.le_trans (Nat.le_trans hsz HW5.out.bs.1) b6.size
        clear b6
        go_wp2_with fail
        refine hK.out _ _ cz6 (fun _ => ?_)
        clear hK K
        try simp only [Act.put, List.setIfInBounds_toArray, List.set_cons_zero, List.set_cons_succ]
        refine wpAnyH_ready (rs := [4]) (by kernel_rfl) (by simp) ?_
        refine AllReadyH.cons rfl (fun K hK => ?_) AllReadyH.nil
        refine step_appTs w6 (by rfl) _ _ (by rfl) (w.heap.size + 5) _ (m + 1) (q ++ [h]) tx (by rfl) hown6 (by rfl) (by omega) (by omega) hs6 ?_
        intro g7 cap7 w7 hown8 hg7
        have hW7 : Went (w.heap.size + 1) (w.heap.size + 5) 70 W w7 := hW6.append (show World.ownsRow _ _ _ _ _ _ _ from hown6) (by decide) hg7 hs6 (by omega)
        have hv7 := hv6.kept hg7 (Boxed.not_row hv6 (by decide) (show World.ownsRow _ _ _ _ _ _ _ from hown6))
        have cz7 : w7.cell? ⟨w.heap.size, 0, none⟩ = some (.int .i64 (S : Int)) := (World.cell?_of_block (w := w6) (a := ⟨w.heap.size, 0, none⟩) (hg7.block w.heap.size (by omega) (fun e => by have := (World.ownsRow.lt (show World.ownsRow _ _ _ _ _ _ _ from hown6) _ e.symm).1; omega))).trans cz6
        refine hK.out _ _ cz7 (fun _ => ?_)
        clear hK K
        try simp only [Act.put, List.setIfInBounds_toArray, List.set_cons_zero, List.set_cons_succ]
        refine wpAnyH_ready (rs := [5]) (by kernel_rfl) (by simp) ?_
        refine AllReadyH.cons rfl (fun K hK => ?_) AllReadyH.nil
        have hv7c := hv7.cell
        have hv7f := hv7.frozen
        go_simp
        refine hK.out _ _ ((World.cell?_setCell_other _ _ _ _ (fun e => by have := congrArg Addr.block e; simp at this)).trans cz7) (fun _ => ?_)
        clear hK K
        try simp only [Act.put, List.setIfInBounds_toArray, List.set_cons_zero, List.set_cons_succ]
        refine wpAnyH_done (by kernel_rfl) ?_ _
        exact rt_end HI.out (hW7.store hv7 (by decide) _) (hv7.set _) (World.ownsRow.kept (show World.ownsRow _ _ _ _ _ _ _ from hown8) (grownBy_setCell' w7 (w.heap.size + 1) _) (.inr (hv7.not_row (by decide) (show World.ownsRow _ _ _ _ _ _ _ from hown8)).symm)) HQ.out _
      · go_simp
        refine (HT.out _ HW5.out.drew).mono ?_
        rintro e w6 ⟨rfl, b6⟩
        have hown6 : OwnT w6 (w.heap.size + 5) (.slice (some ⟨g, 0, none⟩) (m + 1) cap4) (m + 1) (q ++ [h]) := OwnT.kept (w := w5.drew) HO5.out b6
        have hW6 : Went (w.heap.size + 1) (w.heap.size + 5) 70 W w6 := HW5.out.drew.call b6 (Nat.le_trans hsz HW5.out.bs.1) (by omega)
        have hv6 : Boxed w6 (w.heap.size + 1) 22 (.slice (some ⟨g, 0, none⟩) (m + 1) cap4) := (b6.block _ (lt_of_at HV5.out)).trans HV5.out
        have cz6 : w6.cell? ⟨w.heap.size, 0, none⟩ = some (.int .i64 (S : Int)) := (b6.cell (p := ⟨w.heap.size, 0, none⟩) (lt_of_at HZ5.out)).trans HZ5.out.cell
        have hs6 : w.heap.size + 5 ≤ w6.heap.size := Nat.le_trans (Nat.le_trans hsz HW5.out.bs.1) b6.size
        clear b6
        go_wp2_with fail
        refine hK.out _ _ cz6 (fun _ => ?_)
        clear hK K
        try simp only [Act.put, List.setIfInBounds_toArray, List.set_cons_zero, List.set_cons_succ]
        refine wpAnyH_ready (rs := [0]) (by kernel_rfl) (by simp) ?_
        refine AllReadyH.cons rfl (fun K hK => ?_) AllReadyH.nil
        have hv6c := hv6.cell
        go_simp
        refine hK.out _ _ cz6 (fun _ => ?_)
        clear hK K
        try simp only [Act.put, List.setIfInBounds_toArray, List.set_cons_zero, List.set_cons_succ]
        refine wpAnyH_ready (rs := [4]) (by kernel_rfl) (by simp) ?_
        refine AllReadyH.cons rfl (fun K hK => ?_) AllReadyH.nil
        refine step_appTs w6 (by rfl) _ _ (by rfl) (w.heap.size + 5) _ (m + 1) (q ++ [h]) tx (by rfl) hown6 (by rfl) (by omega) (by omega) hs6 ?_
        intro g7 cap7 w7 hown8 hg7
        have hW7 : Went (w.heap.size + 1) (w.heap.size + 5) 70 W w7 := hW6.append (show World.ownsRow _ _ _ _ _ _ _ from hown6) (by decide) hg7 hs6 (by omega)
        have hv7 := hv6.kept hg7 (Boxed.not_row hv6 (by decide) (show World.ownsRow _ _ _ _ _ _ _ from hown6))
        have cz7 : w7.cell? ⟨w.heap.size, 0, none⟩ = some (.int .i64 (S : Int)) := (World.cell?_of_block (w := w6) (a := ⟨w.heap.size, 0, none⟩) (hg7.block w.heap.size (by omega) (fun e => by have := (World.ownsRow.lt (show World.ownsRow _ _ _ _ _ _ _ from hown6) _ e.symm).1; omega))).trans cz6
        refine hK.out _ _ cz7 (fun _ => ?_)
        clear hK K
        try simp only [Act.put, List.setIfInBounds_toArray, List.set_cons_zero, List.set_cons_succ]
        refine wpAnyH_ready (rs := [5]) (by kernel_rfl) (by simp) ?_
        refine AllReadyH.cons rfl (fun K hK => ?_) AllReadyH.nil
        have hv7c := hv7.cell
        have hv7f := hv7.frozen
        go_simp
        refine hK.out _ _ ((World.cell?_setCell_other _ _ _ _ (fun e => by have := congrArg Addr.block e; simp at this)).trans cz7) (fun _ => ?_)
        clear hK K
        try simp only [Act.put, List.setIfInBounds_toArray, List.set_cons_zero, List.set_cons_succ]
        refine wpAnyH_done (by kernel_rfl) ?_ _
        exact rt_end HI.out (hW7.store hv7 (by decide) _) (hv7.set _) (World.ownsRow.kept (show World.ownsRow _ _ _ _ _ _ _ from hown8) (grownBy_setCell' w7 (w.heap.size + 1) _) (.inr (hv7.not_row (by decide) (show World.ownsRow _ _ _ _ _ _ _ from hown8)).symm)) HQ.out _
  case done =>
    rintro D ys W hD hys ⟨⟨v, hv, hrow⟩, hZb, hbel, hsz⟩ hK
    rw [hys] at hrow
    have hc := hv.cell
    have htx := hrow.text
    have hall : Rt.flat S l (Rn.from_ 2 128 l 0) = Rt.all S l := rfl
    rw [hall] at htx
    clear HS
    gi_wp2
    refine ⟨by simp, .inl ⟨_, _, rfl, run_takeDeferred hK, ?_⟩⟩
    exact ⟨_, results_tmp rfl _ _ _, rfl, hbel.trans (belowK_b (w := w) (Nat.le_refl _) W D _ _ (by have := HZ.out; omega) hK rfl rfl)⟩
  case stop =>
    rintro D c pre W _ _ h _
    exact h.elim
end Go.Proofs.Ytmcjdilmmabiaaa
