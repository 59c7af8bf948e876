/- PackPut of the program. -/
import Derived.Test.YtmcjdilmmabiaaaRnIterB
import Derived.Test.YtmcjdilmmabiaaaRnWent
import Derived.Test.YtmcjdilmmabiaaaRoundReg
import Derived.Test.YtmcjdilmmabiaaaPkMath
import Derived.Test.YtmcjdilmmabiaaaOwnText
import Derived.Test.YtmcjdilmmabiaaaOwnBytes
import Derived.Maps.AppendAt
namespace Go.Proofs.Ytmcjdilmmabiaaa
open Go.RowKit Go.Shelf

attribute [local go_sem] Oper.semAt_some

/-- the bytes of a text, laid anew -/
theorem conv_lies (s : ByteArray) (w : World) : ∃ (cap : Nat) (w2 : World), Sem.run Try.prog (convert 9 22 (.string s)) w = .ok (.slice (some ⟨w.heap.size, 0, none⟩) s.size cap) w2 ∧
    RB.Lies w2 w.heap.size 0 (Pk.ints s.data.toList) ∧ Below w.heap.size w w2 ∧ w2.heap.size = w.heap.size + 1 ∧ s.size ≤ cap := by
  refine ⟨_, _, run_bytes_of_string w 9 22 5 s Try.underlying9 Try.underlying22 Try.underlying5, ⟨?_, ?_⟩, ?_, ?_, grownCap_ge _ _ _ _⟩
  · simp
  · intro i hi
    rw [Pk.ints_at]
    have h : i < s.size := by rw [Pk.ints_len, bytes_len] at hi; exact hi
    generalize grownCap w s.size 0 5 = cap
    have hg : (w.drew.alloc (.cells (bytesRow s cap) 5 ((bytesRow s cap).size, (bytesRow s cap).size + 1))).heap[w.heap.size]? = some (.cells (bytesRow s cap) 5 ((bytesRow s cap).size, (bytesRow s cap).size + 1)) := heap_alloc_new w.drew _
    rw [Nat.zero_add, cell_of_row _ _ _ _ _ _ hg, bytesRow_at s cap i h]
    show some (Value.int .u8 ((s[i].toNat : Nat) : Int)) = _
    rw [byteAt_eq s i h]; rfl
  · exact (Below.refl _ _).drew.alloc (Nat.le_refl _) _
  · simp

/-- between two rounds: the text so far in a row of the call's own, the list as it was -/
def PkI (w : World) (l : List UInt8) (N : Nat) (pre : List (RB.St N 128)) (W : World) : Prop :=
  (∃ v, Boxed W w.heap.size 22 v ∧ OwnT W (w.heap.size + 5) v (Pk.flat l (pre.map Subtype.val)).length (Pk.flat l (pre.map Subtype.val))) ∧
  RB.Lies W (w.heap.size + 1) 0 (Pk.ints l) ∧ Below w.heap.size w W ∧ w.heap.size + 5 ≤ W.heap.size

theorem pkI_own (w : World) (l : List UInt8) (N B : Nat) (hB : w.heap.size + 5 ≤ B) : OwnFrom B (PkI w l N) := by
  rintro pre X Y row ⟨⟨v, hv, hr⟩, hL, hb, hs⟩ hg hrow
  have hne : ∀ k, k < w.heap.size + 5 → some k ≠ row := fun k hk e => by have := (hrow k e.symm).1; omega
  refine ⟨⟨v, hv.kept hg (hne _ (by omega)), World.ownsRow.kept (show World.ownsRow _ _ _ _ _ _ _ from hr) hg ?_⟩, ⟨Nat.lt_of_lt_of_le hL.1 hg.size, fun i hi => (World.cell?_of_block (w := X) (a := ⟨w.heap.size + 1, 0 + i, none⟩) (hg.block _ hL.1 (hne (w.heap.size + 1) (by omega)))).trans (hL.2 i hi)⟩, hb.grown hg hb.size (fun k e => by have := (hrow k e).1; omega), Nat.le_trans hs hg.size⟩
  by_cases h0 : v.ownBlock = none
  · exact .inl h0
  · refine .inr (fun e => ?_)
    rcases (show World.ownsRow _ _ _ _ _ _ _ from hr).2 with ⟨rfl, _⟩ | ⟨g, cap, cur, rfl, _, h2, _⟩
    · exact h0 rfl
    · obtain ⟨_, o, ho, hc⟩ := hrow g e.symm
      rw [h2] at ho; cases ho; cases hc

theorem pk_end {w : World} {l : List UInt8} {N : Nat} {pre : List (RB.St N 128)} {x : RB.St N 128} {W W' : World} {T : TypeId} {v : Value} {m : Nat} {q : List UInt8} (hI : PkI w l N pre W) (hw : Went w.heap.size (w.heap.size + 5) T W W')
    (hb : Boxed W' w.heap.size 22 v) (hr : OwnT W' (w.heap.size + 5) v m q) (hq : q = Pk.flat l (pre.map Subtype.val) ++ Pk.piece l x.1) (B : Nat) : KeepsFrom B W W' ∧ Beside w.heap.size (w.heap.size + 5) W W' ∧ PkI w l N (pre ++ [x]) W' := by
  obtain ⟨_, hL, hbel, hs⟩ := hI
  refine ⟨hw.ko.from _, hw.bs, ⟨v, hb, ?_⟩, ⟨Nat.lt_of_lt_of_le hL.1 hw.bs.1, fun i hi => (World.cell?_of_block (w := W) (a := ⟨w.heap.size + 1, 0 + i, none⟩) (hw.bs.2 (w.heap.size + 1) (by omega) (by omega))).trans (hL.2 i hi)⟩, hbel.trans hw.bl, Nat.le_trans hs hw.bs.1⟩
  rw [List.map_append, List.map_singleton, Pk.flat_snoc, ← hq, hr.len]
  exact hr

set_option linter.unusedSimpArgs false in
set_option maxRecDepth 100000 in
set_option maxHeartbeats 4000000 in
theorem impl_packPut_in (s : ByteArray) (w : World) (hs : s.size ≤ 5000) :
    CallsIn Fence.wide 3 Try.prog 8 #[.string s] w fun e W' => e = .returned (.string ⟨(Pk.all s.data.toList).toArray⟩) ∧ Below w.heap.size w W' := by
  have hro : Fence.wide.round = none := rfl
  obtain ⟨i0, hi0, hz0, hz1, hz2⟩ := info_parts info_u8t
  obtain ⟨l, hl⟩ : ∃ l, l = s.data.toList := ⟨_, rfl⟩
  have HLN : Hid (l.length = s.size) := by show _ = _; rw [hl]; exact bytes_len s
  rw [← hl]
  have hd : decide ((s.size : Int) > 5000) = false := by simp; omega
  obtain ⟨cap, w2, hcv, hL2, hb2, hsz2, hcap⟩ := conv_lies s (w.alloc (.cells #[.slice none 0 0] 22))
  have HL2 : Hid (RB.Lies w2 (w.heap.size + 1) 0 (Pk.ints l)) := by rw [World.size_alloc] at hL2; rw [hl]; exact hL2
  rw [World.size_alloc] at hcv hb2 hsz2
  clear hL2 hl
  refine callsIn_of_wp_marks Try.func8 rfl trivial ?_ hro
  simp only [Try.ntmps8, List.size_toArray, List.length_cons, List.length_nil, Nat.reduceAdd, Nat.reduceSub, Array.replicate_succ, Array.replicate_zero, List.push_toArray, List.append_toArray, List.nil_append, List.cons_append]
  gi_wp2
  refine ⟨trivial, ?_⟩
  gi_wp2
  refine (callsIn_wide.2 (RB.stretchesOf_any (some ⟨w.heap.size + 1, 0, none⟩) s.size cap 3 128 w2)).mono ?_
  rintro e w3 ⟨rfl, hw3⟩
  gi_wp2
  clear hcv hw3
  obtain ⟨W0, hW0⟩ : ∃ W0, ((w2.alloc (.cells #[.slice (some ⟨w.heap.size + 1, 0, none⟩) s.size cap] 22)).alloc (.cells #[.int .i64 3] 3)).alloc (.cells #[.int .i64 128] 3) = W0 := ⟨_, rfl⟩
  rw [hW0]
  have HZ : Hid (W0.heap.size = w.heap.size + 5) := by show _ = _; rw [← hW0]; simp; omega
  have hB02 : Below w2.heap.size w2 W0 := by rw [← hW0]; exact (((Below.refl _ _).alloc (Nat.le_refl _) _).alloc (by simp) _).alloc (by simp; omega) _
  have HB0 : Hid (Below w.heap.size w W0) := (((Below.refl _ w).alloc (Nat.le_refl _) _).trans (hb2.mono (by omega))).trans (hB02.mono (by omega))
  have HBx : Hid (Boxed W0 w.heap.size 22 (.slice none 0 0)) := (hB02.block _ (by omega)).trans ((hb2.block _ (by omega)).trans (Boxed.new w 22 (.slice none 0 0)))
  have HH : Hid (RB.Held W0 (some ⟨w.heap.size + 1, 0, none⟩) (w.heap.size + 1 + 1) (w.heap.size + 1 + 1 + 2) (w.heap.size + 1 + 1 + 1) (w.heap.size + 1) 0 cap s.size 3 128 (Pk.ints l)) := by
    refine ⟨?_, ?_, ?_, Nat.lt_of_lt_of_le HL2.out.1 hB02.size, fun i hi => (hB02.cell (p := ⟨w.heap.size + 1, 0 + i, none⟩) HL2.out.1).trans (HL2.out.2 i hi)⟩
    · rw [← hW0, ← hsz2]
      exact (((Boxed.new w2 22 _).alloc _).alloc _).cell
    · rw [← hW0, ← hsz2, show w2.heap.size + 2 = ((w2.alloc (.cells #[.slice (some ⟨w.heap.size + 1, 0, none⟩) s.size cap] 22)).alloc (.cells #[.int .i64 3] 3)).heap.size by simp]
      exact (Boxed.new _ 3 _).cell
    · rw [← hW0, ← hsz2, show w2.heap.size + 1 = (w2.alloc (.cells #[.slice (some ⟨w.heap.size + 1, 0, none⟩) s.size cap] 22)).heap.size by simp]
      exact ((Boxed.new _ 3 _).alloc _).cell
  clear hW0 hB02 hb2 HL2
  have HS := RB.stretches_stops 2 (by omega) (some ⟨w.heap.size + 1, 0, none⟩) (w.heap.size + 1 + 1) (w.heap.size + 1 + 1 + 2) (w.heap.size + 1 + 1 + 1) (w.heap.size + 1) 0 cap s.size 3 128 w.heap.size (w.heap.size + 5) (Pk.ints l) W0 (by omega) (by omega) (by omega) (by omega) (by omega) (by omega) (by omega) (by omega) (by rw [HZ.out]; exact Nat.le_refl _)
    (by rw [Pk.ints_len, HLN.out]) (by omega) (by omega) (by omega) (by omega) hcap (.inr rfl) HH.out
  refine wpIn_rangeFunc_ownH hro (by omega) (gf := 44) (lb := _) rfl trivial (enters_of Try.func44 (by kernel_rfl) rfl)
    HS Beside.trans (Beside.book (by rw [HZ.out]; exact Nat.le_refl _)) (Below.refl _ _) (fun _ => rfl)
    (PkI w l s.size) (fun _ _ _ => False) (pkI_own w l s.size _ (by rw [HZ.out]; exact Nat.le_refl _)) (fun _ _ _ _ _ hs _ _ => hs)
    ⟨⟨_, HBx.out, ownT_nil _ _⟩, HH.out.lies, HB0.out, by rw [HZ.out]; exact Nat.le_refl _⟩
    (fun x a' W => ∃ Bx, w.heap.size + 5 ≤ Bx ∧ W.heap[Bx]? = some (.cells #[.slice (some ⟨w.heap.size + 1, x.1.1, none⟩) x.1.2.1 (cap - x.1.1), .bool x.1.2.2] 50 (0, 0)) ∧
      a' = { tmps := #[.string s, undef, .string ⟨#[]⟩, .pointer (some ⟨w.heap.size, 0, none⟩), .pointer (some ⟨Bx, 0, none⟩), .string s, .int .i64 (s.size : Int), .bool false, .string s, .slice (some ⟨w.heap.size + 1, 0, none⟩) s.size cap, .func (.func 44) #[] #[.pointer (some ⟨w.heap.size + 1 + 1, 0, none⟩), .pointer (some ⟨w.heap.size + 1 + 1 + 2, 0, none⟩), .pointer (some ⟨w.heap.size + 1 + 1 + 1, 0, none⟩)], .agg #[.slice (some ⟨w.heap.size + 1, x.1.1, none⟩) x.1.2.1 (cap - x.1.1), .bool x.1.2.2], undef, undef, undef, undef, undef, undef, undef, undef, undef, undef, undef, undef, undef, undef, undef, undef, undef, undef, undef, undef, undef, undef, undef, undef, undef, undef, undef, undef], defers := [] })
    ?ax ?assign ?body ?done ?stop
  case ax =>
    rintro x a' _ X Y row ⟨Bx, h1, h2, h3⟩ hg hrow
    refine ⟨Bx, h1, (hg.block Bx (lt_of_at h2) (fun e => ?_)).trans h2, h3⟩
    obtain ⟨_, o, ho, hc⟩ := hrow Bx e.symm
    rw [h2] at ho; cases ho; cases hc
  case assign =>
    rintro r pre x W K hi hK
    dsimp only [RB.enc]
    gi_wp2
    have hsz := hi.2.2.2
    exact hK _ _ ((KeepsOthers.alloc _ _).from _) (Beside.of ((Below.refl _ W).alloc hsz _)) ((pkI_own w l s.size _ (Nat.le_refl _)).alloc _ hi) ⟨W.heap.size, hsz, heap_alloc_new _ _, rfl⟩
  case body =>
    rintro r pre ⟨⟨k, z, ag⟩, hk, hzl, hzm⟩ a' W _ ⟨rr, hrr⟩ hI ⟨Bx, hBx, hbx, rfl⟩ hlt
    have HI : Hid (PkI w l s.size pre W) := hI
    obtain ⟨⟨v, hv, hrow⟩, hL, hbel, hsz⟩ := hI
    dsimp only at hk hzl hzm hbx
    have hpl : pre.length ≤ 5000 := by
      have h1 := Rn.all_len (least := 3) (m := 128) (l := Pk.ints l) ((Pk.ints l).length - 0) 0
      have h2 : (Rn.from_ 3 128 (Pk.ints l) 0).length ≤ (Pk.ints l).length - 0 := h1
      rw [Pk.ints_len, HLN.out] at h2
      omega
    have hfl := Pk.flat_len l (pre.map Subtype.val) (fun y hy => by
      obtain ⟨x, _, rfl⟩ := List.mem_map.1 hy
      exact x.2.2.2)
    rw [List.length_map] at hfl
    have hkL : k < (Pk.ints l).length := by rw [Pk.ints_len, HLN.out]; omega
    have cy0 := hL.2 k hkL
    rw [Pk.ints_at, Nat.zero_add] at cy0
    obtain ⟨q, hq⟩ : ∃ q, q = Pk.flat l (pre.map Subtype.val) := ⟨_, rfl⟩
    obtain ⟨m, hm⟩ : ∃ m, m = q.length := ⟨_, rfl⟩
    rw [← hq, ← hm] at hrow
    have hmb : m ≤ 645000 := by rw [hm, hq]; omega
    have HR : Hid (OwnT W (w.heap.size + 5) v m q) := hrow
    have HV : Hid (Boxed W w.heap.size 22 v) := hv
    have HX : Hid (W.heap[Bx]? = some (.cells #[.slice (some ⟨w.heap.size + 1, k, none⟩) z (cap - k), .bool ag] 50 (0, 0))) := hbx
    have HLs : Hid (RB.Lies W (w.heap.size + 1) 0 (Pk.ints l)) := hL
    have hBA : Bx ≠ w.heap.size := by omega
    have c0 := cell_two0 hbx
    have c1 := cell_two1 hbx
    have hvc := hv.cell
    have hvf := hv.frozen
    clear hrow hv hbx hL hfl hlt hpl hkL hm HS HH HB0 HBx hrr
    cases ag with
    | true =>
      obtain ⟨y, hy⟩ : ∃ y, y = (l.getD k 0).toNat := ⟨_, rfl⟩
      have cy : W.cell? ⟨w.heap.size + 1, k, none⟩ = some (.int .u8 (y : Int)) := by rw [hy]; exact cy0
      obtain ⟨c, hc⟩ : ∃ c : Nat, c = 257 - z := ⟨_, rfl⟩
      have e1 : IntKind.i64.wrap (257 - (z : Int)) = (c : Int) := by simp [IntKind.wrap, IntKind.bits, IntKind.signed]; omega
      obtain ⟨u, hu⟩ : ∃ u, u = (UInt8.ofNat c).toNat := ⟨_, rfl⟩
      have e2 : IntKind.u8.wrap (c : Int) = (u : Int) := by rw [hu]; simp [IntKind.wrap, IntKind.bits, IntKind.signed]
      have HQ : Hid (q ++ [UInt8.ofNat c, l.getD k 0] = Pk.flat l (pre.map Subtype.val) ++ Pk.piece l (k, z, true)) := by
        show _ = _; rw [hq, hc]; rfl
      have hzc : 0 < z := by omega
      have SA0 : (W.drew.alloc (.cells #[.int .u8 (u : Int), .int .u8 (y : Int)] 5)).cell? ⟨Bx, 0, none⟩ = some (.slice (some ⟨w.heap.size + 1, k, none⟩) z (cap - k)) := (World.cell?_alloc_some W _ _ (by rw [c0]; rfl)).trans c0
      have SA1 : (W.drew.alloc (.cells #[.int .u8 (u : Int), .int .u8 (y : Int)] 5)).cell? ⟨w.heap.size + 1, k, none⟩ = some (.int .u8 (y : Int)) := (World.cell?_alloc_some W _ _ (by rw [cy]; rfl)).trans cy
      have HU : Hid (u = (UInt8.ofNat c).toNat ∧ y = (l.getD k 0).toNat) := ⟨hu, hy⟩
      clear hq hc cy0 hu hy
      gi_wp2
      -- REG7
      refine round_region_held (S := fun w' => w'.cell? ⟨Bx, 0, none⟩ = some (.slice (some ⟨w.heap.size + 1, k, none⟩) z (cap - k)) ∧ w'.cell? ⟨w.heap.size + 1, k, none⟩ = some (.int .u8 (y : Int))) (by kernel_rfl) (fun _ _ h => h) (by kernel_rfl) ⟨c0, cy⟩ (fun _ => ?_)
      refine wpAnyH_take (i := 1) (v := .pointer (some ⟨Bx, 0, none⟩)) rfl (by kernel_rfl) (by kernel_rfl) (by kernel_rfl) (fun _ _ _ h => h) (Or.inl ⟨by rfl, ?_⟩) ⟨c0, cy⟩ ?_
      · rintro w' ⟨s1, s2⟩
        go_simp
      try simp only [Act.put, List.setIfInBounds_toArray, List.set_cons_zero, List.set_cons_succ]
      refine wpAnyH_take (i := 2) (v := (.slice (some ⟨w.heap.size + 1, k, none⟩) z (cap - k))) rfl (by kernel_rfl) (by kernel_rfl) (by kernel_rfl) (fun _ _ _ h => h) (Or.inl ⟨by rfl, ?_⟩) ⟨c0, cy⟩ ?_
      · rintro w' ⟨s1, s2⟩
        go_simp
      try simp only [Act.put, List.setIfInBounds_toArray, List.set_cons_zero, List.set_cons_succ]
      refine wpAnyH_take (i := 3) (v := .int .i64 (z : Int)) rfl (by kernel_rfl) (by kernel_rfl) (by kernel_rfl) (fun _ _ _ h => h) (Or.inl ⟨by rfl, ?_⟩) ⟨c0, cy⟩ ?_
      · rintro w' ⟨s1, s2⟩
        go_simp
      try simp only [Act.put, List.setIfInBounds_toArray, List.set_cons_zero, List.set_cons_succ]
      refine wpAnyH_take (i := 4) (v := .int .i64 (c : Int)) rfl (by kernel_rfl) (by kernel_rfl) (by kernel_rfl) (fun _ _ _ h => h) (Or.inl ⟨by rfl, ?_⟩) ⟨c0, cy⟩ ?_
      · rintro w' ⟨s1, s2⟩
        go_simp
      try simp only [Act.put, List.setIfInBounds_toArray, List.set_cons_zero, List.set_cons_succ]
      refine wpAnyH_take (i := 5) (v := .int .u8 (u : Int)) rfl (by kernel_rfl) (by kernel_rfl) (by kernel_rfl) (fun _ _ _ h => h) (Or.inl ⟨by rfl, ?_⟩) ⟨c0, cy⟩ ?_
      · rintro w' ⟨s1, s2⟩
        go_simp
      try simp only [Act.put, List.setIfInBounds_toArray, List.set_cons_zero, List.set_cons_succ]
      refine wpAnyH_take (i := 6) (v := .pointer (some ⟨Bx, 0, none⟩)) rfl (by kernel_rfl) (by kernel_rfl) (by kernel_rfl) (fun _ _ _ h => h) (Or.inl ⟨by rfl, ?_⟩) ⟨c0, cy⟩ ?_
      · rintro w' ⟨s1, s2⟩
        go_simp
      try simp only [Act.put, List.setIfInBounds_toArray, List.set_cons_zero, List.set_cons_succ]
      refine wpAnyH_take (i := 7) (v := (.slice (some ⟨w.heap.size + 1, k, none⟩) z (cap - k))) rfl (by kernel_rfl) (by kernel_rfl) (by kernel_rfl) (fun _ _ _ h => h) (Or.inl ⟨by rfl, ?_⟩) ⟨c0, cy⟩ ?_
      · rintro w' ⟨s1, s2⟩
        go_simp
      try simp only [Act.put, List.setIfInBounds_toArray, List.set_cons_zero, List.set_cons_succ]
      refine wpAnyH_take (i := 8) (v := .pointer (some ⟨w.heap.size + 1, k, none⟩)) rfl (by kernel_rfl) (by kernel_rfl) (by kernel_rfl) (fun _ _ _ h => h) (Or.inl ⟨by rfl, ?_⟩) ⟨c0, cy⟩ ?_
      · rintro w' ⟨s1, s2⟩
        go_simp
      try simp only [Act.put, List.setIfInBounds_toArray, List.set_cons_zero, List.set_cons_succ]
      refine wpAnyH_take (i := 9) (v := .int .u8 (y : Int)) rfl (by kernel_rfl) (by kernel_rfl) (by kernel_rfl) (fun _ _ _ h => h) (Or.inl ⟨by rfl, ?_⟩) ⟨c0, cy⟩ ?_
      · rintro w' ⟨s1, s2⟩
        go_simp
      try simp only [Act.put, List.setIfInBounds_toArray, List.set_cons_zero, List.set_cons_succ]
      refine wpAnyH_ready (rs := [0, 10]) (by kernel_rfl) (by simp) ?_
      refine AllReadyH.cons rfl (fun K hK => ?_) (AllReadyH.cons rfl (fun K hK => ?_) AllReadyH.nil)
      · go_simp
        refine hK.out _ _ ⟨c0, cy⟩ (fun _ => ?_)
        clear hK K
        try simp only [Act.put, List.setIfInBounds_toArray, List.set_cons_zero, List.set_cons_succ]
        refine wpAnyH_ready (rs := [10]) (by kernel_rfl) (by simp) ?_
        refine AllReadyH.cons rfl (fun K hK => ?_) AllReadyH.nil
        go_simp
        refine hK.out _ _ ⟨SA0, SA1⟩ (fun _ => ?_)
        clear hK K
        try simp only [Act.put, List.setIfInBounds_toArray, List.set_cons_zero, List.set_cons_succ]
        refine wpAnyH_ready (rs := [11]) (by kernel_rfl) (by simp) ?_
        refine AllReadyH.cons rfl (fun K hK => ?_) AllReadyH.nil
        refine step_append_lies _ (by rfl) _ _ _ (by rfl) (w.heap.size + 5) 5 i0 (.int .u8 0) 1 1 Try.underlying22 hi0 hz0 hz1 hz2 rfl (by decide) v m (u8V q) (by rfl) (World.ownsRow.alloc (show World.ownsRow _ _ _ _ _ _ _ from HR.out) _) ⟨W.heap.size, 0, none⟩ 2 2 [.int .u8 (u : Int), .int .u8 (y : Int)] (by rfl) rfl (World.news_of_block (heap_alloc_new _ _)) (fun x hx => by simp at hx; rcases hx with rfl | rfl <;> rfl) (by decide) (by unfold maxLen; omega) (by omega) (Nat.le_trans hsz (by simp)) _ rfl ?_
        intro g cap4 w4 hown4 hg4 _ _
        have hW4 : Went w.heap.size (w.heap.size + 5) 50 W w4 := (((Went.refl _ _ _ W).drew.alloc (X := W.drew) hsz (show w.heap.size ≤ W.heap.size by omega) (.cells #[.int .u8 (u : Int), .int .u8 (y : Int)] 5))).append (World.ownsRow.alloc (show World.ownsRow _ _ _ _ _ _ _ from HR.out) _) (by decide) hg4 (Nat.le_trans hsz (by simp)) (by omega)
        have hvA' : Boxed (W.alloc (.cells #[.int .u8 (u : Int), .int .u8 (y : Int)] 5)).drew w.heap.size 22 v := HV.out.alloc (.cells #[.int .u8 (u : Int), .int .u8 (y : Int)] 5)
        have hv4 : Boxed w4 w.heap.size 22 v := hvA'.kept hg4 (Boxed.not_row hvA' (by decide) (World.ownsRow.alloc (show World.ownsRow _ _ _ _ _ _ _ from HR.out) _))
        have hx4 := hW4.bx _ _ _ HX.out
        have hown5 : OwnT w4 (w.heap.size + 5) (.slice (some ⟨g, 0, none⟩) (m + 2) cap4) (m + 2) (q ++ [UInt8.ofNat c, l.getD k 0]) := by
          unfold OwnT
          rw [← u8V_append, show u8V [UInt8.ofNat c, l.getD k 0] = [.int .u8 (u : Int), .int .u8 (y : Int)] by rw [HU.out.1, HU.out.2]; rfl]
          exact hown4
        have c0' := cell_two0 hx4
        have cy' : w4.cell? ⟨w.heap.size + 1, k, none⟩ = some (.int .u8 (y : Int)) := (World.cell?_of_block (w := W) (a := ⟨w.heap.size + 1, k, none⟩) (hW4.bs.2 (w.heap.size + 1) (by omega) (by omega))).trans cy
        refine hK.out _ _ ⟨c0', cy'⟩ (fun _ => ?_)
        clear hK K
        try simp only [Act.put, List.setIfInBounds_toArray, List.set_cons_zero, List.set_cons_succ]
        refine wpAnyH_ready (rs := [12]) (by kernel_rfl) (by simp) ?_
        refine AllReadyH.cons rfl (fun K hK => ?_) AllReadyH.nil
        have hv4c := hv4.cell
        have hv4f := hv4.frozen
        go_simp
        refine hK.out _ _ ⟨(World.cell?_setCell_other _ _ _ _ (fun e => hBA (congrArg Addr.block e).symm)).trans c0', (World.cell?_setCell_other _ _ _ _ (fun e => by have := congrArg Addr.block e; simp at this)).trans cy'⟩ (fun _ => ?_)
        clear hK K
        try simp only [Act.put, List.setIfInBounds_toArray, List.set_cons_zero, List.set_cons_succ]
        refine wpAnyH_done (by kernel_rfl) ?_ _
        exact pk_end HI.out (hW4.store hv4 (by decide) _) (hv4.set _) (World.ownsRow.kept (show World.ownsRow _ _ _ _ _ _ _ from hown5) (grownBy_setCell' w4 w.heap.size _) (.inr (hv4.not_row (by decide) (show World.ownsRow _ _ _ _ _ _ _ from hown5)).symm)) HQ.out _
      · go_simp
        refine hK.out _ _ ⟨SA0, SA1⟩ (fun _ => ?_)
        clear hK K
        try simp only [Act.put, List.setIfInBounds_toArray, List.set_cons_zero, List.set_cons_succ]
        refine wpAnyH_ready (rs := [0]) (by kernel_rfl) (by simp) ?_
        refine AllReadyH.cons rfl (fun K hK => ?_) AllReadyH.nil
        have hvA : (W.alloc (.cells #[.int .u8 (u : Int), .int .u8 (y : Int)] 5)).cell? ⟨w.heap.size, 0, none⟩ = some v := (HV.out.alloc (.cells #[.int .u8 (u : Int), .int .u8 (y : Int)] 5)).cell
        go_simp
        refine hK.out _ _ ⟨SA0, SA1⟩ (fun _ => ?_)
        clear hK K
        try simp only [Act.put, List.setIfInBounds_toArray, List.set_cons_zero, List.set_cons_succ]
        refine wpAnyH_ready (rs := [11]) (by kernel_rfl) (by simp) ?_
        refine AllReadyH.cons rfl (fun K hK => ?_) AllReadyH.nil
        refine step_append_lies _ (by rfl) _ _ _ (by rfl) (w.heap.size + 5) 5 i0 (.int .u8 0) 1 1 Try.underlying22 hi0 hz0 hz1 hz2 rfl (by decide) v m (u8V q) (by rfl) (World.ownsRow.alloc (show World.ownsRow _ _ _ _ _ _ _ from HR.out) _) ⟨W.heap.size, 0, none⟩ 2 2 [.int .u8 (u : Int), .int .u8 (y : Int)] (by rfl) rfl (World.news_of_block (heap_alloc_new _ _)) (fun x hx => by simp at hx; rcases hx with rfl | rfl <;> rfl) (by decide) (by unfold maxLen; omega) (by omega) (Nat.le_trans hsz (by simp)) _ rfl ?_
        intro g cap4 w4 hown4 hg4 _ _
        have hW4 : Went w.heap.size (w.heap.size + 5) 50 W w4 := (((Went.refl _ _ _ W).drew.alloc (X := W.drew) hsz (show w.heap.size ≤ W.heap.size by omega) (.cells #[.int .u8 (u : Int), .int .u8 (y : Int)] 5))).append (World.ownsRow.alloc (show World.ownsRow _ _ _ _ _ _ _ from HR.out) _) (by decide) hg4 (Nat.le_trans hsz (by simp)) (by omega)
        have hvA' : Boxed (W.alloc (.cells #[.int .u8 (u : Int), .int .u8 (y : Int)] 5)).drew w.heap.size 22 v := HV.out.alloc (.cells #[.int .u8 (u : Int), .int .u8 (y : Int)] 5)
        have hv4 : Boxed w4 w.heap.size 22 v := hvA'.kept hg4 (Boxed.not_row hvA' (by decide) (World.ownsRow.alloc (show World.ownsRow _ _ _ _ _ _ _ from HR.out) _))
        have hx4 := hW4.bx _ _ _ HX.out
        have hown5 : OwnT w4 (w.heap.size + 5) (.slice (some ⟨g, 0, none⟩) (m + 2) cap4) (m + 2) (q ++ [UInt8.ofNat c, l.getD k 0]) := by
          unfold OwnT
          rw [← u8V_append, show u8V [UInt8.ofNat c, l.getD k 0] = [.int .u8 (u : Int), .int .u8 (y : Int)] by rw [HU.out.1, HU.out.2]; rfl]
          exact hown4
        have c0' := cell_two0 hx4
        have cy' : w4.cell? ⟨w.heap.size + 1, k, none⟩ = some (.int .u8 (y : Int)) := (World.cell?_of_block (w := W) (a := ⟨w.heap.size + 1, k, none⟩) (hW4.bs.2 (w.heap.size + 1) (by omega) (by omega))).trans cy
        refine hK.out _ _ ⟨c0', cy'⟩ (fun _ => ?_)
        clear hK K
        try simp only [Act.put, List.setIfInBounds_toArray, List.set_cons_zero, List.set_cons_succ]
        refine wpAnyH_ready (rs := [12]) (by kernel_rfl) (by simp) ?_
        refine AllReadyH.cons rfl (fun K hK => ?_) AllReadyH.nil
        have hv4c := hv4.cell
        have hv4f := hv4.frozen
        go_simp
        refine hK.out _ _ ⟨(World.cell?_setCell_other _ _ _ _ (fun e => hBA (congrArg Addr.block e).symm)).trans c0', (World.cell?_setCell_other _ _ _ _ (fun e => by have := congrArg Addr.block e; simp at this)).trans cy'⟩ (fun _ => ?_)
        clear hK K
        try simp only [Act.put, List.setIfInBounds_toArray, List.set_cons_zero, List.set_cons_succ]
        refine wpAnyH_done (by kernel_rfl) ?_ _
        exact pk_end HI.out (hW4.store hv4 (by decide) _) (hv4.set _) (World.ownsRow.kept (show World.ownsRow _ _ _ _ _ _ _ from hown5) (grownBy_setCell' w4 w.heap.size _) (.inr (hv4.not_row (by decide) (show World.ownsRow _ _ _ _ _ _ _ from hown5)).symm)) HQ.out _
      -- ENDREG7
    | false =>
      obtain ⟨c, rfl⟩ : ∃ c, z = c + 1 := ⟨z - 1, by omega⟩
      obtain ⟨p, hp⟩ : ∃ p, p = (l.drop k).take (c + 1) := ⟨_, rfl⟩
      have hpl : p.length = c + 1 := by rw [hp, List.length_take, List.length_drop, HLN.out]; omega
      have HQ : Hid (q ++ [UInt8.ofNat c] ++ p = Pk.flat l (pre.map Subtype.val) ++ Pk.piece l (k, c + 1, false)) := by
        show _ = _
        rw [hq, List.append_assoc, hp]; rfl
      have HU : Hid ([Value.int .u8 (c : Int)] = u8V [UInt8.ofNat c]) := by
        show _ = _
        simp [u8V]; omega
      have HN : Hid (∀ (j : Nat) (u : Value), (u8V p)[j]? = some u → W.cell? ⟨w.heap.size + 1, k + j, none⟩ = some u) := by
        intro j u hj
        have hjl : j < p.length := by rw [← u8V_len]; exact (List.getElem?_eq_some_iff.1 hj).1
        have hkj : k + j < (Pk.ints l).length := by rw [Pk.ints_len, HLN.out]; omega
        have h1 := HLs.out.2 (k + j) hkj
        rw [Pk.ints_at, Nat.zero_add] at h1
        rw [h1, ← hj]
        have h2 : p[j]? = some (l.getD (k + j) 0) := by
          rw [hp, List.getElem?_take, if_pos (by omega), List.getElem?_drop, List.getD_eq_getElem?_getD, List.getElem?_eq_getElem (by rw [Pk.ints_len] at hkj; exact hkj)]
          rfl
        unfold u8V
        rw [List.getElem?_map, h2]
        rfl
      have HP : Hid (p.length = c + 1) := hpl
      clear hq hp hpl cy0
      gi_wp2_with (gi_at_builtin; refine wpListIn_append_own _ rfl _ _ 22 rfl (w.heap.size + 5) 5 i0 (.int .u8 0) 1 1 Try.underlying22 hi0 hz0 hz1 hz2 rfl (by decide) v m (u8V q) rfl (World.ownsRow.alloc (show World.ownsRow _ _ _ _ _ _ _ from HR.out) _) ⟨W.heap.size, 0, none⟩ 1 1 [.int .u8 (c : Int)] rfl rfl (cell_one_new _ _ _) (by simp [Value.oneCell']) (by unfold maxLen; omega) (by omega) (Nat.le_trans hsz (by simp)) ?_)
      intro v4 w4 hown4 hg4 _
      obtain ⟨g, cap4, rfl⟩ := ownsRow_succ hown4
      have hW4 : Went w.heap.size (w.heap.size + 5) 50 W w4 := ((Went.refl _ _ _ W).alloc hsz (by omega) (.cells #[.int .u8 (c : Int)] 5)).append (World.ownsRow.alloc (show World.ownsRow _ _ _ _ _ _ _ from HR.out) _) (by decide) hg4 (Nat.le_trans hsz (by simp)) (by omega)
      have hvA : Boxed (W.alloc (.cells #[.int .u8 (c : Int)] 5)) w.heap.size 22 v := HV.out.alloc _
      have hv4 : Boxed w4 w.heap.size 22 v := hvA.kept hg4 (Boxed.not_row hvA (by decide) (World.ownsRow.alloc (show World.ownsRow _ _ _ _ _ _ _ from HR.out) _))
      have hv4c := hv4.cell
      have hv4f := hv4.frozen
      obtain ⟨w5, hw5⟩ : ∃ w5, w5 = w4.setCell ⟨w.heap.size, 0, none⟩ (.slice (some ⟨g, 0, none⟩) (m + 1) cap4) := ⟨_, rfl⟩
      have hW5 : Went w.heap.size (w.heap.size + 5) 50 W w5 := by rw [hw5]; exact hW4.store hv4 (by decide) _
      have hv5 : Boxed w5 w.heap.size 22 (.slice (some ⟨g, 0, none⟩) (m + 1) cap4) := by rw [hw5]; exact hv4.set _
      have hown5 : w5.ownsRow (w.heap.size + 5) 5 1 (.slice (some ⟨g, 0, none⟩) (m + 1) cap4) (m + 1) (u8V q ++ [.int .u8 (c : Int)]) := by
        rw [hw5]; exact World.ownsRow.kept hown4 (grownBy_setCell' w4 w.heap.size _) (.inr (hv4.not_row (by decide) hown4).symm)
      have HN5 : Hid (∀ (j : Nat) (u : Value), (u8V p)[j]? = some u → w5.cell? ((⟨w.heap.size + 1, k, none⟩ : Addr).add j) = some u) := fun j u hj => by
        rw [show (⟨w.heap.size + 1, k, none⟩ : Addr).add j = ⟨w.heap.size + 1, k + j, none⟩ by simp [Addr.add]]
        exact (World.cell?_of_block (w := W) (a := ⟨w.heap.size + 1, k + j, none⟩) (hW5.bs.2 (w.heap.size + 1) (by omega) (by omega))).trans (HN.out j u hj)
      have HX5 : Hid (w5.cell? ⟨Bx, 0, none⟩ = some (.slice (some ⟨w.heap.size + 1, k, none⟩) (c + 1) (cap - k))) := cell_two0 (hW5.bx _ _ _ HX.out)
      have HW5 : Hid (Went w.heap.size (w.heap.size + 5) 50 W w5) := hW5
      have HV5 : Hid (Boxed w5 w.heap.size 22 (.slice (some ⟨g, 0, none⟩) (m + 1) cap4)) := hv5
      have HO5 : Hid (w5.ownsRow (w.heap.size + 5) 5 1 (.slice (some ⟨g, 0, none⟩) (m + 1) cap4) (m + 1) (u8V q ++ [.int .u8 (c : Int)])) := hown5
      clear hW5 hv5 hown5 HN hvA hW4 hown4 hg4 hv4 HR HV HX
      have hx5 := HX5.out
      have hv5c := HV5.out.cell
      have hv5f := HV5.out.frozen
      clear c0 c1 hvc hvf
      subst hw5
      gi_wp2_with (gi_at_builtin; refine wpListIn_append_own _ rfl _ _ 22 rfl (w.heap.size + 5) 5 i0 (.int .u8 0) 1 1 Try.underlying22 hi0 hz0 hz1 hz2 rfl (by decide) _ (m + 1) _ rfl HO5.out ⟨w.heap.size + 1, k, none⟩ (c + 1) (cap - k) (u8V p) rfl (by rw [u8V_len, HP.out, Nat.mul_one]) HN5.out (fun u hu => by obtain ⟨x, _, rfl⟩ := List.mem_map.1 hu; rfl) (by unfold maxLen; omega) (by omega) (Nat.le_trans hsz HW5.out.bs.1) ?_)
      intro v6 w6 hown6 hg6 _
      obtain ⟨g6, cap6, rfl⟩ := ownsRow_succ hown6
      have hW6 : Went w.heap.size (w.heap.size + 5) 50 W w6 := HW5.out.append HO5.out (by decide) hg6 (Nat.le_trans hsz HW5.out.bs.1) (by omega)
      have hv6 := HV5.out.kept hg6 (Boxed.not_row HV5.out (by decide) HO5.out)
      have hv6c := hv6.cell
      have hv6f := hv6.frozen
      have hown7 : OwnT w6 (w.heap.size + 5) (.slice (some ⟨g6, 0, none⟩) (m + 1 + (c + 1)) cap6) (m + 1 + (c + 1)) (q ++ [UInt8.ofNat c] ++ p) := by
        unfold OwnT
        rw [← u8V_append, ← u8V_append, ← HU.out, List.append_assoc]
        exact hown6
      clear hx5 hv5c hv5f hv4c hv4f
      gi_wp2
      exact pk_end HI.out (hW6.store hv6 (by decide) _) (hv6.set _) (World.ownsRow.kept (show World.ownsRow _ _ _ _ _ _ _ from hown7) (grownBy_setCell' w6 w.heap.size _) (.inr (hv6.not_row (by decide) (show World.ownsRow _ _ _ _ _ _ _ from hown7)).symm)) HQ.out _
  case done =>
    rintro D ys W hD hys ⟨⟨v, hv, hrow⟩, hL, hbel, hsz⟩ hK
    rw [hys] at hrow
    have hc := hv.cell
    have htx := hrow.text
    have hall : Pk.flat l (Rn.from_ 3 128 (Pk.ints l) 0) = Pk.all l := rfl
    rw [hall] at htx
    clear HS
    gi_wp2
    refine ⟨by simp, .inl ⟨_, _, rfl, run_takeDeferred hK, ?_⟩⟩
    exact ⟨_, results_tmp rfl _ _ _, rfl, hbel.trans (belowK_b (w := w) (Nat.le_refl _) W D _ _ (by have := HZ.out; omega) hK rfl rfl)⟩
  case stop =>
    rintro D c pre W _ _ h _
    exact h.elim
end Go.Proofs.Ytmcjdilmmabiaaa
