/- Marks laid into a picture's lists, from a number on, and found again. -/
import Derived.Test.YtgfknlnpnnjkoaaDoorDrawnWalks
import Derived.Test.YtgfknlnpnnjkoaaDoorMarkRow
namespace Go.Proofs.YtgfknlnpnnjkoaaDoor
open Go.RowKit

def mixS (s : Nat) (f : Nat → Int) (k i : Nat) : Int := if i < k then ((s + i : Nat) : Int) else f i
theorem mixS_lt (s : Nat) (f : Nat → Int) {k i : Nat} (h : i < k) : mixS s f k i = ((s + i : Nat) : Int) := if_pos h
theorem mixS_ge (s : Nat) (f : Nat → Int) {k i : Nat} (h : ¬ i < k) : mixS s f k i = f i := if_neg h

theorem Own.stepS {w : World} {b n k : Nat} {f g : Nat → Int} (v : Int) (h : Own w b n f) (hk : k < n) (hg : g k = v) (hf : ∀ i, i < n → i ≠ k → g i = f i) :
    Own (w.setCell ⟨b, k, none⟩ (.int .i64 v)) b n g := by
  refine ⟨by rw [World.size_setCell]; exact h.1, fun i hi => ⟨?_, ?_⟩⟩
  · by_cases e : i = k
    · subst e; rw [World.cell?_setCell_same _ _ _ (h.2 i hi).1, hg]
    · rw [World.cell?_setCell_other _ _ _ _ (fun q => e (congrArg Addr.off q).symm), (h.2 i hi).1, hf i hi e]
  · rw [World.frozen?_setCell]; exact (h.2 i hi).2

set_option maxHeartbeats 400000 in
theorem mark_ownS (s b n c : Nat) (f : Nat → Int) (w : World) (h : Own w b n f) (hn : n ≤ 2000000) (hs : s ≤ 3000000) :
    Calls Tryd.prog 40 #[.slice (some ⟨b, 0, none⟩) n c, .int .i64 (s : Int)] w fun e w' => e = .returned (.int .i64 ((s + n : Nat) : Int)) ∧ Own w' b n (fun i => ((s + i : Nat) : Int)) ∧ Turned b w w' := by
  have HO : Hid (Own w b n f) := h
  clear h
  go_enter Tryd.func40, Tryd.ntmps40
  go_wp2_with fail
  go_loopw [1, 5] (fun x i wr => ∃ k t : Nat, k ≤ n ∧ i = .int .i64 k ∧ t = s + k ∧ x = .int .i64 (t : Int) ∧ Own wr b n (mixS s f k) ∧ Turned b w wr) (fun _ i _ => n - (intOf i).toNat)
  case atStart => exact ⟨0, s, Nat.zero_le _, rfl, rfl, rfl, ⟨HO.out.1, fun i hi => by rw [mixS_ge s f (by omega)]; exact HO.out.2 i hi⟩, Turned.refl _ _⟩
  case round =>
    obtain ⟨k, t, hk, rfl, ht, rfl, hO, hT⟩ := hrel
    by_cases hlt : k < n
    · have hS := hO.stepS (k := k) (g := mixS s f (k + 1)) (t : Int) hlt (by rw [mixS_lt s f (by omega), ht]) (fun i _ hne => by
        by_cases e : i < k
        · rw [mixS_lt s f e, mixS_lt s f (by omega)]
        · rw [mixS_ge s f e, mixS_ge s f (by omega)])
      have hTS := hT.set k (.int .i64 (t : Int))
      obtain ⟨hcell, hfr⟩ := hO.2 k hlt
      have hki : (k : Int) < (n : Int) := by omega
      rw [mixS_ge s f (Nat.lt_irrefl k)] at hcell
      have H1 : Hid (Own _ b n _) := hS
      have H2 : Hid (Turned b w _) := hTS
      have H3 : Hid (t = s + k) := ht
      have htb : t ≤ 6000000 := by omega
      clear hO hT hS hTS HO ht
      generalize f k = fk at hcell
      go_wp2_with fail
      go_roundw
      case rel => exact ⟨k + 1, t + 1, by omega, by go_num, by have := H3.out; omega, by go_num, H1.out, H2.out⟩
      case measure => simp [intOf]; omega
    · have hk' : k = n := by omega
      subst hk'
      have H1 : Hid (Own _ b k (fun i => ((s + i : Nat) : Int))) := ⟨hO.1, fun i hi => by have := hO.2 i hi; rw [mixS_lt s f hi] at this; exact this⟩
      have H3 : Hid (t = s + k) := ht
      clear hO ht
      go_wp2_with fail
      go_ret
      exact ⟨ret_int (by have := H3.out; omega), H1.out, hT⟩

set_option maxHeartbeats 400000 in
theorem mark_nilS (s : Nat) (a : Option Addr) (c : Nat) (w : World) :
    Calls Tryd.prog 40 #[.slice a 0 c, .int .i64 (s : Int)] w fun e w' => e = .returned (.int .i64 (s : Int)) ∧ w' = w := by
  go_enter Tryd.func40, Tryd.ntmps40
  go_wp2_with fail
  go_loop [1, 5] (fun x i => i = .int .i64 0 ∧ x = .int .i64 (s : Int)) (fun _ _ => 0)
  case atStart => exact ⟨rfl, rfl⟩
  case round =>
    obtain ⟨rfl, rfl⟩ := hrel
    go_wp2_with fail
    go_ret
    exact ⟨rfl, rfl⟩

set_option maxHeartbeats 400000 in
theorem held_ownS (s b n c : Nat) (w : World) (h : Own w b n (fun i => ((s + i : Nat) : Int))) (hn : n ≤ 2000000) (hs : s ≤ 3000000) :
    Calls Tryd.prog 41 #[.slice (some ⟨b, 0, none⟩) n c, .int .i64 (s : Int)] w fun e w' => e = .returned (.int .i64 ((s + n : Nat) : Int)) ∧ w' = w := by
  have HO : Hid (Own w b n (fun i => ((s + i : Nat) : Int))) := h
  clear h
  go_enter Tryd.func41, Tryd.ntmps41
  go_wp2_with fail
  go_loop [1, 5] (fun x i => ∃ k t : Nat, k ≤ n ∧ i = .int .i64 k ∧ t = s + k ∧ x = .int .i64 (t : Int)) (fun _ i => n - (intOf i).toNat)
  case atStart => exact ⟨0, s, Nat.zero_le _, rfl, rfl, rfl⟩
  case round =>
    obtain ⟨k, t, hk, rfl, ht, rfl⟩ := hrel
    by_cases hlt : k < n
    · have hcell : w.cell? ⟨b, k, none⟩ = some (.int .i64 (t : Int)) := by rw [ht]; exact (HO.out.2 k hlt).1
      have hki : (k : Int) < (n : Int) := by omega
      have H3 : Hid (t = s + k) := ht
      have htb : t ≤ 6000000 := by omega
      clear ht
      go_wp2_with fail
      go_round
      case rel => exact ⟨k + 1, t + 1, by omega, by go_num, by have := H3.out; omega, by go_num⟩
      case measure => simp [intOf]; omega
    · have hk' : k = n := by omega
      subst hk'
      have H3 : Hid (t = s + k) := ht
      clear ht
      go_wp2_with fail
      go_ret
      exact ⟨ret_int (by have := H3.out; omega), rfl⟩

set_option maxHeartbeats 400000 in
theorem held_nilS (s : Nat) (a : Option Addr) (c : Nat) (w : World) :
    Calls Tryd.prog 41 #[.slice a 0 c, .int .i64 (s : Int)] w fun e w' => e = .returned (.int .i64 (s : Int)) ∧ w' = w := by
  go_enter Tryd.func41, Tryd.ntmps41
  go_wp2_with fail
  go_loop [1, 5] (fun x i => i = .int .i64 0 ∧ x = .int .i64 (s : Int)) (fun _ _ => 0)
  case atStart => exact ⟨rfl, rfl⟩
  case round =>
    obtain ⟨rfl, rfl⟩ := hrel
    go_wp2_with fail
    go_ret
    exact ⟨rfl, rfl⟩

/-- marks from s on -/
def marksS (s M : Nat) : List Int := (List.range M).map fun i : Nat => ((s + i : Nat) : Int)
theorem marksS_len (s M : Nat) : (marksS s M).length = M := by simp [marksS]
theorem marksS_get (s M i : Nat) (h : i < M) : (marksS s M)[i]'(by rw [marksS_len]; exact h) = ((s + i : Nat) : Int) := by simp [marksS]

/-- blocks outside of a stretch lie as they lay -/
structure Outside (lo hi : Nat) (w w' : World) : Prop where
  os : w'.os = w.os
  tape : w'.tape = w.tape
  output : w'.output = w.output
  size : w.heap.size ≤ w'.heap.size
  rest : ∀ k, k < w.heap.size → (k < lo ∨ hi ≤ k) → w'.heap[k]? = w.heap[k]?
theorem Outside.trans {lo hi : Nat} {a b c : World} (h : Outside lo hi a b) (g : Outside lo hi b c) : Outside lo hi a c :=
  ⟨g.os.trans h.os, g.tape.trans h.tape, g.output.trans h.output, Nat.le_trans h.size g.size, fun k hk ho => (g.rest k (Nat.lt_of_lt_of_le hk h.size) ho).trans (h.rest k hk ho)⟩
theorem Outside.of_below {lo hi : Nat} {a b : World} (h : Below a.heap.size a b) : Outside lo hi a b := ⟨h.os, h.tape, h.output, h.size, fun k hk _ => h.block k hk⟩
theorem Outside.of_turned {lo hi c : Nat} {a b : World} (h : Turned c a b) (h1 : lo ≤ c) (h2 : c < hi) : Outside lo hi a b := ⟨h.os, h.tape, h.output, Nat.le_of_eq h.size.symm, fun k _ ho => h.rest k (by omega)⟩
theorem Outside.below {lo hi n : Nat} {a b : World} (h : Outside lo hi a b) (hn : n ≤ lo) (hs : n ≤ a.heap.size) : Below n a b := ⟨h.os, h.tape, h.output, h.size, fun k hk => h.rest k (by omega) (.inl (by omega))⟩

theorem Outside.wide {lo hi lo' hi' : Nat} {a b : World} (h : Outside lo hi a b) (h1 : lo' ≤ lo) (h2 : hi ≤ hi') : Outside lo' hi' a b := ⟨h.os, h.tape, h.output, h.size, fun k hk ho => h.rest k hk (by omega)⟩

/-- a list of the call's own in blocks of a stretch -/
def OwnsIn (w : World) (lo hi : Nat) (a : Option Addr) (l : List Int) : Prop :=
  l = [] ∨ ∃ b, a = some ⟨b, 0, none⟩ ∧ lo ≤ b ∧ b < hi ∧ Own w b l.length (fun i => l.getD i 0)
theorem Owns.inn {w : World} {lo : Nat} {a : Option Addr} {l : List Int} (h : Owns w lo a l) : OwnsIn w lo w.heap.size a l := by
  rcases h with e | ⟨b, rfl, h1, h2, h3⟩
  · exact .inl e
  · exact .inr ⟨b, rfl, h1, h2, own_of rfl h2 h3⟩
theorem OwnsIn.ints {w : World} {lo hi : Nat} {a : Option Addr} {l : List Int} (h : OwnsIn w lo hi a l) : Ints w a l := by
  rcases h with e | ⟨b, rfl, h1, h2, h3⟩
  · exact .inl e
  · refine .inr ⟨b, 0, rfl, h3.1, fun i hi => ?_⟩
    have := (h3.2 i hi).1
    rw [Nat.zero_add]
    simpa [List.getElem?_eq_getElem hi] using this
theorem OwnsIn.out {w w' : World} {lo hi lo' hi' : Nat} {a : Option Addr} {l : List Int} (h : OwnsIn w lo hi a l) (g : Outside lo' hi' w w') (ho : hi ≤ lo' ∨ hi' ≤ lo) : OwnsIn w' lo hi a l := by
  rcases h with e | ⟨b, rfl, h1, h2, h3⟩
  · exact .inl e
  · have hb := g.rest b h3.1 (by omega)
    exact .inr ⟨b, rfl, h1, h2, Nat.lt_of_lt_of_le h3.1 g.size, fun i hi => ⟨(World.cell?_of_block (w := w) (a := ⟨b, i, none⟩) hb).trans (h3.2 i hi).1, (World.frozen?_of_block (w := w) (a := ⟨b, i, none⟩) hb).trans (h3.2 i hi).2⟩⟩
theorem OwnsIn.kept {w w' : World} {lo hi : Nat} {a : Option Addr} {l : List Int} (h : OwnsIn w lo hi a l) (g : Below w.heap.size w w') : OwnsIn w' lo hi a l := h.out (Outside.of_below (lo := 0) (hi := 0) g) (by omega)
theorem Ints.out {w0 w w' : World} {lo hi : Nat} {a : Option Addr} {l : List Int} (h0 : Ints w0 a l) (h : Ints w a l) (g : Outside lo hi w w') (hl : w0.heap.size ≤ lo) : Ints w' a l := by
  rcases h0 with e | ⟨b, off, rfl, hb, _⟩
  · exact .inl e
  · rcases h with e | ⟨c, off', e, hc, hcell⟩
    · exact .inl e
    · cases e
      exact .inr ⟨b, off, rfl, Nat.lt_of_lt_of_le hc g.size, fun i hi => (World.cell?_of_block (w := w) (a := ⟨b, off + i, none⟩) (g.rest b hc (by omega))).trans (hcell i hi)⟩

theorem mark_in (s n c lo hi : Nat) (a : Option Addr) (l : List Int) (w : World) (h : OwnsIn w lo hi a l) (hn : l.length = n) (hl : n ≤ 2000000) (hs : s ≤ 3000000) :
    Calls Tryd.prog 40 #[.slice a n c, .int .i64 (s : Int)] w fun e w' => e = .returned (.int .i64 ((s + n : Nat) : Int)) ∧ OwnsIn w' lo hi a (marksS s n) ∧ (∀ b, a = some ⟨b, 0, none⟩ → Outside b (b + 1) w w') ∧ (n = 0 → w' = w) ∧ Outside lo hi w w' := by
  rcases h with e | ⟨b, rfl, h1, h2, h3⟩
  · rw [e] at hn
    have h0 : n = 0 := by rw [← hn]; rfl
    subst h0
    refine (mark_nilS s a c w).mono ?_
    rintro e w' ⟨rfl, rfl⟩
    exact ⟨rfl, .inl rfl, fun _ _ => Outside.of_below (Below.refl _ _), fun _ => rfl, Outside.of_below (Below.refl _ _)⟩
  · rw [hn] at h3
    rcases Nat.eq_zero_or_pos n with h0 | hp
    · subst h0
      refine (mark_nilS s _ c w).mono ?_
      rintro e w' ⟨rfl, rfl⟩
      exact ⟨rfl, .inl rfl, fun _ _ => Outside.of_below (Below.refl _ _), fun _ => rfl, Outside.of_below (Below.refl _ _)⟩
    · refine (mark_ownS s b n c _ w h3 hl hs).mono ?_
      rintro e w' ⟨rfl, hO, hT⟩
      refine ⟨rfl, .inr ⟨b, rfl, h1, h2, ?_⟩, fun b' e => by cases e; exact Outside.of_turned hT (Nat.le_refl _) (by omega), fun h => by omega, Outside.of_turned hT h1 h2⟩
      rw [marksS_len]
      refine ⟨hO.1, fun i hi => ?_⟩
      have := hO.2 i hi
      show _ = some (Value.int .i64 ((marksS s n).getD i 0)) ∧ _
      rw [show (marksS s n).getD i 0 = ((s + i : Nat) : Int) by rw [List.getD_eq_getElem?_getD, List.getElem?_eq_getElem (by rw [marksS_len]; exact hi), marksS_get s n i hi]; rfl]
      exact this

theorem held_in (s n c lo hi : Nat) (a : Option Addr) (w : World) (h : OwnsIn w lo hi a (marksS s n)) (hl : n ≤ 2000000) (hs : s ≤ 3000000) :
    Calls Tryd.prog 41 #[.slice a n c, .int .i64 (s : Int)] w fun e w' => e = .returned (.int .i64 ((s + n : Nat) : Int)) ∧ w' = w := by
  rcases h with e | ⟨b, rfl, h1, h2, h3⟩
  · have h0 : n = 0 := by rw [← marksS_len s n, e]; rfl
    subst h0
    exact held_nilS s a c w
  · rw [marksS_len] at h3
    refine held_ownS s b n c w ⟨h3.1, fun i hi => ?_⟩ hl hs
    have this : w.cell? ⟨b, i, none⟩ = some (.int .i64 ((marksS s n).getD i 0)) ∧ w.frozen? ⟨b, i, none⟩ = false := h3.2 i hi
    rw [show (marksS s n).getD i 0 = ((s + i : Nat) : Int) by rw [List.getD_eq_getElem?_getD, List.getElem?_eq_getElem (by rw [marksS_len]; exact hi), marksS_get s n i hi]; rfl] at this
    exact this

set_option maxHeartbeats 1000000 in
theorem mark_image (k d wd hi : Int) (x y : Option Addr) (cn cx pn cy lo mid hi' : Nat) (cs ps : List Int) (w : World) (hx : OwnsIn w lo mid x cs) (hy : OwnsIn w mid hi' y ps) (hcn : cs.length = cn) (hpn : ps.length = pn) (hcl : cn ≤ 1048576) (hpl : pn ≤ 1048576) (hlm : lo ≤ mid) (hmh : mid ≤ hi') (hh : hi' ≤ w.heap.size) :
    Calls Tryd.prog 13 #[.agg #[.int .i64 k, .int .i64 d, .int .i64 wd, .int .i64 hi, .slice x cn cx, .slice y pn cy], .int .i64 1] w fun e w' => e = .returned (.int .i64 ((1 + cn + pn : Nat) : Int)) ∧ OwnsIn w' lo mid x (marksS 1 cn) ∧ OwnsIn w' mid hi' y (marksS (1 + cn) pn) ∧ Outside lo hi' w w' := by
  obtain ⟨W0, hW0⟩ : ∃ W0, W0 = w.alloc (.cells #[.int .i64 k, .int .i64 d, .int .i64 wd, .int .i64 hi, .slice x cn cx, .slice y pn cy] 27) := ⟨_, rfl⟩
  have b0 : Below w.heap.size w W0 := by rw [hW0]; exact (Below.refl _ _).alloc (Nat.le_refl _) _
  have HX : Hid (OwnsIn W0 lo mid x cs) := hx.kept b0
  have HY : Hid (OwnsIn W0 mid hi' y ps) := hy.kept b0
  have k0 := box_new w (.int .i64 k) (.int .i64 d) (.int .i64 wd) (.int .i64 hi) (.slice x cn cx) (.slice y pn cy) 27
  have HM1 : Hid (Calls Tryd.prog 40 #[.slice x cn cx, .int .i64 1] (w.alloc (.cells #[.int .i64 k, .int .i64 d, .int .i64 wd, .int .i64 hi, .slice x cn cx, .slice y pn cy] 27)) fun e w' => e = .returned (.int .i64 ((1 + cn : Nat) : Int)) ∧ OwnsIn w' lo mid x (marksS 1 cn) ∧ (∀ b, x = some ⟨b, 0, none⟩ → Outside b (b + 1) W0 w') ∧ (cn = 0 → w' = W0) ∧ Outside lo mid W0 w') := by
    have := mark_in 1 cn cx lo mid x cs W0 HX.out hcn (by omega) (by omega)
    rw [hW0] at this ⊢; exact this
  have hmw : mid ≤ hi' := hmh
  go_enter Tryd.func13, Tryd.ntmps13
  go_wp2_with fail
  refine HM1.out.mono ?_
  rintro e w1 ⟨rfl, hx1, _, _, o1⟩
  have hb1 : w1.heap[w.heap.size]? = W0.heap[w.heap.size]? := o1.rest _ (by rw [hW0]; simp) (.inr (by omega))
  have hk5 : w1.cell? ⟨w.heap.size, 5, none⟩ = some (.slice y pn cy) := (World.cell?_of_block (w := W0) (a := ⟨w.heap.size, 5, none⟩) hb1).trans (by rw [hW0]; exact k0.2.2.2.2.2)
  have HM2 : Hid (Calls Tryd.prog 40 #[.slice y pn cy, .int .i64 ((1 + cn : Nat) : Int)] w1 fun e w' => e = .returned (.int .i64 ((1 + cn + pn : Nat) : Int)) ∧ OwnsIn w' mid hi' y (marksS (1 + cn) pn) ∧ (∀ b, y = some ⟨b, 0, none⟩ → Outside b (b + 1) w1 w') ∧ (pn = 0 → w' = w1) ∧ Outside mid hi' w1 w') :=
    mark_in (1 + cn) pn cy mid hi' y ps w1 (HY.out.out o1 (.inr (Nat.le_refl _))) hpn (by omega) (by omega)
  have H1 : Hid (OwnsIn w1 lo mid x (marksS 1 cn)) := hx1
  have HO1 : Hid (Outside lo hi' w w1) := (Outside.of_below b0).trans (o1.wide (Nat.le_refl _) hmh)
  obtain ⟨t, ht⟩ : ∃ t : Nat, t = 1 + cn := ⟨_, rfl⟩
  have HM3 : Hid (Calls Tryd.prog 40 #[.slice y pn cy, .int .i64 (t : Int)] w1 fun e w' => e = .returned (.int .i64 ((1 + cn + pn : Nat) : Int)) ∧ OwnsIn w' mid hi' y (marksS (1 + cn) pn) ∧ (∀ b, y = some ⟨b, 0, none⟩ → Outside b (b + 1) w1 w') ∧ (pn = 0 → w' = w1) ∧ Outside mid hi' w1 w') := by rw [ht]; exact HM2.out
  have htc : ((1 + cn : Nat) : Int) = (t : Int) := by rw [ht]
  rw [htc]
  have HT : Hid (t = 1 + cn) := ht
  clear HM2 HM1 HX HY k0 hW0 b0 hx1 o1 hb1 ht htc
  go_wp2_with fail
  refine HM3.out.mono ?_
  rintro e w2 ⟨rfl, hy2, _, _, o2⟩
  have H2 : Hid (OwnsIn w2 lo mid x (marksS 1 cn) ∧ OwnsIn w2 mid hi' y (marksS (1 + cn) pn) ∧ Outside lo hi' w w2) := ⟨H1.out.out o2 (.inl (Nat.le_refl _)), hy2, HO1.out.trans (o2.wide hlm (Nat.le_refl _))⟩
  obtain ⟨u, hu⟩ : ∃ u : Nat, u = 1 + cn + pn := ⟨_, rfl⟩
  rw [← hu]
  have HU : Hid (u = 1 + cn + pn) := hu
  clear hu hy2 o2 hk5
  go_wp2_with fail
  go_ret
  exact ⟨ret_int (by rw [HU.out]), H2.out⟩

set_option maxHeartbeats 1000000 in
theorem held_image (k d wd hi : Int) (x y : Option Addr) (cn cx pn cy lo mid hi' : Nat) (w : World) (hx : OwnsIn w lo mid x (marksS 1 cn)) (hy : OwnsIn w mid hi' y (marksS (1 + cn) pn)) (hcl : cn ≤ 1048576) (hpl : pn ≤ 1048576) :
    Calls Tryd.prog 14 #[.agg #[.int .i64 k, .int .i64 d, .int .i64 wd, .int .i64 hi, .slice x cn cx, .slice y pn cy], .int .i64 1] w fun e w' => e = .returned (.int .i64 ((1 + cn + pn : Nat) : Int)) ∧ Below w.heap.size w w' := by
  have b0 : Below w.heap.size w (w.alloc (.cells #[.int .i64 k, .int .i64 d, .int .i64 wd, .int .i64 hi, .slice x cn cx, .slice y pn cy] 27)) := (Below.refl _ _).alloc (Nat.le_refl _) _
  obtain ⟨t, ht⟩ : ∃ t : Nat, t = 1 + cn := ⟨_, rfl⟩
  obtain ⟨u, hu⟩ : ∃ u : Nat, u = 1 + cn + pn := ⟨_, rfl⟩
  have H1 : Hid (∀ w1 : World, OwnsIn w1 lo mid x (marksS 1 cn) → Calls Tryd.prog 41 #[.slice x cn cx, .int .i64 1] w1 fun e w' => e = .returned (.int .i64 (t : Int)) ∧ w' = w1) := fun w1 h => by rw [ht]; exact held_in 1 cn cx lo mid x w1 h (by omega) (by omega)
  have H2 : Hid (∀ w1 : World, OwnsIn w1 mid hi' y (marksS (1 + cn) pn) → Calls Tryd.prog 41 #[.slice y pn cy, .int .i64 (t : Int)] w1 fun e w' => e = .returned (.int .i64 (u : Int)) ∧ w' = w1) := fun w1 h => by rw [ht, hu]; exact held_in (1 + cn) pn cy mid hi' y w1 h (by omega) (by omega)
  have HX : Hid (OwnsIn _ lo mid x (marksS 1 cn)) := hx.kept b0
  have HY : Hid (OwnsIn _ mid hi' y (marksS (1 + cn) pn)) := hy.kept b0
  have HU : Hid (u = 1 + cn + pn) := hu
  have d1 : decide ((t : Int) < 0) = false := by simp
  have d2 : decide ((u : Int) < 0) = false := by simp
  clear ht hu hx hy
  go_enter Tryd.func14, Tryd.ntmps14
  go_wp2_with fail
  refine (H1.out _ HX.out).mono ?_
  rintro e w1 ⟨rfl, hw1⟩
  subst hw1
  go_wp2_with fail
  refine (H2.out _ HY.out).mono ?_
  rintro e w1 ⟨rfl, hw1⟩
  subst hw1
  go_wp2_with fail
  go_ret
  exact ⟨ret_int (by rw [HU.out]), b0⟩
end Go.Proofs.YtgfknlnpnnjkoaaDoor
