/- A block with codes of its own, in the specification. -/
import Derived.Test.YthfdnloeicbgkaaVFInflateNsLens
import Derived.Test.YthfdnloeicbgkaaVFInflateNfOwn
import Derived.Test.YthfdnloeicbgkaaKFInflatex0
namespace Go.Proofs.Ythfdnloeicbgkaa
open Go.RowKit

set_option maxHeartbeats 1000000 in
theorem l4Order_cells (w : World) : Calls Try.prog 79 #[] w fun e w' => e = .returned (.slice (some ⟨w.heap.size, 0, none⟩) 19 19) ∧ w' = w.alloc (.cells lordV 3) := by
  go_enter Try.func79, Try.ntmps79
  go_wp2_with fail
  go_ret
  exact ⟨rfl, rfl⟩
theorem lordV_at (k : Nat) (hk : k < 19) : lordV[k]? = some (.int .i64 ((Df.lord.getD k 0 : Nat) : Int)) := by
  unfold lordV
  rw [List.getElem?_toArray, List.getElem?_map, List.getD_eq_getElem?_getD, List.getElem?_eq_getElem (show k < Df.lord.length by exact hk)]
  rfl
/-- bits, whatever was noted -/
def SBitsW (w : World) (R base : Nat) (s : ByteArray) (p n : Nat) (l : List UInt8) (lim : Nat) (vk : Value) (d : Nat) (e : Ending) (w' : World) : Prop :=
  ∃ v d2 q2 : Nat, e = .returned (.int .i64 (v : Int)) ∧ v < 2 ^ n ∧ Sx w' R base s q2 l lim d2 vk ∧ InF R base w w' ∧ ((d2 = 0 ∧ d = 0 ∧ Nf.nxt s n p = .ok v ∧ q2 = p + n ∧ q2 ≤ 8 * s.size) ∨ (d2 ≠ 0 ∧ ((d = 0 ∧ Nf.nxt s n p = .error d2) ∨ (d ≠ 0 ∧ d2 = d))))
theorem sxBits_w (R base p n lim d : Nat) (l : List UInt8) (vk : Value) (s : ByteArray) (w : World) (h : Sx w R base s p l lim d vk) (hs : s.size ≤ 9000) (hp : d = 0 → p ≤ 8 * s.size) (hn : n ≤ 24) :
    Calls Try.prog 64 #[.pointer (some ⟨R, 0, none⟩), .int .i64 (n : Int)] w (SBitsW w R base s p n l lim vk d) := by
  by_cases hd : d = 0
  · subst hd
    refine (sxBits_u R base p n lim l vk s w h hs (hp rfl) hn).mono ?_
    rintro e w' ⟨v, d2, q2, h1, h2, h3, h4, h5⟩
    refine ⟨v, d2, q2, h1, h2, h3, InF.of_only h4, ?_⟩
    rcases h5 with ⟨e1, e2, e3, e4⟩ | ⟨e1, e2⟩
    · exact .inl ⟨e1, rfl, e2, e3, e4⟩
    · exact .inr ⟨e1, .inl ⟨rfl, e2⟩⟩
  · refine (sxBits_old R base p lim d (n : Int) l vk s w h hd).mono ?_
    rintro e w' ⟨h1, m, rfl⟩
    exact ⟨0, d, p, h1, Nat.pow_pos (by omega), h.drewN m, (InF.refl _ _ _).drewN m, .inr ⟨hd, .inr ⟨hd, rfl⟩⟩⟩
theorem DRow.lst {w : World} {R g : Nat} {l : List Int} (h : DRow w g l) (hg : g ≠ R) : Lst w R (some ⟨g, 0, none⟩) l :=
  .inr ⟨g, 0, _, _, rfl, hg, h, fun i hi => by rw [Nat.zero_add]; simp [hi]⟩
theorem DRow.inF {w w' : World} {R base g : Nat} {l : List Int} (h : DRow w g l) (f : InF R base w w') (hg : g ≠ R) : DRow w' g l := f.block h hg (by decide)
theorem Sx.setRow {w : World} {R base p lim g j c : Nat} {s : ByteArray} {l : List UInt8} {vk v : Value} {row : List Int} (h : Sx w R base s p l lim c vk) (hr : DRow w g row) : Sx (w.setCell ⟨g, j, none⟩ v) R base s p l lim c vk := by
  obtain ⟨vo, h1, h2⟩ := h
  have hgR : R ≠ g := fun e => by
    subst e
    have e2 := (show w.heap[R]? = _ from hr).symm.trans h1
    injection e2 with e3
    injection e3 with _ e4
    exact absurd e4 (by decide)
  refine ⟨vo, (Below.heap_setCell w ⟨g, j, none⟩ _ R hgR).trans h1, h2.besides (fun k hk => Below.heap_setCell w ⟨g, j, none⟩ _ k (fun e => h2.away (show w.heap[g]? = _ from hr) (by decide) (by rw [hk, e])))⟩
/-- the parts of a row of lengths -/
theorem lst_parts {w : World} {lb N cap Y R : Nat} {ao : Option Addr} {L : List Int} (h : OwnI w lb (.slice ao N cap) N L) (hl : L.length = N) (hY2 : Y < N) (h256 : 256 < N) (hR : R < lb) :
    ∃ g, ao = some ⟨g, 0, none⟩ ∧ Lst w R (some ⟨g, 0, none⟩) (L.take Y) ∧ Lst w R (some ⟨g, Y, none⟩) (L.drop Y) ∧ N ≤ cap ∧ w.cell? ⟨g, 256, none⟩ = some (.int .i64 (L.getD 256 0)) := by
  rcases h.2 with ⟨e, h0⟩ | ⟨g, cap', cur, e, hB, hg, hnc, _⟩
  · omega
  · cases e
    have hc : ∀ j (hj : j < L.length), w.cell? ⟨g, j, none⟩ = some (.int .i64 L[j]) := fun j hj => by
      have := World.ownsRow.cellAt (show World.ownsRow _ _ _ _ _ _ _ from h) j (by omega)
      rw [this, intsV_get L j hj]
    have hcur : ∀ j (hj : j < L.length), cur[j]? = some (.int .i64 L[j]) := fun j hj => by
      have := hc j hj
      simp only [World.cell?, hg] at this
      exact this
    refine ⟨g, rfl, .inr ⟨g, 0, cur, _, rfl, by omega, hg, fun j hj => ?_⟩, .inr ⟨g, Y, cur, _, rfl, by omega, hg, fun j hj => ?_⟩, hnc, ?_⟩
    · rw [List.length_take] at hj
      rw [Nat.zero_add, hcur j (by omega), List.getElem_take]
    · rw [List.length_drop] at hj
      rw [hcur (Y + j) (by omega), List.getElem_drop]
    · rw [hc 256 (by omega), List.getD_eq_getElem?_getD, List.getElem?_eq_getElem (by omega)]
      rfl
/-- the loop over the lengths of lengths -/
def LoInv (wr w : World) (R base g : Nat) (s : ByteArray) (p : Nat) (l : List UInt8) (lim : Nat) (vk : Value) (a b c k q d : Nat) (row : List Int) (ANS : Except Nat (List UInt8 × Nat)) : Prop :=
  Sx wr R base s q l lim d vk ∧ InF R base w wr ∧ DRow wr g row ∧ ((d = 0 ∧ Head3 s p a b c ∧ q ≤ 8 * s.size ∧ row.length = 19 ∧ Cd.valid row = true ∧ Nf.lol s (c + 4) 0 (p + 14) (List.replicate 19 0) = Nf.lol s (c + 4 - k) k q row) ∨ (d ≠ 0 ∧ ANS = .error d))
/-- the loop of lengths of lengths: a measure -/
def kLen (R n : Nat) (i : Value) (w : World) : Nat :=
  match w.cell? ⟨R, 4, none⟩, i with
  | some (.int _ c), .int _ k => if c = 0 then n + 1 - k.toNat else 0
  | _, _ => 0
theorem kLen_go {w : World} {R base p lim n k : Nat} {s : ByteArray} {l : List UInt8} {vk : Value} (h : Sx w R base s p l lim 0 vk) : kLen R n (.int .i64 (k : Int)) w = n + 1 - k := by
  unfold kLen
  rw [h.cells.2.2.2.1]
  simp
theorem kLen_le {w : World} {R base p lim n k c : Nat} {s : ByteArray} {l : List UInt8} {vk : Value} (h : Sx w R base s p l lim c vk) : kLen R n (.int .i64 (k : Int)) w ≤ n + 1 - k := by
  unfold kLen
  rw [h.cells.2.2.2.1]
  simp only [Int.toNat_natCast]
  split <;> omega

set_option linter.unusedSimpArgs false in
set_option maxHeartbeats 8000000 in
set_option maxRecDepth 100000 in
theorem sxOwn_any (R base p lim : Nat) (l : List UInt8) (vk : Value) (s : ByteArray) (w : World) (h : Sx w R base s p l lim 0 vk) (hb : base ≤ w.heap.size) (hs : s.size ≤ 9000) (hp : p ≤ 8 * s.size) (hl : l.length ≤ lim) (hlim : lim ≤ 5000) :
    Calls Try.prog 67 #[.pointer (some ⟨R, 0, none⟩)] w (SEnd (Nf.own s lim p l) w R base s lim vk) := by
  obtain ⟨ANS, hANS⟩ : ∃ r, r = Nf.own s lim p l := ⟨_, rfl⟩
  have HANS : Hid (ANS = Nf.own s lim p l) := hANS
  have HB : Hid (base ≤ w.heap.size) := hb
  have HN1 : Hid (Calls Try.prog 64 #[.pointer (some ⟨R, 0, none⟩), .int .i64 5] w (SBitsW w R base s p 5 l lim vk 0)) := sxBits_w R base p 5 lim 0 l vk s w h hs (fun _ => hp) (by omega)
  rw [← hANS]
  clear h hb hANS hp
  go_enter Try.func67, Try.ntmps67
  go_wp2_with fail
  refine HN1.out.mono ?_
  rintro e w1 ⟨a, d1, q1, rfl, ha, h1, f1, r1⟩
  have hab : a < 32 := ha
  have HN2 : Hid (Calls Try.prog 64 #[.pointer (some ⟨R, 0, none⟩), .int .i64 5] w1 (SBitsW w1 R base s q1 5 l lim vk d1)) := sxBits_w R base q1 5 lim d1 l vk s w1 h1 hs (fun e => by
    rcases r1 with ⟨_, _, _, _, g⟩ | ⟨g, _⟩
    · exact g
    · exact absurd e g) (by omega)
  have H1 : Hid (InF R base w w1 ∧ ((d1 = 0 ∧ Nf.nxt s 5 p = .ok a ∧ q1 = p + 5) ∨ (d1 ≠ 0 ∧ ANS = .error d1))) := by
    refine ⟨f1, ?_⟩
    rcases r1 with ⟨e1, _, e3, e4, _⟩ | ⟨e1, e2⟩
    · exact .inl ⟨e1, e3, e4⟩
    · rcases e2 with ⟨_, e2⟩ | ⟨e2, _⟩
      · exact .inr ⟨e1, HANS.out.trans (own_a e2)⟩
      · exact absurd rfl e2
  obtain ⟨Y, hY⟩ : ∃ Y : Nat, Y = a + 257 := ⟨_, rfl⟩
  have hYi : (a : Int) + 257 = (Y : Int) := by omega
  have hYw : IntKind.i64.wrap ((a : Int) + 257) = (Y : Int) := by rw [hYi]; exact wrap_i64_nat Y (by omega)
  have hYb : Y ≤ 288 := by omega
  have hY2 : 257 ≤ Y := by omega
  have HYY : Hid (Y = a + 257) := hY
  clear ha h1 f1 r1 HN1 hY
  go_wp2_with fail
  refine HN2.out.mono ?_
  rintro e w2 ⟨b, d2, q2, rfl, hbv, h2, f2, r2⟩
  have hbb : b < 32 := hbv
  have HN3 : Hid (Calls Try.prog 64 #[.pointer (some ⟨R, 0, none⟩), .int .i64 4] w2 (SBitsW w2 R base s q2 4 l lim vk d2)) := sxBits_w R base q2 4 lim d2 l vk s w2 h2 hs (fun e => by
    rcases r2 with ⟨_, _, _, _, g⟩ | ⟨g, _⟩
    · exact g
    · exact absurd e g) (by omega)
  have H2 : Hid (InF R base w w2 ∧ ((d2 = 0 ∧ Nf.nxt s 5 p = .ok a ∧ Nf.nxt s 5 (p + 5) = .ok b ∧ q2 = p + 10) ∨ (d2 ≠ 0 ∧ ANS = .error d2))) := by
    refine ⟨H1.out.1.trans f2, ?_⟩
    rcases H1.out.2 with ⟨g1, g2, g3⟩ | ⟨g1, g2⟩
    · subst g3
      rcases r2 with ⟨e1, _, e3, e4, _⟩ | ⟨e1, e2⟩
      · exact .inl ⟨e1, g2, e3, by omega⟩
      · rcases e2 with ⟨_, e2⟩ | ⟨e2, _⟩
        · exact .inr ⟨e1, HANS.out.trans (own_b g2 e2)⟩
        · exact absurd g1 e2
    · rcases r2 with ⟨_, e2, _⟩ | ⟨e1, e2⟩
      · exact absurd e2 g1
      · rcases e2 with ⟨e2, _⟩ | ⟨_, e3⟩
        · exact absurd e2 g1
        · exact .inr ⟨e1, by rw [e3]; exact g2⟩
  obtain ⟨Z, hZ⟩ : ∃ Z : Nat, Z = b + 1 := ⟨_, rfl⟩
  have hZi : (b : Int) + 1 = (Z : Int) := by omega
  have hZw : IntKind.i64.wrap ((b : Int) + 1) = (Z : Int) := by rw [hZi]; exact wrap_i64_nat Z (by omega)
  have hZb : Z ≤ 32 := by omega
  have hZ1 : 1 ≤ Z := by omega
  have HZZ : Hid (Z = b + 1) := hZ
  clear hbv h2 f2 r2 HN2 hZ H1
  go_wp2_with fail
  refine HN3.out.mono ?_
  rintro e w3 ⟨c, d3, q3, rfl, hcv, h3, f3, r3⟩
  have hcb : c < 16 := hcv
  obtain ⟨n, hn⟩ : ∃ n : Nat, n = c + 4 := ⟨_, rfl⟩
  have hni : (c : Int) + 4 = (n : Int) := by omega
  have hnw : IntKind.i64.wrap ((c : Int) + 4) = (n : Int) := by rw [hni]; exact wrap_i64_nat n (by omega)
  have hnb : n ≤ 19 := by omega
  have hn0 : (0 : Int) < (n : Int) := by omega
  have hmk : (Instr.makeSlice 44 (.int .i64 19) (.int .i64 19)).run Try.prog w3 = .ok (.slice (some ⟨w3.heap.size, 0, none⟩) 19 19) (w3.alloc (.cells ((List.replicate 19 (0 : Int)).map (Value.int .i64)).toArray 3)) := make_rowN 19 (by omega) w3
  obtain ⟨W0, hW0⟩ : ∃ W0, W0 = w3.alloc (.cells ((List.replicate 19 (0 : Int)).map (Value.int .i64)).toArray 3) := ⟨_, rfl⟩
  obtain ⟨g, hgg⟩ : ∃ g, g = w3.heap.size := ⟨_, rfl⟩
  rw [← hW0, ← hgg] at hmk
  have b0 : Below w3.heap.size w3 W0 := by rw [hW0]; exact (Below.refl _ _).alloc (Nat.le_refl _) _
  have HNC : Hid (n = c + 4 ∧ g ≠ R ∧ w.heap.size ≤ g) := ⟨hn, by have := h3.lt; omega, by rw [hgg]; exact (H2.out.1.trans f3).size⟩
  have HX0 : Hid (LoInv W0 w R base g s p l lim vk a b c 0 q3 d3 (List.replicate 19 0) ANS) := by
    refine ⟨h3.kept b0, (H2.out.1.trans f3).trans (InF.of_below b0), by rw [hW0, hgg]; exact heap_alloc_new _ _, ?_⟩
    rcases H2.out.2 with ⟨g1, g2, g3, g4⟩ | ⟨g1, g2⟩
    · subst g4
      rcases r3 with ⟨e1, _, e3, e4, e5⟩ | ⟨e1, e2⟩
      · refine .inl ⟨e1, ⟨g2, g3, e3⟩, e5, by simp, by decide, ?_⟩
        rw [e4]; rfl
      · rcases e2 with ⟨_, e2⟩ | ⟨e2, _⟩
        · exact .inr ⟨e1, HANS.out.trans (own_c g2 g3 e2)⟩
        · exact absurd g1 e2
    · rcases r3 with ⟨_, e2, _⟩ | ⟨e1, e2⟩
      · exact absurd e2 g1
      · rcases e2 with ⟨e2, _⟩ | ⟨_, e3⟩
        · exact absurd e2 g1
        · exact .inr ⟨e1, by rw [e3]; exact g2⟩
  clear hcv h3 f3 r3 HN3 H2 b0 hn hW0 hgg
  go_wp2_with fail
  clear hmk
  go_loopw [6] (fun i wr => ∃ (k q d : Nat) (row : List Int), k ≤ n ∧ i = .int .i64 (k : Int) ∧ Hid (LoInv wr w R base g s p l lim vk a b c k q d row ANS)) (fun i wr => kLen R n i wr)
  case atStart => exact ⟨0, q3, d3, _, Nat.zero_le _, rfl, HX0⟩
  case round =>
    obtain ⟨k, q, d, row, hk, rfl, HX⟩ := hrel
    clear HX0
    have c4 := HX.out.1.cells.2.2.2.1
    by_cases hd : d = 0
    · subst hd
      replace c4 : wr.cell? ⟨R, 4, none⟩ = some (.int .i64 0) := c4
      have HP : Hid (Head3 s p a b c ∧ q ≤ 8 * s.size ∧ row.length = 19 ∧ Cd.valid row = true ∧ Nf.lol s (c + 4) 0 (p + 14) (List.replicate 19 0) = Nf.lol s (c + 4 - k) k q row) := by
        rcases HX.out.2.2.2 with ⟨_, e⟩ | ⟨e, _⟩
        · exact e
        · exact absurd rfl e
      by_cases hlt : k < n
      · have hlti : (k : Int) < (n : Int) := by omega
        have HML : Hid (kLen R n (.int .i64 (k : Int)) wr = n + 1 - k) := kLen_go HX.out.1
        obtain ⟨y, hy⟩ : ∃ y, y = Df.lord.getD k 0 := ⟨_, rfl⟩
        have hk19 : k < 19 := by omega
        have hk19i : (k : Int) < 19 := by omega
        have hy19 : y < 19 := by rw [hy]; exact lordN_lt k hk19
        have hy19i : (y : Int) < 19 := by omega
        have hyl : y < row.length := by rw [HP.out.2.2.1]; exact hy19
        have HYO : Hid (y = Df.lord.getD k 0) := hy
        have hOk : lordV[k]? = some (.int .i64 (y : Int)) := by rw [hy]; exact lordV_at k hk19
        obtain ⟨O, hO⟩ : ∃ O, O = wr.heap.size := ⟨_, rfl⟩
        have hOR : O ≠ R := by have := HX.out.1.lt; omega
        have HOR : Hid (Calls Try.prog 79 #[] wr.drew fun e w' => e = .returned (.slice (some ⟨O, 0, none⟩) 19 19) ∧ w' = wr.drew.alloc (.cells lordV 3)) := by rw [hO]; exact l4Order_cells wr.drew
        obtain ⟨w4, hw4⟩ : ∃ w4, w4 = wr.drew.alloc (.cells lordV 3) := ⟨_, rfl⟩
        have b4 : Below wr.drew.heap.size wr.drew w4 := by rw [hw4]; exact (Below.refl _ _).alloc (Nat.le_refl _) _
        have hO4 : w4.heap[O]? = some (.cells lordV 3 (0, 0)) := by rw [hw4, hO]; exact heap_alloc_new _ _
        have cO : w4.cell? ⟨O, k, none⟩ = some (.int .i64 (y : Int)) := by simp only [World.cell?, hO4]; exact hOk
        have HW4 : Hid (Sx w4 R base s q l lim 0 vk ∧ InF R base w w4 ∧ DRow w4 g row) := ⟨HX.out.1.drew.kept b4, (HX.out.2.1.drewN 1).trans (InF.of_below b4), HX.out.2.2.1.kept (b4.block g HX.out.2.2.1.lt)⟩
        have HBT : Hid (Calls Try.prog 64 #[.pointer (some ⟨R, 0, none⟩), .int .i64 3] w4 (SBitsW w4 R base s q 3 l lim vk 0)) := sxBits_w R base q 3 lim 0 l vk s w4 HW4.out.1 hs (fun _ => HP.out.2.1) (by omega)
        rw [← hw4] at HOR
        clear hy hO hw4 b4 HX
        go_upto_region 7 with fail
        refine wp_region_held_drew (S := fun _ => True) (by kernel_rfl) trivial (fun hHeld => ?_)
        refine wpAnyH_take (i := 0) (v := .slice (some ⟨g, 0, none⟩) 19 19) rfl (by kernel_rfl) (by kernel_rfl) (by kernel_rfl) (fun _ _ _ h => h) (Or.inl ⟨by rfl, ?_⟩) hHeld ?_
        · intro w' hSw
          go_simp
        try simp only [List.getElem_toArray, List.getElem_cons_succ, List.getElem_cons_zero, Act.put, List.setIfInBounds_toArray, List.set_cons_zero, List.set_cons_succ]
        refine wpAnyH_take (i := 2) (v := .int .i64 (k : Int)) rfl (by kernel_rfl) (by kernel_rfl) (by kernel_rfl) (fun _ _ _ h => h) (Or.inl ⟨by rfl, ?_⟩) hHeld ?_
        · intro w' hSw
          go_simp
        try simp only [List.getElem_toArray, List.getElem_cons_succ, List.getElem_cons_zero, Act.put, List.setIfInBounds_toArray, List.set_cons_zero, List.set_cons_succ]
        refine wpAnyH_take (i := 5) (v := .pointer (some ⟨R, 0, none⟩)) rfl (by kernel_rfl) (by kernel_rfl) (by kernel_rfl) (fun _ _ _ h => h) (Or.inl ⟨by rfl, ?_⟩) hHeld ?_
        · intro w' hSw
          go_simp
        try simp only [List.getElem_toArray, List.getElem_cons_succ, List.getElem_cons_zero, Act.put, List.setIfInBounds_toArray, List.set_cons_zero, List.set_cons_succ]
        refine wpAnyH_ready (rs := [1]) (by kernel_rfl) (by simp) ?_
        refine AllReadyH.cons rfl (fun K hK => ?_) AllReadyH.nil
        go_simp
        refine HOR.out.mono ?_
        rintro e w6 ⟨rfl, hw6⟩
        subst hw6
        clear HOR
        refine hK.out _ _ trivial (fun hHeld => ?_)
        clear hK K
        try simp only [List.getElem_toArray, List.getElem_cons_succ, List.getElem_cons_zero, Act.put, List.setIfInBounds_toArray, List.set_cons_zero, List.set_cons_succ]
        refine wpAnyH_take (i := 3) (v := .pointer (some ⟨O, k, none⟩)) rfl (by kernel_rfl) (by kernel_rfl) (by kernel_rfl) (fun _ _ _ h => h) (Or.inl ⟨by rfl, ?_⟩) hHeld ?_
        · intro w' hSw
          go_simp
        try simp only [List.getElem_toArray, List.getElem_cons_succ, List.getElem_cons_zero, Act.put, List.setIfInBounds_toArray, List.set_cons_zero, List.set_cons_succ]
        refine wpAnyH_ready (rs := [4, 6]) (by kernel_rfl) (by simp) ?_
        refine AllReadyH.cons rfl (fun K hK => ?_) (AllReadyH.cons rfl (fun K hK => ?_) AllReadyH.nil)
        · go_simp
          refine hK.out _ _ trivial (fun hHeld => ?_)
          clear hK K
          try simp only [List.getElem_toArray, List.getElem_cons_succ, List.getElem_cons_zero, Act.put, List.setIfInBounds_toArray, List.set_cons_zero, List.set_cons_succ]
          refine wpAnyH_ready (rs := [6]) (by kernel_rfl) (by simp) ?_
          refine AllReadyH.cons rfl (fun K hK => ?_) AllReadyH.nil
          go_simp
          refine HBT.out.mono ?_
          rintro e w5 ⟨v, d5, q5, rfl, hv, h5, f5, r5⟩
          have cO5 : w5.cell? ⟨O, k, none⟩ = some (.int .i64 (y : Int)) := by
            have := f5.block hO4 hOR (by decide)
            simp only [World.cell?, this]
            exact hOk
          have hrow5 : DRow w5 g row := HW4.out.2.2.inF f5 HNC.out.2.1
          have cY := hrow5.cell y hyl
          have fY := hrow5.free y
          obtain ⟨u, hu⟩ : ∃ u, u = row[y] := ⟨_, rfl⟩
          rw [← hu] at cY
          have HF : Hid (LoInv (w5.setCell ⟨g, y, none⟩ (.int .i64 (v : Int))) w R base g s p l lim vk a b c (k + 1) q5 d5 (row.set y (v : Int)) ANS) := by
            refine ⟨h5.setRow hrow5, (HW4.out.2.1.trans f5).set HNC.out.2.2, hrow5.set y v, ?_⟩
            rcases r5 with ⟨e1, _, e3, e4, e5⟩ | ⟨e1, e2⟩
            · refine .inl ⟨e1, HP.out.1, e5, by rw [List.length_set]; exact HP.out.2.2.1, Nf.valid_of (fun z hz => ?_), ?_⟩
              · rcases List.mem_or_eq_of_mem_set hz with g | g
                · exact Nf.valid_mem HP.out.2.2.2.1 z g
                · subst g; have : v < 8 := hv; omega
              · rw [HP.out.2.2.2.2, show c + 4 - k = c + 4 - (k + 1) + 1 by have := HNC.out.1; omega, Nf.lol_ok e3, e4, ← HYO.out]
            · rcases e2 with ⟨_, e2⟩ | ⟨e2, _⟩
              · exact .inr ⟨e1, HANS.out.trans (own_lol HP.out.1 (by rw [HP.out.2.2.2.2, show c + 4 - k = c + 4 - (k + 1) + 1 by have := HNC.out.1; omega, Nf.lol_no e2]))⟩
              · exact absurd rfl e2
          clear hu hv h5 f5 r5 hrow5 HBT HP
          refine hK.out _ _ trivial (fun hHeld => ?_)
          clear hK K
          try simp only [List.getElem_toArray, List.getElem_cons_succ, List.getElem_cons_zero, Act.put, List.setIfInBounds_toArray, List.set_cons_zero, List.set_cons_succ]
          refine wpAnyH_take (i := 7) (v := .pointer (some ⟨g, y, none⟩)) rfl (by kernel_rfl) (by kernel_rfl) (by kernel_rfl) (fun _ _ _ h => h) (Or.inl ⟨by rfl, ?_⟩) hHeld ?_
          · intro w' hSw
            go_simp
          try simp only [List.getElem_toArray, List.getElem_cons_succ, List.getElem_cons_zero, Act.put, List.setIfInBounds_toArray, List.set_cons_zero, List.set_cons_succ]
          refine wpAnyH_ready (rs := [8]) (by kernel_rfl) (by simp) ?_
          refine AllReadyH.cons rfl (fun K hK => ?_) AllReadyH.nil
          go_simp
          refine hK.out _ _ trivial (fun hHeld => ?_)
          clear hK K
          try simp only [List.getElem_toArray, List.getElem_cons_succ, List.getElem_cons_zero, Act.put, List.setIfInBounds_toArray, List.set_cons_zero, List.set_cons_succ]
          refine wpAnyH_done (by kernel_rfl) ?_ _
          try simp only [List.getElem_toArray, List.getElem_cons_succ, List.getElem_cons_zero, Act.put, List.setIfInBounds_toArray, List.set_cons_zero, List.set_cons_succ]
          clear cY fY c4 hyl HYO hOk
          go_wp2_with fail
          go_roundw
          case rel => exact ⟨k + 1, q5, d5, _, by omega, by go_num, HF⟩
          case measure => rw [HML.out]; have := kLen_le (n := n) (k := k + 1) HF.out.1; first | omega | (simp only [Nat.cast_add, Nat.cast_one] at *; omega) | (push_cast at *; omega)
        · go_simp
          refine HBT.out.mono ?_
          rintro e w5 ⟨v, d5, q5, rfl, hv, h5, f5, r5⟩
          have cO5 : w5.cell? ⟨O, k, none⟩ = some (.int .i64 (y : Int)) := by
            have := f5.block hO4 hOR (by decide)
            simp only [World.cell?, this]
            exact hOk
          have hrow5 : DRow w5 g row := HW4.out.2.2.inF f5 HNC.out.2.1
          have cY := hrow5.cell y hyl
          have fY := hrow5.free y
          obtain ⟨u, hu⟩ : ∃ u, u = row[y] := ⟨_, rfl⟩
          rw [← hu] at cY
          have HF : Hid (LoInv (w5.setCell ⟨g, y, none⟩ (.int .i64 (v : Int))) w R base g s p l lim vk a b c (k + 1) q5 d5 (row.set y (v : Int)) ANS) := by
            refine ⟨h5.setRow hrow5, (HW4.out.2.1.trans f5).set HNC.out.2.2, hrow5.set y v, ?_⟩
            rcases r5 with ⟨e1, _, e3, e4, e5⟩ | ⟨e1, e2⟩
            · refine .inl ⟨e1, HP.out.1, e5, by rw [List.length_set]; exact HP.out.2.2.1, Nf.valid_of (fun z hz => ?_), ?_⟩
              · rcases List.mem_or_eq_of_mem_set hz with g | g
                · exact Nf.valid_mem HP.out.2.2.2.1 z g
                · subst g; have : v < 8 := hv; omega
              · rw [HP.out.2.2.2.2, show c + 4 - k = c + 4 - (k + 1) + 1 by have := HNC.out.1; omega, Nf.lol_ok e3, e4, ← HYO.out]
            · rcases e2 with ⟨_, e2⟩ | ⟨e2, _⟩
              · exact .inr ⟨e1, HANS.out.trans (own_lol HP.out.1 (by rw [HP.out.2.2.2.2, show c + 4 - k = c + 4 - (k + 1) + 1 by have := HNC.out.1; omega, Nf.lol_no e2]))⟩
              · exact absurd rfl e2
          clear hu hv h5 f5 r5 hrow5 HBT HP
          refine hK.out _ _ trivial (fun hHeld => ?_)
          clear hK K
          try simp only [List.getElem_toArray, List.getElem_cons_succ, List.getElem_cons_zero, Act.put, List.setIfInBounds_toArray, List.set_cons_zero, List.set_cons_succ]
          refine wpAnyH_ready (rs := [4]) (by kernel_rfl) (by simp) ?_
          refine AllReadyH.cons rfl (fun K hK => ?_) AllReadyH.nil
          go_simp
          refine hK.out _ _ trivial (fun hHeld => ?_)
          clear hK K
          try simp only [List.getElem_toArray, List.getElem_cons_succ, List.getElem_cons_zero, Act.put, List.setIfInBounds_toArray, List.set_cons_zero, List.set_cons_succ]
          refine wpAnyH_take (i := 7) (v := .pointer (some ⟨g, y, none⟩)) rfl (by kernel_rfl) (by kernel_rfl) (by kernel_rfl) (fun _ _ _ h => h) (Or.inl ⟨by rfl, ?_⟩) hHeld ?_
          · intro w' hSw
            go_simp
          try simp only [List.getElem_toArray, List.getElem_cons_succ, List.getElem_cons_zero, Act.put, List.setIfInBounds_toArray, List.set_cons_zero, List.set_cons_succ]
          refine wpAnyH_ready (rs := [8]) (by kernel_rfl) (by simp) ?_
          refine AllReadyH.cons rfl (fun K hK => ?_) AllReadyH.nil
          go_simp
          refine hK.out _ _ trivial (fun hHeld => ?_)
          clear hK K
          try simp only [List.getElem_toArray, List.getElem_cons_succ, List.getElem_cons_zero, Act.put, List.setIfInBounds_toArray, List.set_cons_zero, List.set_cons_succ]
          refine wpAnyH_done (by kernel_rfl) ?_ _
          try simp only [List.getElem_toArray, List.getElem_cons_succ, List.getElem_cons_zero, Act.put, List.setIfInBounds_toArray, List.set_cons_zero, List.set_cons_succ]
          clear cY fY c4 hyl HYO hOk
          go_wp2_with fail
          go_roundw
          case rel => exact ⟨k + 1, q5, d5, _, by omega, by go_num, HF⟩
          case measure => rw [HML.out]; have := kLen_le (n := n) (k := k + 1) HF.out.1; first | omega | (simp only [Nat.cast_add, Nat.cast_one] at *; omega) | (push_cast at *; omega)
      · have hlti : ¬ (k : Int) < (n : Int) := by omega
        have hkn : k = n := by omega
        have HLOL : Hid (Nf.lol s (c + 4) 0 (p + 14) (List.replicate 19 0) = .ok (row, q)) := by
          show _ = _
          rw [HP.out.2.2.2.2, show c + 4 - k = 0 by have := HNC.out.1; omega]; rfl
        have HA : Hid (Head3 s p a b c) := HP.out.1
        have HW : Hid (Sx wr R base s q l lim 0 vk ∧ InF R base w wr ∧ DRow wr g row) := ⟨HX.out.1, HX.out.2.1, HX.out.2.2.1⟩
        have HROW : Hid (row.length = 19 ∧ Cd.valid row = true ∧ q ≤ 8 * s.size) := ⟨HP.out.2.2.1, HP.out.2.2.2.1, HP.out.2.1⟩
        clear HP HX hk hkn
        have HUS : Hid (Calls Try.prog 110 #[.slice (some ⟨g, 0, none⟩) 19 19] wr fun e w' => e = .returned (.bool (Nf.may row true)) ∧ w' = wr) := l4Usable_any _ 19 19 row wr (HW.out.2.2.lst HNC.out.2.1).ints HROW.out.1 (by omega) HROW.out.2.1
        have HMO : Hid (Calls Try.prog 111 #[.slice (some ⟨g, 0, none⟩) 19 19] wr fun e w' => (∃ m : Nat, e = .returned (.int .i64 (m : Int)) ∧ Nf.IsMost row m ∧ m ≤ 15) ∧ w' = wr) := l3MostX _ 19 19 row wr (HW.out.2.2.lst HNC.out.2.1).ints HROW.out.1 (by omega) HROW.out.2.1
        by_cases hy286 : Y ≤ 286
        · have y1 : decide ((Y : Int) > 286) = false := decide_eq_false (by omega)
          have y2 : decide ((286 : Int) < (Y : Int)) = false := decide_eq_false (by omega)
          by_cases hz30 : Z ≤ 30
          · have z1 : decide ((Z : Int) > 30) = false := decide_eq_false (by omega)
            have z2 : decide ((30 : Int) < (Z : Int)) = false := decide_eq_false (by omega)
            cases mt : Nf.may row true with
            | false =>
              rw [mt] at HUS
              have HFL : Hid (Calls Try.prog 68 #[.pointer (some ⟨R, 0, none⟩), .int .i64 1] wr fun e w' => e = .returned (.tuple #[]) ∧ Sx w' R base s q l lim 1 vk ∧ Only R wr w') := sxFail_new R base q lim 1 l vk s wr HW.out.1
              have HE : Hid (ANS = .error 1) := HANS.out.trans (own_bad HA.out HLOL.out (fun g => by have := ((Nf.may_false HROW.out.2.1 (most_some HROW.out.2.1).choose_spec).1 g.2.2).1; rw [mt] at this; cases this) rfl)
              go_wp2_with fail
              refine HUS.out.mono ?_
              rintro e wu ⟨rfl, hwu⟩
              replace hwu := hwu.symm
              subst hwu
              go_wp2_with fail
              refine HFL.out.mono ?_
              rintro e w6 ⟨rfl, h2, h3⟩
              have HF : Hid (SEnd ANS w R base s lim vk (.returned (.tuple #[])) w6) := SEnd.no HE.out (by decide) h2 (HW.out.2.1.trans (InF.of_only h3))
              have k4 : w6.cell? ⟨R, 4, none⟩ = some (.int .i64 1) := h2.cells.2.2.2.1
              clear h2 h3 HFL HE HW HA HLOL
              go_wp2_with fail
              refine bodyPost_ret (v := .tuple #[]) (by simp [results, Try.results67, go_sem]) rfl ?_
              exact HF.out
            | true =>
              rw [mt] at HUS
              have HMT : Hid (Nf.may row true = true) := mt
              clear mt
              go_wp2_with fail
              refine HUS.out.mono ?_
              rintro e wu ⟨rfl, hwu⟩
              replace hwu := hwu.symm
              subst hwu
              go_wp2_with fail
              refine HMO.out.mono ?_
              rintro e wm ⟨⟨m, rfl, hm, hm15⟩, hwm⟩
              replace hwm := hwm.symm
              subst hwm
              clear HUS HMO
              by_cases hm0 : m = 0
              · have mb : ((m : Int) == 0) = true := by simp; omega
                have HFL : Hid (Calls Try.prog 68 #[.pointer (some ⟨R, 0, none⟩), .int .i64 1] wr fun e w' => e = .returned (.tuple #[]) ∧ Sx w' R base s q l lim 1 vk ∧ Only R wr w') := sxFail_new R base q lim 1 l vk s wr HW.out.1
                have HE : Hid (ANS = .error 1) := HANS.out.trans (own_bad HA.out HLOL.out (fun g => absurd hm0 ((Nf.may_false HROW.out.2.1 hm).1 g.2.2).2) rfl)
                subst hm0
                go_wp2_with fail
                refine HFL.out.mono ?_
                rintro e w6 ⟨rfl, h2, h3⟩
                have HF : Hid (SEnd ANS w R base s lim vk (.returned (.tuple #[])) w6) := SEnd.no HE.out (by decide) h2 (HW.out.2.1.trans (InF.of_only h3))
                have k4 : w6.cell? ⟨R, 4, none⟩ = some (.int .i64 1) := h2.cells.2.2.2.1
                clear h2 h3 HFL HE HW HA HLOL
                go_wp2_with fail
                refine bodyPost_ret (v := .tuple #[]) (by simp [results, Try.results67, go_sem]) rfl ?_
                exact HF.out
              · skip
                have HCK : Hid (a + 257 ≤ 286 ∧ b + 1 ≤ 30 ∧ Nf.may row false = true) := ⟨by have := HYY.out; omega, by have := HZZ.out; omega, (Nf.may_false HROW.out.2.1 hm).2 ⟨HMT.out, hm0⟩⟩
                have HG19 : Hid (GoodC row) := goodC (Nf.may_ok (by rw [HROW.out.1]; decide) HROW.out.2.1 HCK.out.2.2)
                obtain ⟨N, hN⟩ : ∃ N, N = Y + Z := ⟨_, rfl⟩
                have hYZ : (Y : Int) + (Z : Int) = (N : Int) := by omega
                have hYZw : IntKind.i64.wrap ((Y : Int) + (Z : Int)) = (N : Int) := by rw [hYZ]; exact wrap_i64_nat N (by omega)
                have HAB : Hid (Y = a + 257 ∧ N = a + 257 + (b + 1)) := ⟨HYY.out, by have := HYY.out; have := HZZ.out; omega⟩
                have hNb : N ≤ 399 := by omega
                have HLN0 : Hid (Calls Try.prog 112 #[.pointer (some ⟨R, 0, none⟩), .int .i64 (N : Int), .slice (some ⟨g, 0, none⟩) 19 19] wr (SLens wr R base s l lim vk N (Nf.lens s row N 400 q []))) := sxLens_any R base q lim N 19 19 _ l vk s row wr HW.out.1 hs HROW.out.2.2 (HW.out.2.2.lst HNC.out.2.1) HROW.out.1 HG19.out (by omega) hNb
                have hmi : ¬ (m : Int) = 0 := by omega
                have hmb : ((m : Int) == 0) = false := by simp; omega
                have HNN : Hid (N = Y + Z) := hN
                have HRL : Hid (R < wr.heap.size) := HW.out.1.lt
                clear hm hm15 hN
                go_wp2_with fail
                refine HLN0.out.mono ?_
                rintro e w7 (⟨L, q4, ao, cap, hL, rfl, hOL, h2, h3, h4⟩ | ⟨cc, p', hL, hc0, ⟨vv, rfl⟩, h2, h3⟩)
                · have hlo := Nf.lens_ok HG19.out (by rw [HROW.out.1]; omega) hL HROW.out.2.2 rfl (Nat.zero_le _)
                  obtain ⟨gL, rfl, hIA, hIB, hcap, hC⟩ := lst_parts (Y := Y) (R := R) hOL hlo.2.1 (by have := HNN.out; omega) (by have := HNN.out; omega) HRL.out
                  have HLN : Hid (L.length = N ∧ N = Y + Z) := ⟨hlo.2.1, HNN.out⟩
                  have HVT : Hid (Cd.valid (L.take Y) = true ∧ Cd.valid (L.drop Y) = true) := ⟨Nf.valid_sub hlo.1 (fun z hz => List.mem_of_mem_take hz), Nf.valid_sub hlo.1 (fun z hz => List.mem_of_mem_drop hz)⟩
                  have HLNS : Hid (Nf.lens s row N 400 q [] = .ok (L, q4)) := hL
                  have HI4 : Hid (Sx w7 R base s q4 l lim 0 vk ∧ InF R base w w7 ∧ base ≤ w7.heap.size ∧ q4 ≤ 8 * s.size) := ⟨h2, HW.out.2.1.trans h3, Nat.le_trans HB.out (HW.out.2.1.trans h3).size, hlo.2.2⟩
                  have HIA : Hid (Lst w7 R (some ⟨gL, 0, none⟩) (L.take Y)) := hIA
                  have HIB : Hid (Lst w7 R (some ⟨gL, Y, none⟩) (L.drop Y)) := hIB
                  obtain ⟨z, hz⟩ : ∃ z, z = L.getD 256 0 := ⟨_, rfl⟩
                  rw [← hz] at hC
                  have HZ : Hid (z = L.getD 256 0) := hz
                  have cZ : w7.cell? ⟨gL, 256, none⟩ = some (.int .i64 z) := hC
                  have k4 : w7.cell? ⟨R, 4, none⟩ = some (.int .i64 0) := h2.cells.2.2.2.1
                  have hN2 := HNN.out
                  have hYc : Y ≤ cap := by omega
                  have hYN : Y ≤ N := by omega
                  have hZN : N - Y = Z := by omega
                  have hYci : (Y : Int) ≤ (cap : Int) := by omega
                  have hYNi : (Y : Int) ≤ (N : Int) := by omega
                  have h256 : (256 : Int) < (N : Int) := by omega
                  have hcY : ¬ cap = Y := by omega
                  have hcY2 : ¬ cap - Y = 0 := by omega
                  have hNlen : Hid (N - Y = Z) := hZN
                  clear hL hOL h2 h3 h4 hlo hIA hIB hC hz HLN0 hN2 hYZ hYZw HW
                  have HM1 : Hid (Calls Try.prog 110 #[.slice (some ⟨gL, 0, none⟩) Y cap] w7 fun e w' => e = .returned (.bool (Nf.may (L.take Y) true)) ∧ w' = w7) := l4Usable_any _ cap Y (L.take Y) w7 HIA.out.ints (by rw [List.length_take, HLN.out.1]; omega) (by omega) HVT.out.1
                  have HM2 : Hid (Calls Try.prog 110 #[.slice (some ⟨gL, Y, none⟩) Z (cap - Y)] w7 fun e w' => e = .returned (.bool (Nf.may (L.drop Y) true)) ∧ w' = w7) := l4Usable_any _ (cap - Y) Z (L.drop Y) w7 HIB.out.ints (by rw [List.length_drop, HLN.out.1]; exact hZN) (by omega) HVT.out.2
                  by_cases m3 : z = 0
                  · have z0 : (z == 0) = true := by simp [m3]
                    have HFL : Hid (Calls Try.prog 68 #[.pointer (some ⟨R, 0, none⟩), .int .i64 1] w7 fun e w' => e = .returned (.tuple #[]) ∧ Sx w' R base s q4 l lim 1 vk ∧ Only R w7 w') := sxFail_new R base q4 lim 1 l vk s w7 HI4.out.1
                    have HE : Hid (ANS = .error 1) := HANS.out.trans (own_bad2 HA.out HLOL.out HCK.out HLNS.out (fun g => g.2.2 (by rw [← HZ.out]; exact m3)) HAB.out)
                    subst m3
                    clear HM1 HM2
                    go_wp2_with fail
                    refine HFL.out.mono ?_
                    rintro e w8 ⟨rfl, h2, h3⟩
                    have HF : Hid (SEnd ANS w R base s lim vk (.returned (.tuple #[])) w8) := SEnd.no HE.out (by decide) h2 (HI4.out.2.1.trans (InF.of_only h3))
                    clear h2 h3 HFL HE HI4
                    go_wp2_with fail
                    refine bodyPost_ret (v := .tuple #[]) (by simp [results, Try.results67, go_sem]) rfl ?_
                    exact HF.out
                  · have zb : (z == 0) = false := by simp [m3]
                    have HM3 : Hid (L.getD 256 0 ≠ 0) := by rw [← HZ.out]; exact m3
                    cases m1 : Nf.may (L.take Y) true with
                    | false =>
                      rw [m1] at HM1
                      have HFL : Hid (Calls Try.prog 68 #[.pointer (some ⟨R, 0, none⟩), .int .i64 1] w7 fun e w' => e = .returned (.tuple #[]) ∧ Sx w' R base s q4 l lim 1 vk ∧ Only R w7 w') := sxFail_new R base q4 lim 1 l vk s w7 HI4.out.1
                      have HE : Hid (ANS = .error 1) := HANS.out.trans (own_bad2 HA.out HLOL.out HCK.out HLNS.out (fun g => by rw [m1] at g; exact absurd g.1 (by decide)) HAB.out)
                      clear HM2
                      go_wp2_with fail
                      refine HM1.out.mono ?_
                      rintro e w9 ⟨rfl, hw9⟩
                      replace hw9 := hw9.symm
                      subst hw9
                      go_wp2_with fail
                      refine HFL.out.mono ?_
                      rintro e w8 ⟨rfl, h2, h3⟩
                      have HF : Hid (SEnd ANS w R base s lim vk (.returned (.tuple #[])) w8) := SEnd.no HE.out (by decide) h2 (HI4.out.2.1.trans (InF.of_only h3))
                      clear h2 h3 HFL HE HI4
                      go_wp2_with fail
                      refine bodyPost_ret (v := .tuple #[]) (by simp [results, Try.results67, go_sem]) rfl ?_
                      exact HF.out
                    | true =>
                      rw [m1] at HM1
                      cases m2 : Nf.may (L.drop Y) true with
                      | false =>
                        rw [m2] at HM2
                        have HFL : Hid (Calls Try.prog 68 #[.pointer (some ⟨R, 0, none⟩), .int .i64 1] w7 fun e w' => e = .returned (.tuple #[]) ∧ Sx w' R base s q4 l lim 1 vk ∧ Only R w7 w') := sxFail_new R base q4 lim 1 l vk s w7 HI4.out.1
                        have HE : Hid (ANS = .error 1) := HANS.out.trans (own_bad2 HA.out HLOL.out HCK.out HLNS.out (fun g => by rw [m2] at g; exact absurd g.2.1 (by decide)) HAB.out)
                        go_wp2_with fail
                        refine HM1.out.mono ?_
                        rintro e w9 ⟨rfl, hw9⟩
                        replace hw9 := hw9.symm
                        subst hw9
                        go_wp2_with fail
                        refine HM2.out.mono ?_
                        rintro e w9 ⟨rfl, hw9⟩
                        replace hw9 := hw9.symm
                        subst hw9
                        go_wp2_with fail
                        refine HFL.out.mono ?_
                        rintro e w8 ⟨rfl, h2, h3⟩
                        have HF : Hid (SEnd ANS w R base s lim vk (.returned (.tuple #[])) w8) := SEnd.no HE.out (by decide) h2 (HI4.out.2.1.trans (InF.of_only h3))
                        clear h2 h3 HFL HE HI4
                        go_wp2_with fail
                        refine bodyPost_ret (v := .tuple #[]) (by simp [results, Try.results67, go_sem]) rfl ?_
                        exact HF.out
                      | true =>
                        rw [m2] at HM2
                        have HLA : Hid ((L.take Y).length = Y ∧ GoodC (L.take Y)) := ⟨by rw [List.length_take, HLN.out.1]; omega, goodC (Nf.may_ok (by rw [List.length_take]; omega) HVT.out.1 m1)⟩
                        have HLB : Hid ((L.drop Y).length = Z ∧ GoodC (L.drop Y)) := ⟨by rw [List.length_drop, HLN.out.1]; exact hZN, goodC (Nf.may_ok (by rw [List.length_drop, HLN.out.1]; omega) HVT.out.2 m2)⟩
                        have HBODY : Hid (ANS = Nf.body s lim (L.take Y) (L.drop Y) Nf.fuel q4 l) := HANS.out.trans (own_body HA.out HLOL.out HCK.out HLNS.out ⟨m1, m2, HM3.out⟩ HAB.out)
                        have HBC : Hid (Calls Try.prog 66 #[.pointer (some ⟨R, 0, none⟩), .slice (some ⟨gL, 0, none⟩) Y cap, .slice (some ⟨gL, Y, none⟩) Z (cap - Y)] w7.drew (SEnd ANS w7.drew R base s lim vk)) := by rw [HBODY.out]; exact sxBody_any R base q4 lim Y Z cap (cap - Y) _ _ l vk s (L.take Y) (L.drop Y) w7.drew HI4.out.1.drew HI4.out.2.2.1 hs HI4.out.2.2.2 hl hlim (HIA.out.inF ((InF.refl R base w7).drewN 1)) (HIB.out.inF ((InF.refl R base w7).drewN 1)) HLA.out.1 HLB.out.1 HLA.out.2 HLB.out.2 (by omega) (by omega)
                        clear m1 m2
                        go_wp2_with fail
                        refine HM1.out.mono ?_
                        rintro e w9 ⟨rfl, hw9⟩
                        replace hw9 := hw9.symm
                        subst hw9
                        go_wp2_with fail
                        refine HM2.out.mono ?_
                        rintro e w9 ⟨rfl, hw9⟩
                        replace hw9 := hw9.symm
                        subst hw9
                        clear HM1 HM2
                        go_upto_region 15 with fail
                        go_still_tail 7, (by kernel_rfl)
                        repeat still_step
                        go_wp2_with fail
                        refine HBC.out.mono ?_
                        rintro e w8 ⟨rfl, hend⟩
                        have HF : Hid (SEnd ANS w R base s lim vk (.returned (.tuple #[])) w8) := by
                          refine ⟨rfl, ?_⟩
                          rcases hend with ⟨L2, q2, g1, g2, g3, g4⟩ | ⟨c2, g1, g2, g3, g4⟩
                          · exact .inl ⟨L2, q2, g1, g2, (HI4.out.2.1.drewN 1).trans g3, g4⟩
                          · exact .inr ⟨c2, g1, g2, g3, (HI4.out.2.1.drewN 1).trans g4⟩
                        clear hend HBC HBODY
                        go_wp2_with fail
                        go_end0
                        exact HF.out
                · have HF : Hid (SEnd ANS w R base s lim vk (.returned (.tuple #[])) w7) := SEnd.no (HANS.out.trans (own_lens HA.out HLOL.out HCK.out hL HAB.out.2)) hc0 h2 (HW.out.2.1.trans h3)
                  have k4 := h2.cells.2.2.2.1
                  have hci : ¬ (cc : Int) = 0 := by omega
                  clear hL h2 h3 HLN0 HW
                  go_wp2_with fail
                  refine bodyPost_ret (v := .tuple #[]) (by simp [results, Try.results67, go_sem]) rfl ?_
                  exact HF.out
          · have z1 : decide ((Z : Int) > 30) = true := decide_eq_true (by omega)
            have z2 : decide ((30 : Int) < (Z : Int)) = true := decide_eq_true (by omega)
            clear HUS HMO
            have HFL : Hid (Calls Try.prog 68 #[.pointer (some ⟨R, 0, none⟩), .int .i64 1] wr fun e w' => e = .returned (.tuple #[]) ∧ Sx w' R base s q l lim 1 vk ∧ Only R wr w') := sxFail_new R base q lim 1 l vk s wr HW.out.1
            have HE : Hid (ANS = .error 1) := HANS.out.trans (own_bad HA.out HLOL.out (fun g => by have := HZZ.out; omega) rfl)
            go_wp2_with fail
            refine HFL.out.mono ?_
            rintro e w6 ⟨rfl, h2, h3⟩
            have HF : Hid (SEnd ANS w R base s lim vk (.returned (.tuple #[])) w6) := SEnd.no HE.out (by decide) h2 (HW.out.2.1.trans (InF.of_only h3))
            have k4 : w6.cell? ⟨R, 4, none⟩ = some (.int .i64 1) := h2.cells.2.2.2.1
            clear h2 h3 HFL HE HW HA HLOL
            go_wp2_with fail
            refine bodyPost_ret (v := .tuple #[]) (by simp [results, Try.results67, go_sem]) rfl ?_
            exact HF.out
        · have y1 : decide ((Y : Int) > 286) = true := decide_eq_true (by omega)
          have y2 : decide ((286 : Int) < (Y : Int)) = true := decide_eq_true (by omega)
          clear HUS HMO
          have HFL : Hid (Calls Try.prog 68 #[.pointer (some ⟨R, 0, none⟩), .int .i64 1] wr fun e w' => e = .returned (.tuple #[]) ∧ Sx w' R base s q l lim 1 vk ∧ Only R wr w') := sxFail_new R base q lim 1 l vk s wr HW.out.1
          have HE : Hid (ANS = .error 1) := HANS.out.trans (own_bad HA.out HLOL.out (fun g => by have := HYY.out; omega) rfl)
          go_wp2_with fail
          refine HFL.out.mono ?_
          rintro e w6 ⟨rfl, h2, h3⟩
          have HF : Hid (SEnd ANS w R base s lim vk (.returned (.tuple #[])) w6) := SEnd.no HE.out (by decide) h2 (HW.out.2.1.trans (InF.of_only h3))
          have k4 : w6.cell? ⟨R, 4, none⟩ = some (.int .i64 1) := h2.cells.2.2.2.1
          clear h2 h3 HFL HE HW HA HLOL
          go_wp2_with fail
          refine bodyPost_ret (v := .tuple #[]) (by simp [results, Try.results67, go_sem]) rfl ?_
          exact HF.out
    · have hdi : ¬ (d : Int) = 0 := by omega
      have HF : Hid (SEnd ANS w R base s lim vk (.returned (.tuple #[])) wr) := by
        rcases HX.out.2.2.2 with ⟨e, _⟩ | ⟨e1, e2⟩
        · exact absurd e hd
        · exact SEnd.no e2 e1 HX.out.1 HX.out.2.1
      clear HX
      by_cases hlt : (k : Int) < (n : Int)
      · go_wp2_with fail
        refine bodyPost_ret (v := .tuple #[]) (by simp [results, Try.results67, go_sem]) rfl ?_
        exact HF.out
      · go_wp2_with fail
        refine bodyPost_ret (v := .tuple #[]) (by simp [results, Try.results67, go_sem]) rfl ?_
        exact HF.out
end Go.Proofs.Ythfdnloeicbgkaa
