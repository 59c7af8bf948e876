/- So many lengths, in the specification. -/
import Derived.Deep.RegionHeld
import Derived.Test.YtejebodgfoihkabGreatKFZlibGetx1
import Derived.Test.YtejebodgfoihkabGreatKFZlibGetx0
namespace Go.Proofs.YtejebodgfoihkabGreat
open Go.RowKit

/-- how bits ends, told in one -/
def SBitsU (w : World) (R base : Nat) (s : ByteArray) (p n : Nat) (l : List UInt8) (lim : Nat) (vk : Value) (e : Ending) (w' : World) : Prop :=
  ∃ v d q2 : Nat, e = .returned (.int .i64 (v : Int)) ∧ v < 2 ^ n ∧ Sx w' R base s q2 l lim d vk ∧ Only R w w' ∧ ((d = 0 ∧ Nf.nxt s n p = .ok v ∧ q2 = p + n ∧ q2 ≤ 8 * s.size) ∨ (d ≠ 0 ∧ Nf.nxt s n p = .error d))
theorem sxBits_u (R base p n lim : Nat) (l : List UInt8) (vk : Value) (s : ByteArray) (w : World) (h : Sx w R base s p l lim 0 vk) (hs : s.size ≤ 9000) (hp : p ≤ 8 * s.size) (hn : n ≤ 24) :
    Calls Tryz.prog 77 #[.pointer (some ⟨R, 0, none⟩), .int .i64 (n : Int)] w (SBitsU w R base s p n l lim vk) := by
  refine (sxBits_any R base p n lim l vk s w h hs hp hn).mono ?_
  rintro e w' (⟨v, h1, h2, h3, h4⟩ | ⟨h1, h2, h3, h4⟩)
  · exact ⟨v, 0, p + n, h2, (Nf.nxt_ok h1).2.2, h3, h4, .inl ⟨rfl, h1, rfl, (Nf.nxt_ok h1).1⟩⟩
  · exact ⟨0, 2, p, h2, Nat.pow_pos (by omega), h3, h4, .inr ⟨by decide, h1⟩⟩
/-- what a run is, or the code that was noted -/
def RunNs (r : Except Nat ((Int × Nat) × Nat)) (s : ByteArray) (z : Int) (t q d : Nat) : Prop := (d = 0 ∧ r = .ok ((z, t), q) ∧ q ≤ 8 * s.size) ∨ (d ≠ 0 ∧ r = .error d)
/-- what is still to come of the lengths -/
def LnAns (ANS : Except Nat (List Int × Nat)) (s : ByteArray) (zs : List Int) (count f q d N : Nat) (kn : List Int) : Prop :=
  (d = 0 ∧ q ≤ 8 * s.size ∧ (N ≤ count → ANS = Nf.lens s zs count f q kn) ∧ (count < N → ANS = .error 1)) ∨ (d ≠ 0 ∧ ANS = .error d)
theorem LnAns.next {ANS : Except Nat (List Int × Nat)} {s : ByteArray} {zs : List Int} {count f q d N t q2 : Nat} {kn : List Int} {z : Int} (h : LnAns ANS s zs count (f + 1) q 0 N kn) (hl : kn.length = N) (hlt : N < count) (hr : RunNs (Nf.run s zs q kn) s z t q2 d) : LnAns ANS s zs count f q2 d (N + t) (kn ++ List.replicate t z) := by
  rcases h with ⟨_, h1, h2, h3⟩ | ⟨h1, _⟩
  · have hA := h2 (by omega)
    rcases hr with ⟨e0, e1, e2⟩ | ⟨e0, e1⟩
    · refine .inl ⟨e0, e2, fun hn => ?_, fun hn => ?_⟩
      · rw [hA, Nf.lens_more (by rw [hl]; exact hlt) e1 (by rw [hl]; exact hn)]
      · rw [hA, Nf.lens_over (by rw [hl]; exact hlt) e1 (by rw [hl]; omega)]
    · exact .inr ⟨e0, by rw [hA, Nf.lens_no (by rw [hl]; exact hlt) e1]⟩
  · exact absurd rfl h1
theorem LnAns.stop {ANS : Except Nat (List Int × Nat)} {s : ByteArray} {zs : List Int} {count f q c N : Nat} {kn : List Int} (h : LnAns ANS s zs count (f + 1) q 0 N kn) (hl : kn.length = N) (hlt : N < count) (hr : Nf.run s zs q kn = .error c) : ANS = .error c := by
  rcases h with ⟨_, h1, h2, h3⟩ | ⟨h1, _⟩
  · rw [h2 (by omega), Nf.lens_no (by rw [hl]; exact hlt) hr]
  · exact absurd rfl h1
theorem Sx.beside {w w' : World} {R base p lim lb n c : Nat} {s : ByteArray} {l : List UInt8} {vk v : Value} {kn : List Int} (h : Sx w R base s p l lim c vk) (o : OwnI w lb v n kn) (hg : ∀ k, k < w.heap.size → some k ≠ v.ownBlock → w'.heap[k]? = w.heap[k]?) : Sx w' R base s p l lim c vk := by
  have hl := h.lt
  obtain ⟨vo, h1, h2⟩ := h
  refine ⟨vo, (hg R hl (fun e => o.away h1 (by decide) e.symm)).trans h1, h2.besides (fun k hk => hg k (World.ownsRow.lt (show World.ownsRow _ _ _ _ _ _ _ from h2) k hk).2 (fun e => ?_))⟩
  obtain ⟨c, z, hc⟩ := isRow_cells (h2.isRow hk).1
  exact o.away hc (by decide) e.symm
theorem InF.grown {w0 w w' : World} {R base lb n : Nat} {v : Value} {kn : List Int} (h : InF R base w0 w) (o : OwnI w lb v n kn) (hg : w.grownBy w' v.ownBlock) (hb : w0.heap.size ≤ lb) : InF R base w0 w' :=
  ⟨hg.os.trans h.os, hg.tape.trans h.tape, hg.output.trans h.output, Nat.le_trans h.size hg.size, fun k hk h1 h2 => (hg.block k (Nat.lt_of_lt_of_le hk h.size) (fun e => by have := (World.ownsRow.lt (show World.ownsRow _ _ _ _ _ _ _ from o) k e.symm).1; omega)).trans (h.rest k hk h1 h2)⟩
theorem OwnI.intsOf {w : World} {B n c : Nat} {a : Option Addr} {l : List Int} (h : OwnI w B (.slice a n c) n l) : Ints w a l := by
  obtain ⟨ao, cap, e, ho⟩ := h.owns
  cases e
  exact ho.ints
/-- a measure: how many are wanted still, 0 once a code is noted -/
def mLen (R count : Nat) (o : Value) (w : World) : Nat :=
  match w.cell? ⟨R, 4, none⟩, o with
  | some (.int _ c), .slice _ n _ => if c = 0 then count + 1 - n else 0
  | _, _ => 0
theorem mLen_go {w : World} {R base p lim count n cap : Nat} {s : ByteArray} {l : List UInt8} {vk : Value} {a : Option Addr} (h : Sx w R base s p l lim 0 vk) : mLen R count (.slice a n cap) w = count + 1 - n := by
  unfold mLen
  rw [h.cells.2.2.2.1]
  simp
theorem mLen_le {w : World} {R base p lim count n cap c : Nat} {s : ByteArray} {l : List UInt8} {vk : Value} {a : Option Addr} (h : Sx w R base s p l lim c vk) : mLen R count (.slice a n cap) w ≤ count + 1 - n := by
  unfold mLen
  rw [h.cells.2.2.2.1]
  simp only
  split <;> omega
theorem mLen_no {w : World} {R base p lim count n cap c : Nat} {s : ByteArray} {l : List UInt8} {vk : Value} {a : Option Addr} (h : Sx w R base s p l lim c vk) (hc : c ≠ 0) : mLen R count (.slice a n cap) w = 0 := by
  unfold mLen
  rw [h.cells.2.2.2.1]
  simp
  omega
/-- the loop of lengths -/
def LnInv (wr w1 : World) (R base lb : Nat) (s : ByteArray) (l : List UInt8) (lim : Nat) (vk : Value) (zs : List Int) (count : Nat) (ANS : Except Nat (List Int × Nat)) (f q d N cap : Nat) (ao : Option Addr) (kn : List Int) : Prop :=
  OwnI wr lb (.slice ao N cap) N kn ∧ Sx wr R base s q l lim d vk ∧ InF R base w1 wr ∧ LnAns ANS s zs count f q d N kn
/-- how lengths ends -/
def SLens (w : World) (R base : Nat) (s : ByteArray) (l : List UInt8) (lim : Nat) (vk : Value) (count : Nat) (ANS : Except Nat (List Int × Nat)) (e : Ending) (w' : World) : Prop :=
  (∃ L q a cap, ANS = .ok (L, q) ∧ e = .returned (.slice a count cap) ∧ OwnI w' w.heap.size (.slice a count cap) count L ∧ Sx w' R base s q l lim 0 vk ∧ InF R base w w' ∧ q ≤ 8 * s.size) ∨ (∃ c p', ANS = .error c ∧ c ≠ 0 ∧ (∃ v, e = .returned v) ∧ Sx w' R base s p' l lim c vk ∧ InF R base w w')

set_option linter.unusedSimpArgs false in
set_option maxHeartbeats 8000000 in
set_option maxRecDepth 100000 in
theorem sxLens_any (R base p lim count n cz : Nat) (a : Option Addr) (l : List UInt8) (vk : Value) (s : ByteArray) (zs : List Int) (w : World) (h : Sx w R base s p l lim 0 vk) (hs : s.size ≤ 9000) (hp : p ≤ 8 * s.size) (ha : Lst w R a zs) (hn : zs.length = n) (hg : GoodC zs) (hl19 : n ≤ 19) (hc : count ≤ 399) :
    Calls Tryz.prog 122 #[.pointer (some ⟨R, 0, none⟩), .int .i64 (count : Int), .slice a n cz] w (SLens w R base s l lim vk count (Nf.lens s zs count 400 p [])) := by
  obtain ⟨ANS, hANS⟩ : ∃ r, r = Nf.lens s zs count 400 p [] := ⟨_, rfl⟩
  rw [← hANS]
  have HMA : Hid (Calls Tryz.prog 106 #[.slice a n cz] w fun e w' => e = .returned (.slice (some ⟨w.heap.size, 0, none⟩) n n) ∧ w' = w.alloc (.cells (arr (Mk.mk zs)) 3)) := l3Make_any a cz n zs w ha.ints hn (by omega)
  obtain ⟨W0, hW0⟩ : ∃ W0, W0 = w.alloc (.cells (arr (Mk.mk zs)) 3) := ⟨_, rfl⟩
  have b0 : Below w.heap.size w W0 := by rw [hW0]; exact (Below.refl _ _).alloc (Nat.le_refl _) _
  have hRw := h.lt
  obtain ⟨xa, hxa⟩ : ∃ xa, xa = w.heap.size := ⟨_, rfl⟩
  obtain ⟨lb, hlb⟩ : ∃ lb, lb = W0.heap.size := ⟨_, rfl⟩
  obtain ⟨W1, hW1⟩ : ∃ W1, W1 = W0.alloc (.cells #[] 3) := ⟨_, rfl⟩
  have b1 : Below W0.heap.size W0 W1 := by rw [hW1]; exact (Below.refl _ _).alloc (Nat.le_refl _) _
  have HT : Hid (Lst W0 R (some ⟨xa, 0, none⟩) (Mk.mk zs) ∧ Lst W0 R a zs ∧ zs.length = n ∧ GoodC zs ∧ Below w.heap.size w W0 ∧ R < lb ∧ w.heap.size ≤ lb ∧ lb = W0.heap.size) := by
    refine ⟨?_, ha.kept b0, hn, hg, b0, by have := b0.size; omega, by rw [hlb]; exact b0.size, hlb⟩
    rw [hW0, hxa]; exact Lst.arr w (Mk.mk zs) (by omega)
  have HX0 : Hid (LnInv W1 W0 R base lb s l lim vk zs count ANS 400 p 0 0 0 (some ⟨lb, 0, none⟩) []) := by
    refine ⟨by rw [hW1, hlb]; exact ownI_none W0, (h.kept b0).kept b1, InF.of_below b1, .inl ⟨rfl, hp, fun _ => hANS, fun hh => by omega⟩⟩
  rw [← hW0, ← hxa] at HMA
  clear h ha hn hg hANS b0 b1 hW0 hRw hxa hp
  go_enter Tryz.func122, Tryz.ntmps122
  go_wp2_with fail
  refine HMA.out.mono ?_
  rintro e w1 ⟨rfl, hw1⟩
  subst hw1
  clear HMA
  go_wp2_with fail
  rw [← hlb, ← hW1]
  clear hlb hW1
  go_loopw [8, 9] (fun o _v wr => ∃ (f q d N cap : Nat) (ao : Option Addr) (kn : List Int), o = .slice ao N cap ∧ N ≤ 700 ∧ count < f + N ∧ Hid (LnInv wr w1 R base lb s l lim vk zs count ANS f q d N cap ao kn)) (fun o _ wr => mLen R count o wr)
  case atStart => exact ⟨400, p, 0, 0, 0, _, [], rfl, by omega, by omega, HX0⟩
  case round =>
    obtain ⟨f, q, d, N, cap, ao, kn, rfl, hN, hf, HX⟩ := hrel
    clear HX0
    have c4 := HX.out.2.1.cells.2.2.2.1
    by_cases hlt : N < count
    · have hlti : (N : Int) < (count : Int) := by omega
      by_cases hd : d = 0
      · subst hd
        replace c4 : wr.cell? ⟨R, 4, none⟩ = some (.int .i64 0) := c4
        obtain ⟨f2, rfl⟩ : ∃ f2, f = f2 + 1 := ⟨f - 1, by omega⟩
        have hq : q ≤ 8 * s.size := by
          rcases HX.out.2.2.2 with ⟨_, e, _⟩ | ⟨e, _⟩
          · exact e
          · exact absurd rfl e
        have HSY : Hid (Calls Tryz.prog 118 #[.pointer (some ⟨R, 0, none⟩), .slice (some ⟨xa, 0, none⟩) n n, .slice a n cz] wr (SSym wr R base s q l lim vk zs)) := sxSym_any R base q lim n n cz _ a l vk s zs wr HX.out.2.1 hs hq (HT.out.1.inF HX.out.2.2.1).ints (HT.out.2.1.inF HX.out.2.2.1).ints HT.out.2.2.1 HT.out.2.2.2.1 (by omega)
        have HML : Hid (mLen R count (.slice ao N cap) wr = count + 1 - N) := mLen_go HX.out.2.1
        go_wp2_with fail
        refine HSY.out.mono ?_
        rintro e w2 (⟨y, q1, hy, rfl, h2, h3⟩ | ⟨c, hc', hc0, rfl, h2, h3⟩)
        · have hsy := Nf.sym_ok HT.out.2.2.2.1 hy
          have hq2 := hsy.2.1
          have hylen : y < 19 := by have := hsy.2.2; have := HT.out.2.2.1; omega
          have HY : Hid (Nf.sym s zs q = .ok (y, q1) ∧ LnAns ANS s zs count (f2 + 1) q 0 N kn ∧ kn.length = N) := ⟨hy, HX.out.2.2.2, HX.out.1.len⟩
          have HW : Hid (OwnI w2 lb (.slice ao N cap) N kn ∧ Sx w2 R base s q1 l lim 0 vk ∧ InF R base w1 w2 ∧ lb ≤ w2.heap.size) := ⟨(InF.of_only (base := base) h3).ownI HX.out.1 HT.out.2.2.2.2.2.1, h2, HX.out.2.2.1.trans (InF.of_only h3), by rw [HT.out.2.2.2.2.2.2.2]; exact Nat.le_trans HX.out.2.2.1.size h3.below.size⟩
          have hy0 : ¬ (y : Int) < 0 := by omega
          clear hy h2 h3 hsy HSY c4 HX
          by_cases h15 : y < 16
          · have hyi : (y : Int) < 16 := by omega
            have HLN : Hid (LnAns ANS s zs count f2 q1 0 (N + 1) (kn ++ List.replicate 1 (y : Int))) := HY.out.2.1.next HY.out.2.2 hlt (.inl ⟨rfl, Nf.run_one HY.out.1 (by omega), hq2⟩)
            go_wp2_with (at_builtin; refine wpList_app1 w2 (by rfl) _ _ (by rfl) lb _ N kn (y : Int) (by rfl) HW.out.1 (by rfl) (by omega) HW.out.2.2.2 ?_)
            intro g7 cy7 w7 hO7 hG7
            have HF : Hid (LnInv w7 w1 R base lb s l lim vk zs count ANS f2 q1 0 (N + 1) cy7 (some ⟨g7, 0, none⟩) (kn ++ [(y : Int)])) := ⟨hO7, HW.out.2.1.beside HW.out.1 hG7.block, HW.out.2.2.1.more HW.out.1 hG7 (by rw [HT.out.2.2.2.2.2.2.2]; exact Nat.le_refl _), HLN.out⟩
            clear hO7 hG7 HW HLN HY
            go_wp2_with fail
            go_roundw
            case rel => exact ⟨f2, q1, 0, N + 1, cy7, _, _, by go_num, by omega, by omega, HF⟩
            case measure => rw [HML.out, mLen_go HF.out.2.1]; omega
          · have hyi : ¬ (y : Int) < 16 := by omega
            by_cases h16 : y = 16
            · subst h16
              by_cases hN0 : 0 < N
              · have hN0i : ¬ (N : Int) = 0 := by omega
                obtain ⟨g, rfl, hgB, hgl, hlast⟩ := last_at HW.out.1 hN0
                obtain ⟨J, hJ⟩ : ∃ J, J = N - 1 := ⟨_, rfl⟩
                obtain ⟨z, hz⟩ : ∃ z, z = kn.getD (kn.length - 1) 0 := ⟨_, rfl⟩
                rw [← hJ, ← hz] at hlast
                have hJi : (N : Int) - 1 = (J : Int) := by omega
                have hJw : IntKind.i64.wrap ((N : Int) - 1) = (J : Int) := by rw [hJi]; exact wrap_i64_nat J (by omega)
                have hJw2 : IntKind.i64.wrap (J : Int) = (J : Int) := wrap_i64_nat J (by omega)
                have hJn : J < N := by omega
                have hJni : (J : Int) < (N : Int) := by omega
                have hgR : g ≠ R := by have := HT.out.2.2.2.2.2.1; omega
                have HZ : Hid (z = kn.getD (kn.length - 1) 0 ∧ kn.length ≠ 0) := ⟨hz, by rw [HY.out.2.2]; omega⟩
                have HBT : Hid (Calls Tryz.prog 77 #[.pointer (some ⟨R, 0, none⟩), .int .i64 2] w2.drew (SBitsU w2.drew R base s q1 2 l lim vk)) := sxBits_u R base q1 2 lim l vk s w2.drew HW.out.2.1.drew hs hq2 (by omega)
                have HSA : Hid (∀ (T : Nat) (w : World), T ≤ 300 → Calls Tryz.prog 75 #[.int .i64 z, .int .i64 (T : Int)] w fun e w' => (∃ a c, e = .returned (.slice a T c) ∧ OwnI w' w.heap.size (.slice a T c) T (List.replicate T z)) ∧ Below w.heap.size w w') := fun T w hT => l4Same_any z T hT w
                clear hz hJ
                go_upto_region 13 with fail
                refine wp_region_held_drew (S := fun _ => True) (by kernel_rfl) trivial (fun hHeld => ?_)
                refine wpAnyH_take (i := 0) (v := .slice (some ⟨g, 0, none⟩) N cap) rfl (by kernel_rfl) (by kernel_rfl) (by kernel_rfl) (fun _ _ _ h => h) (Or.inl ⟨by rfl, ?_⟩) hHeld ?_
                · intro w' hSw
                  go_simp
                try simp only [List.getElem_toArray, List.getElem_cons_succ, List.getElem_cons_zero, Act.put, List.setIfInBounds_toArray, List.set_cons_zero, List.set_cons_succ]
                refine wpAnyH_take (i := 1) (v := .slice (some ⟨g, 0, none⟩) N cap) rfl (by kernel_rfl) (by kernel_rfl) (by kernel_rfl) (fun _ _ _ h => h) (Or.inl ⟨by rfl, ?_⟩) hHeld ?_
                · intro w' hSw
                  go_simp
                try simp only [List.getElem_toArray, List.getElem_cons_succ, List.getElem_cons_zero, Act.put, List.setIfInBounds_toArray, List.set_cons_zero, List.set_cons_succ]
                refine wpAnyH_take (i := 2) (v := .slice (some ⟨g, 0, none⟩) N cap) rfl (by kernel_rfl) (by kernel_rfl) (by kernel_rfl) (fun _ _ _ h => h) (Or.inl ⟨by rfl, ?_⟩) hHeld ?_
                · intro w' hSw
                  go_simp
                try simp only [List.getElem_toArray, List.getElem_cons_succ, List.getElem_cons_zero, Act.put, List.setIfInBounds_toArray, List.set_cons_zero, List.set_cons_succ]
                refine wpAnyH_take (i := 3) (v := .int .i64 (N : Int)) rfl (by kernel_rfl) (by kernel_rfl) (by kernel_rfl) (fun _ _ _ h => h) (Or.inl ⟨by rfl, ?_⟩) hHeld ?_
                · intro w' hSw
                  go_simp
                try simp only [List.getElem_toArray, List.getElem_cons_succ, List.getElem_cons_zero, Act.put, List.setIfInBounds_toArray, List.set_cons_zero, List.set_cons_succ]
                refine wpAnyH_take (i := 4) (v := .int .i64 (J : Int)) rfl (by kernel_rfl) (by kernel_rfl) (by kernel_rfl) (fun _ _ _ h => h) (Or.inl ⟨by rfl, ?_⟩) hHeld ?_
                · intro w' hSw
                  go_simp
                try simp only [List.getElem_toArray, List.getElem_cons_succ, List.getElem_cons_zero, Act.put, List.setIfInBounds_toArray, List.set_cons_zero, List.set_cons_succ]
                refine wpAnyH_take (i := 5) (v := .pointer (some ⟨g, J, none⟩)) rfl (by kernel_rfl) (by kernel_rfl) (by kernel_rfl) (fun _ _ _ h => h) (Or.inl ⟨by rfl, ?_⟩) hHeld ?_
                · intro w' hSw
                  go_simp
                try simp only [List.getElem_toArray, List.getElem_cons_succ, List.getElem_cons_zero, Act.put, List.setIfInBounds_toArray, List.set_cons_zero, List.set_cons_succ]
                refine wpAnyH_take (i := 7) (v := .pointer (some ⟨R, 0, none⟩)) rfl (by kernel_rfl) (by kernel_rfl) (by kernel_rfl) (fun _ _ _ h => h) (Or.inl ⟨by rfl, ?_⟩) hHeld ?_
                · intro w' hSw
                  go_simp
                try simp only [List.getElem_toArray, List.getElem_cons_succ, List.getElem_cons_zero, Act.put, List.setIfInBounds_toArray, List.set_cons_zero, List.set_cons_succ]
                refine wpAnyH_ready (rs := [6, 8]) (by kernel_rfl) (by simp) ?_
                refine AllReadyH.cons rfl (fun K hK => ?_) (AllReadyH.cons rfl (fun K hK => ?_) AllReadyH.nil)
                · go_simp
                  refine hK.out _ _ trivial (fun hHeld => ?_)
                  clear hK K
                  try simp only [List.getElem_toArray, List.getElem_cons_succ, List.getElem_cons_zero, Act.put, List.setIfInBounds_toArray, List.set_cons_zero, List.set_cons_succ]
                  refine wpAnyH_ready (rs := [8]) (by kernel_rfl) (by simp) ?_
                  refine AllReadyH.cons rfl (fun K hK => ?_) AllReadyH.nil
                  go_simp
                  refine HBT.out.mono ?_
                  rintro e w3 ⟨v, d, q3, rfl, hv, h2, h3, h4⟩
                  have hvb : v < 128 := Nat.lt_of_lt_of_le hv (by decide)
                  obtain ⟨T, hT⟩ : ∃ T : Nat, T = 3 + v := ⟨_, rfl⟩
                  have hTi : (3 : Int) + (v : Int) = (T : Int) := by omega
                  have hTw : IntKind.i64.wrap ((3 : Int) + (v : Int)) = (T : Int) := by rw [hTi]; exact wrap_i64_nat T (by omega)
                  have hTb : T ≤ 138 := by omega
                  have hT1 : 1 ≤ T := by omega
                  have HW3 : Hid (OwnI w3 lb (.slice (some ⟨g, 0, none⟩) N cap) N kn ∧ Sx w3 R base s q3 l lim d vk ∧ InF R base w1 w3 ∧ lb ≤ w3.heap.size) := ⟨(InF.of_only (base := base) h3).ownI HW.out.1 HT.out.2.2.2.2.2.1, h2, (HW.out.2.2.1.drewN 1).trans (InF.of_only h3), Nat.le_trans HW.out.2.2.2 h3.below.size⟩
                  have HLN : Hid (LnAns ANS s zs count f2 q3 d (N + T) (kn ++ List.replicate T z)) := HY.out.2.1.next HY.out.2.2 hlt (by
                    rcases h4 with ⟨e1, e2, e3, e4⟩ | ⟨e1, e2⟩
                    · exact .inl ⟨e1, by rw [hT, e3]; exact by rw [HZ.out.1]; exact Nf.run_16 HY.out.1 HZ.out.2 e2, e4⟩
                    · exact .inr ⟨e1, Nf.run_16s HY.out.1 HZ.out.2 e2⟩)
                  have hlast3 : w3.cell? ⟨g, J, none⟩ = some (.int .i64 z) := (h3.cell g J hgl hgR).trans hlast
                  have hTw2 : IntKind.i64.wrap (T : Int) = (T : Int) := wrap_i64_nat T (by omega)
                  clear hv h2 h3 h4 HBT hT HW HY HZ
                  refine hK.out _ _ trivial (fun hHeld => ?_)
                  clear hK K
                  try simp only [List.getElem_toArray, List.getElem_cons_succ, List.getElem_cons_zero, Act.put, List.setIfInBounds_toArray, List.set_cons_zero, List.set_cons_succ]
                  refine wpAnyH_take (i := 9) (v := .int .i64 (T : Int)) rfl (by kernel_rfl) (by kernel_rfl) (by kernel_rfl) (fun _ _ _ h => h) (Or.inl ⟨by rfl, ?_⟩) hHeld ?_
                  · intro w' hSw
                    go_simp
                  try simp only [List.getElem_toArray, List.getElem_cons_succ, List.getElem_cons_zero, Act.put, List.setIfInBounds_toArray, List.set_cons_zero, List.set_cons_succ]
                  refine wpAnyH_ready (rs := [10]) (by kernel_rfl) (by simp) ?_
                  refine AllReadyH.cons rfl (fun K hK => ?_) AllReadyH.nil
                  go_simp
                  refine (HSA.out T _ (by omega)).mono ?_
                  rintro e w4 ⟨⟨a6, c6, rfl, hq6⟩, b5⟩
                  have HW4 : Hid (OwnI w4 lb (.slice (some ⟨g, 0, none⟩) N cap) N kn ∧ Sx w4 R base s q3 l lim d vk ∧ InF R base w1 w4 ∧ lb ≤ w4.heap.size ∧ Ints w4 a6 (List.replicate T z)) := ⟨(InF.of_below (R := R) (base := base) b5).ownI HW3.out.1 HT.out.2.2.2.2.2.1, HW3.out.2.1.kept b5, HW3.out.2.2.1.trans (InF.of_below b5), Nat.le_trans HW3.out.2.2.2 b5.size, hq6.intsOf⟩
                  clear hq6 b5 HW3
                  refine hK.out _ _ trivial (fun hHeld => ?_)
                  clear hK K
                  try simp only [List.getElem_toArray, List.getElem_cons_succ, List.getElem_cons_zero, Act.put, List.setIfInBounds_toArray, List.set_cons_zero, List.set_cons_succ]
                  refine wpAnyH_ready (rs := [11]) (by kernel_rfl) (by simp) ?_
                  refine AllReadyH.cons rfl (fun K hK => ?_) AllReadyH.nil
                  refine step_append_ints (by rfl) _ _ (by rfl) lb (.slice (some ⟨g, 0, none⟩) N cap) N kn (by rfl) HW4.out.1 a6 T c6 (List.replicate T z) (by rfl) HW4.out.2.2.2.2 (by simp) (by omega) HW4.out.2.2.2.1 ?_
                  intro y7 cy7 w7 hO7 hG7
                  have HF : Hid (LnInv w7 w1 R base lb s l lim vk zs count ANS f2 q3 d (N + T) cy7 y7 (kn ++ List.replicate T z)) := ⟨hO7, HW4.out.2.1.beside HW4.out.1 hG7.block, HW4.out.2.2.1.grown HW4.out.1 hG7 (by rw [HT.out.2.2.2.2.2.2.2]; exact Nat.le_refl _), HLN.out⟩
                  clear hO7 hG7 HW4 HLN
                  refine hK.out _ _ trivial (fun hHeld => ?_)
                  clear hK K
                  try simp only [List.getElem_toArray, List.getElem_cons_succ, List.getElem_cons_zero, Act.put, List.setIfInBounds_toArray, List.set_cons_zero, List.set_cons_succ]
                  refine wpAnyH_take (i := 12) (v := .slice y7 (N + T) cy7) rfl (by kernel_rfl) (by kernel_rfl) (by kernel_rfl) (fun _ _ _ h => h) (Or.inl ⟨by rfl, ?_⟩) hHeld ?_
                  · intro w' hSw
                    go_simp
                  try simp only [List.getElem_toArray, List.getElem_cons_succ, List.getElem_cons_zero, Act.put, List.setIfInBounds_toArray, List.set_cons_zero, List.set_cons_succ]
                  refine wpAnyH_done (by kernel_rfl) ?_ _
                  try simp only [List.getElem_toArray, List.getElem_cons_succ, List.getElem_cons_zero, Act.put, List.setIfInBounds_toArray, List.set_cons_zero, List.set_cons_succ]
                  go_wp2_with fail
                  go_roundw
                  case rel => exact ⟨f2, q3, d, N + T, cy7, y7, _, by go_num, by omega, by omega, HF⟩
                  case measure => rw [HML.out]; have := mLen_le (count := count) (n := N + T) (cap := cy7) (a := y7) HF.out.2.1; first | omega | (simp only [Nat.cast_add] at *; omega)
                · go_simp
                  refine HBT.out.mono ?_
                  rintro e w3 ⟨v, d, q3, rfl, hv, h2, h3, h4⟩
                  have hvb : v < 128 := Nat.lt_of_lt_of_le hv (by decide)
                  obtain ⟨T, hT⟩ : ∃ T : Nat, T = 3 + v := ⟨_, rfl⟩
                  have hTi : (3 : Int) + (v : Int) = (T : Int) := by omega
                  have hTw : IntKind.i64.wrap ((3 : Int) + (v : Int)) = (T : Int) := by rw [hTi]; exact wrap_i64_nat T (by omega)
                  have hTb : T ≤ 138 := by omega
                  have hT1 : 1 ≤ T := by omega
                  have HW3 : Hid (OwnI w3 lb (.slice (some ⟨g, 0, none⟩) N cap) N kn ∧ Sx w3 R base s q3 l lim d vk ∧ InF R base w1 w3 ∧ lb ≤ w3.heap.size) := ⟨(InF.of_only (base := base) h3).ownI HW.out.1 HT.out.2.2.2.2.2.1, h2, (HW.out.2.2.1.drewN 1).trans (InF.of_only h3), Nat.le_trans HW.out.2.2.2 h3.below.size⟩
                  have HLN : Hid (LnAns ANS s zs count f2 q3 d (N + T) (kn ++ List.replicate T z)) := HY.out.2.1.next HY.out.2.2 hlt (by
                    rcases h4 with ⟨e1, e2, e3, e4⟩ | ⟨e1, e2⟩
                    · exact .inl ⟨e1, by rw [hT, e3]; exact by rw [HZ.out.1]; exact Nf.run_16 HY.out.1 HZ.out.2 e2, e4⟩
                    · exact .inr ⟨e1, Nf.run_16s HY.out.1 HZ.out.2 e2⟩)
                  have hlast3 : w3.cell? ⟨g, J, none⟩ = some (.int .i64 z) := (h3.cell g J hgl hgR).trans hlast
                  have hTw2 : IntKind.i64.wrap (T : Int) = (T : Int) := wrap_i64_nat T (by omega)
                  clear hv h2 h3 h4 HBT hT HW HY HZ
                  refine hK.out _ _ trivial (fun hHeld => ?_)
                  clear hK K
                  try simp only [List.getElem_toArray, List.getElem_cons_succ, List.getElem_cons_zero, Act.put, List.setIfInBounds_toArray, List.set_cons_zero, List.set_cons_succ]
                  refine wpAnyH_ready (rs := [6, 9]) (by kernel_rfl) (by simp) ?_
                  refine AllReadyH.cons rfl (fun K hK => ?_) (AllReadyH.cons rfl (fun K hK => ?_) AllReadyH.nil)
                  · go_simp
                    refine hK.out _ _ trivial (fun hHeld => ?_)
                    clear hK K
                    try simp only [List.getElem_toArray, List.getElem_cons_succ, List.getElem_cons_zero, Act.put, List.setIfInBounds_toArray, List.set_cons_zero, List.set_cons_succ]
                    refine wpAnyH_take (i := 9) (v := .int .i64 (T : Int)) rfl (by kernel_rfl) (by kernel_rfl) (by kernel_rfl) (fun _ _ _ h => h) (Or.inl ⟨by rfl, ?_⟩) hHeld ?_
                    · intro w' hSw
                      go_simp
                    try simp only [List.getElem_toArray, List.getElem_cons_succ, List.getElem_cons_zero, Act.put, List.setIfInBounds_toArray, List.set_cons_zero, List.set_cons_succ]
                    refine wpAnyH_ready (rs := [10]) (by kernel_rfl) (by simp) ?_
                    refine AllReadyH.cons rfl (fun K hK => ?_) AllReadyH.nil
                    go_simp
                    refine (HSA.out T _ (by omega)).mono ?_
                    rintro e w4 ⟨⟨a6, c6, rfl, hq6⟩, b5⟩
                    have HW4 : Hid (OwnI w4 lb (.slice (some ⟨g, 0, none⟩) N cap) N kn ∧ Sx w4 R base s q3 l lim d vk ∧ InF R base w1 w4 ∧ lb ≤ w4.heap.size ∧ Ints w4 a6 (List.replicate T z)) := ⟨(InF.of_below (R := R) (base := base) b5).ownI HW3.out.1 HT.out.2.2.2.2.2.1, HW3.out.2.1.kept b5, HW3.out.2.2.1.trans (InF.of_below b5), Nat.le_trans HW3.out.2.2.2 b5.size, hq6.intsOf⟩
                    clear hq6 b5 HW3
                    refine hK.out _ _ trivial (fun hHeld => ?_)
                    clear hK K
                    try simp only [List.getElem_toArray, List.getElem_cons_succ, List.getElem_cons_zero, Act.put, List.setIfInBounds_toArray, List.set_cons_zero, List.set_cons_succ]
                    refine wpAnyH_ready (rs := [11]) (by kernel_rfl) (by simp) ?_
                    refine AllReadyH.cons rfl (fun K hK => ?_) AllReadyH.nil
                    refine step_append_ints (by rfl) _ _ (by rfl) lb (.slice (some ⟨g, 0, none⟩) N cap) N kn (by rfl) HW4.out.1 a6 T c6 (List.replicate T z) (by rfl) HW4.out.2.2.2.2 (by simp) (by omega) HW4.out.2.2.2.1 ?_
                    intro y7 cy7 w7 hO7 hG7
                    have HF : Hid (LnInv w7 w1 R base lb s l lim vk zs count ANS f2 q3 d (N + T) cy7 y7 (kn ++ List.replicate T z)) := ⟨hO7, HW4.out.2.1.beside HW4.out.1 hG7.block, HW4.out.2.2.1.grown HW4.out.1 hG7 (by rw [HT.out.2.2.2.2.2.2.2]; exact Nat.le_refl _), HLN.out⟩
                    clear hO7 hG7 HW4 HLN
                    refine hK.out _ _ trivial (fun hHeld => ?_)
                    clear hK K
                    try simp only [List.getElem_toArray, List.getElem_cons_succ, List.getElem_cons_zero, Act.put, List.setIfInBounds_toArray, List.set_cons_zero, List.set_cons_succ]
                    refine wpAnyH_take (i := 12) (v := .slice y7 (N + T) cy7) rfl (by kernel_rfl) (by kernel_rfl) (by kernel_rfl) (fun _ _ _ h => h) (Or.inl ⟨by rfl, ?_⟩) hHeld ?_
                    · intro w' hSw
                      go_simp
                    try simp only [List.getElem_toArray, List.getElem_cons_succ, List.getElem_cons_zero, Act.put, List.setIfInBounds_toArray, List.set_cons_zero, List.set_cons_succ]
                    refine wpAnyH_done (by kernel_rfl) ?_ _
                    try simp only [List.getElem_toArray, List.getElem_cons_succ, List.getElem_cons_zero, Act.put, List.setIfInBounds_toArray, List.set_cons_zero, List.set_cons_succ]
                    go_wp2_with fail
                    go_roundw
                    case rel => exact ⟨f2, q3, d, N + T, cy7, y7, _, by go_num, by omega, by omega, HF⟩
                    case measure => rw [HML.out]; have := mLen_le (count := count) (n := N + T) (cap := cy7) (a := y7) HF.out.2.1; first | omega | (simp only [Nat.cast_add] at *; omega)
                  · go_simp
                    refine hK.out _ _ trivial (fun hHeld => ?_)
                    clear hK K
                    try simp only [List.getElem_toArray, List.getElem_cons_succ, List.getElem_cons_zero, Act.put, List.setIfInBounds_toArray, List.set_cons_zero, List.set_cons_succ]
                    refine wpAnyH_ready (rs := [6]) (by kernel_rfl) (by simp) ?_
                    refine AllReadyH.cons rfl (fun K hK => ?_) AllReadyH.nil
                    go_simp
                    refine hK.out _ _ trivial (fun hHeld => ?_)
                    clear hK K
                    try simp only [List.getElem_toArray, List.getElem_cons_succ, List.getElem_cons_zero, Act.put, List.setIfInBounds_toArray, List.set_cons_zero, List.set_cons_succ]
                    refine wpAnyH_ready (rs := [10]) (by kernel_rfl) (by simp) ?_
                    refine AllReadyH.cons rfl (fun K hK => ?_) AllReadyH.nil
                    go_simp
                    refine (HSA.out T _ (by omega)).mono ?_
                    rintro e w4 ⟨⟨a6, c6, rfl, hq6⟩, b5⟩
                    have HW4 : Hid (OwnI w4 lb (.slice (some ⟨g, 0, none⟩) N cap) N kn ∧ Sx w4 R base s q3 l lim d vk ∧ InF R base w1 w4 ∧ lb ≤ w4.heap.size ∧ Ints w4 a6 (List.replicate T z)) := ⟨(InF.of_below (R := R) (base := base) b5).ownI HW3.out.1 HT.out.2.2.2.2.2.1, HW3.out.2.1.kept b5, HW3.out.2.2.1.trans (InF.of_below b5), Nat.le_trans HW3.out.2.2.2 b5.size, hq6.intsOf⟩
                    clear hq6 b5 HW3
                    refine hK.out _ _ trivial (fun hHeld => ?_)
                    clear hK K
                    try simp only [List.getElem_toArray, List.getElem_cons_succ, List.getElem_cons_zero, Act.put, List.setIfInBounds_toArray, List.set_cons_zero, List.set_cons_succ]
                    refine wpAnyH_ready (rs := [11]) (by kernel_rfl) (by simp) ?_
                    refine AllReadyH.cons rfl (fun K hK => ?_) AllReadyH.nil
                    refine step_append_ints (by rfl) _ _ (by rfl) lb (.slice (some ⟨g, 0, none⟩) N cap) N kn (by rfl) HW4.out.1 a6 T c6 (List.replicate T z) (by rfl) HW4.out.2.2.2.2 (by simp) (by omega) HW4.out.2.2.2.1 ?_
                    intro y7 cy7 w7 hO7 hG7
                    have HF : Hid (LnInv w7 w1 R base lb s l lim vk zs count ANS f2 q3 d (N + T) cy7 y7 (kn ++ List.replicate T z)) := ⟨hO7, HW4.out.2.1.beside HW4.out.1 hG7.block, HW4.out.2.2.1.grown HW4.out.1 hG7 (by rw [HT.out.2.2.2.2.2.2.2]; exact Nat.le_refl _), HLN.out⟩
                    clear hO7 hG7 HW4 HLN
                    refine hK.out _ _ trivial (fun hHeld => ?_)
                    clear hK K
                    try simp only [List.getElem_toArray, List.getElem_cons_succ, List.getElem_cons_zero, Act.put, List.setIfInBounds_toArray, List.set_cons_zero, List.set_cons_succ]
                    refine wpAnyH_take (i := 12) (v := .slice y7 (N + T) cy7) rfl (by kernel_rfl) (by kernel_rfl) (by kernel_rfl) (fun _ _ _ h => h) (Or.inl ⟨by rfl, ?_⟩) hHeld ?_
                    · intro w' hSw
                      go_simp
                    try simp only [List.getElem_toArray, List.getElem_cons_succ, List.getElem_cons_zero, Act.put, List.setIfInBounds_toArray, List.set_cons_zero, List.set_cons_succ]
                    refine wpAnyH_done (by kernel_rfl) ?_ _
                    try simp only [List.getElem_toArray, List.getElem_cons_succ, List.getElem_cons_zero, Act.put, List.setIfInBounds_toArray, List.set_cons_zero, List.set_cons_succ]
                    go_wp2_with fail
                    go_roundw
                    case rel => exact ⟨f2, q3, d, N + T, cy7, y7, _, by go_num, by omega, by omega, HF⟩
                    case measure => rw [HML.out]; have := mLen_le (count := count) (n := N + T) (cap := cy7) (a := y7) HF.out.2.1; first | omega | (simp only [Nat.cast_add] at *; omega)
              · have hN0i : N = 0 := by omega
                subst hN0i
                have HFL : Hid (Calls Tryz.prog 81 #[.pointer (some ⟨R, 0, none⟩), .int .i64 1] w2 fun e w' => e = .returned (.tuple #[]) ∧ Sx w' R base s q1 l lim 1 vk ∧ Only R w2 w') := sxFail_new R base q1 lim 1 l vk s w2 HW.out.2.1
                have HE : Hid (ANS = .error 1) := HY.out.2.1.stop HY.out.2.2 hlt (Nf.run_16n HY.out.1 HY.out.2.2)
                go_wp2_with fail
                refine HFL.out.mono ?_
                rintro e w3 ⟨rfl, h2, h3⟩
                have HF : Hid (LnInv w3 w1 R base lb s l lim vk zs count ANS (f2 + 1) q1 1 0 cap ao kn) := ⟨(InF.of_only (base := base) h3).ownI HW.out.1 HT.out.2.2.2.2.2.1, h2, HW.out.2.2.1.trans (InF.of_only h3), .inr ⟨by decide, HE.out⟩⟩
                clear h2 h3 HFL HE HW HY
                go_wp2_with fail
                go_roundw
                case rel => exact ⟨f2 + 1, q1, 1, 0, cap, ao, _, rfl, by omega, by omega, HF⟩
                case measure => rw [HML.out, mLen_no HF.out.2.1 (by decide)]; omega
            · have h16i : ¬ (y : Int) = 16 := by omega
              by_cases h17 : y = 17
              · subst h17
                have HBT : Hid (Calls Tryz.prog 77 #[.pointer (some ⟨R, 0, none⟩), .int .i64 3] w2 (SBitsU w2 R base s q1 3 l lim vk)) := sxBits_u R base q1 3 lim l vk s w2 HW.out.2.1 hs hq2 (by omega)
                go_wp2_with fail
                refine HBT.out.mono ?_
                rintro e w3 ⟨v, d, q3, rfl, hv, h2, h3, h4⟩
                have hvb : v < 128 := Nat.lt_of_lt_of_le hv (by decide)
                obtain ⟨T, hT⟩ : ∃ T : Nat, T = 3 + v := ⟨_, rfl⟩
                have hTi : (3 : Int) + (v : Int) = (T : Int) := by omega
                have hTw : IntKind.i64.wrap ((3 : Int) + (v : Int)) = (T : Int) := by rw [hTi]; exact wrap_i64_nat T (by omega)
                have hTb : T ≤ 138 := by omega
                have hT1 : 1 ≤ T := by omega
                have HW3 : Hid (OwnI w3 lb (.slice ao N cap) N kn ∧ Sx w3 R base s q3 l lim d vk ∧ InF R base w1 w3 ∧ lb ≤ w3.heap.size) := ⟨(InF.of_only (base := base) h3).ownI HW.out.1 HT.out.2.2.2.2.2.1, h2, (HW.out.2.2.1).trans (InF.of_only h3), Nat.le_trans HW.out.2.2.2 h3.below.size⟩
                have HLN : Hid (LnAns ANS s zs count f2 q3 d (N + T) (kn ++ List.replicate T 0)) := HY.out.2.1.next HY.out.2.2 hlt (by
                  rcases h4 with ⟨e1, e2, e3, e4⟩ | ⟨e1, e2⟩
                  · exact .inl ⟨e1, by rw [hT, e3]; exact Nf.run_17 HY.out.1 e2, e4⟩
                  · exact .inr ⟨e1, Nf.run_17s HY.out.1 e2⟩)
                have HSA : Hid (Calls Tryz.prog 75 #[.int .i64 0, .int .i64 (T : Int)] w3 fun e w' => (∃ a c, e = .returned (.slice a T c) ∧ OwnI w' w3.heap.size (.slice a T c) T (List.replicate T 0)) ∧ Below w3.heap.size w3 w') := l4Same_any 0 T (by omega) w3
                clear hv h2 h3 h4 HBT hT HW HY
                go_wp2_with fail
                refine HSA.out.mono ?_
                rintro e w4 ⟨⟨a6, c6, rfl, hq6⟩, b5⟩
                have HW4 : Hid (OwnI w4 lb (.slice ao N cap) N kn ∧ Sx w4 R base s q3 l lim d vk ∧ InF R base w1 w4 ∧ lb ≤ w4.heap.size ∧ Ints w4 a6 (List.replicate T 0)) := ⟨(InF.of_below (R := R) (base := base) b5).ownI HW3.out.1 HT.out.2.2.2.2.2.1, HW3.out.2.1.kept b5, HW3.out.2.2.1.trans (InF.of_below b5), Nat.le_trans HW3.out.2.2.2 b5.size, hq6.intsOf⟩
                clear hq6 b5 HW3
                clear HSA
                go_wp2_with (at_builtin; refine wpList_append_ints (by rfl) _ _ (by rfl) lb (.slice ao N cap) N kn (by rfl) HW4.out.1 a6 T c6 (List.replicate T 0) (by rfl) HW4.out.2.2.2.2 (by simp) (by omega) HW4.out.2.2.2.1 ?_)
                intro y7 cy7 w7 hO7 hG7
                have HF : Hid (LnInv w7 w1 R base lb s l lim vk zs count ANS f2 q3 d (N + T) cy7 y7 (kn ++ List.replicate T 0)) := ⟨hO7, HW4.out.2.1.beside HW4.out.1 hG7.block, HW4.out.2.2.1.grown HW4.out.1 hG7 (by rw [HT.out.2.2.2.2.2.2.2]; exact Nat.le_refl _), HLN.out⟩
                clear hO7 hG7 HW4 HLN
                go_wp2_with fail
                go_roundw
                case rel => exact ⟨f2, q3, d, N + T, cy7, y7, _, by go_num, by omega, by omega, HF⟩
                case measure => rw [HML.out]; have := mLen_le (count := count) (n := N + T) (cap := cy7) (a := y7) HF.out.2.1; first | omega | (simp only [Nat.cast_add] at *; omega)
              · have h17i : ¬ (y : Int) = 17 := by omega
                have h18 : y = 18 := by omega
                subst h18
                have HBT : Hid (Calls Tryz.prog 77 #[.pointer (some ⟨R, 0, none⟩), .int .i64 7] w2 (SBitsU w2 R base s q1 7 l lim vk)) := sxBits_u R base q1 7 lim l vk s w2 HW.out.2.1 hs hq2 (by omega)
                go_wp2_with fail
                refine HBT.out.mono ?_
                rintro e w3 ⟨v, d, q3, rfl, hv, h2, h3, h4⟩
                have hvb : v < 128 := Nat.lt_of_lt_of_le hv (by decide)
                obtain ⟨T, hT⟩ : ∃ T : Nat, T = 11 + v := ⟨_, rfl⟩
                have hTi : (11 : Int) + (v : Int) = (T : Int) := by omega
                have hTw : IntKind.i64.wrap ((11 : Int) + (v : Int)) = (T : Int) := by rw [hTi]; exact wrap_i64_nat T (by omega)
                have hTb : T ≤ 138 := by omega
                have hT1 : 1 ≤ T := by omega
                have HW3 : Hid (OwnI w3 lb (.slice ao N cap) N kn ∧ Sx w3 R base s q3 l lim d vk ∧ InF R base w1 w3 ∧ lb ≤ w3.heap.size) := ⟨(InF.of_only (base := base) h3).ownI HW.out.1 HT.out.2.2.2.2.2.1, h2, (HW.out.2.2.1).trans (InF.of_only h3), Nat.le_trans HW.out.2.2.2 h3.below.size⟩
                have HLN : Hid (LnAns ANS s zs count f2 q3 d (N + T) (kn ++ List.replicate T 0)) := HY.out.2.1.next HY.out.2.2 hlt (by
                  rcases h4 with ⟨e1, e2, e3, e4⟩ | ⟨e1, e2⟩
                  · exact .inl ⟨e1, by rw [hT, e3]; exact Nf.run_18 HY.out.1 e2, e4⟩
                  · exact .inr ⟨e1, Nf.run_18s HY.out.1 e2⟩)
                have HSA : Hid (Calls Tryz.prog 75 #[.int .i64 0, .int .i64 (T : Int)] w3 fun e w' => (∃ a c, e = .returned (.slice a T c) ∧ OwnI w' w3.heap.size (.slice a T c) T (List.replicate T 0)) ∧ Below w3.heap.size w3 w') := l4Same_any 0 T (by omega) w3
                clear hv h2 h3 h4 HBT hT HW HY
                go_wp2_with fail
                refine HSA.out.mono ?_
                rintro e w4 ⟨⟨a6, c6, rfl, hq6⟩, b5⟩
                have HW4 : Hid (OwnI w4 lb (.slice ao N cap) N kn ∧ Sx w4 R base s q3 l lim d vk ∧ InF R base w1 w4 ∧ lb ≤ w4.heap.size ∧ Ints w4 a6 (List.replicate T 0)) := ⟨(InF.of_below (R := R) (base := base) b5).ownI HW3.out.1 HT.out.2.2.2.2.2.1, HW3.out.2.1.kept b5, HW3.out.2.2.1.trans (InF.of_below b5), Nat.le_trans HW3.out.2.2.2 b5.size, hq6.intsOf⟩
                clear hq6 b5 HW3
                clear HSA
                go_wp2_with (at_builtin; refine wpList_append_ints (by rfl) _ _ (by rfl) lb (.slice ao N cap) N kn (by rfl) HW4.out.1 a6 T c6 (List.replicate T 0) (by rfl) HW4.out.2.2.2.2 (by simp) (by omega) HW4.out.2.2.2.1 ?_)
                intro y7 cy7 w7 hO7 hG7
                have HF : Hid (LnInv w7 w1 R base lb s l lim vk zs count ANS f2 q3 d (N + T) cy7 y7 (kn ++ List.replicate T 0)) := ⟨hO7, HW4.out.2.1.beside HW4.out.1 hG7.block, HW4.out.2.2.1.grown HW4.out.1 hG7 (by rw [HT.out.2.2.2.2.2.2.2]; exact Nat.le_refl _), HLN.out⟩
                clear hO7 hG7 HW4 HLN
                go_wp2_with fail
                go_roundw
                case rel => exact ⟨f2, q3, d, N + T, cy7, y7, _, by go_num, by omega, by omega, HF⟩
                case measure => rw [HML.out]; have := mLen_le (count := count) (n := N + T) (cap := cy7) (a := y7) HF.out.2.1; first | omega | (simp only [Nat.cast_add] at *; omega)
        · have HF : Hid (SLens w R base s l lim vk count ANS (.returned (.slice ao N cap)) w2) := .inr ⟨c, q, HX.out.2.2.2.stop HX.out.1.len hlt (Nf.run_no hc'), hc0, ⟨_, rfl⟩, h2, (InF.of_below HT.out.2.2.2.2.1).trans (HX.out.2.2.1.trans (InF.of_only h3))⟩
          clear hc' h2 h3 HSY c4 HX
          go_wp2_with fail
          go_ret
          exact HF.out
      · have hdi : ¬ (d : Int) = 0 := by omega
        have hni : ¬ (N : Int) > (count : Int) := by omega
        have HF : Hid (SLens w R base s l lim vk count ANS (.returned (.slice ao N cap)) wr) := by
          rcases HX.out.2.2.2 with ⟨e, _⟩ | ⟨e1, e2⟩
          · exact absurd e hd
          · exact .inr ⟨d, q, e2, e1, ⟨_, rfl⟩, HX.out.2.1, (InF.of_below HT.out.2.2.2.2.1).trans HX.out.2.2.1⟩
        clear HX
        go_wp2_with fail
        go_ret
        exact HF.out
    · have hlti : ¬ (N : Int) < (count : Int) := by omega
      by_cases hgt : count < N
      · have hgti : (N : Int) > (count : Int) := by omega
        by_cases hd : d = 0
        · subst hd
          have HFL : Hid (Calls Tryz.prog 81 #[.pointer (some ⟨R, 0, none⟩), .int .i64 1] wr fun e w' => e = .returned (.tuple #[]) ∧ Sx w' R base s q l lim 1 vk ∧ Only R wr w') := sxFail_new R base q lim 1 l vk s wr HX.out.2.1
          have HE : Hid (ANS = .error 1) := by
            rcases HX.out.2.2.2 with ⟨_, _, _, e⟩ | ⟨e, _⟩
            · exact e hgt
            · exact absurd rfl e
          have HI : Hid (InF R base w wr) := (InF.of_below HT.out.2.2.2.2.1).trans HX.out.2.2.1
          clear HX c4
          go_wp2_with fail
          refine HFL.out.mono ?_
          rintro e w2 ⟨rfl, h2, h3⟩
          have HF : Hid (SLens w R base s l lim vk count ANS (.returned (.slice ao N cap)) w2) := .inr ⟨1, q, HE.out, by decide, ⟨_, rfl⟩, h2, HI.out.trans (InF.of_only h3)⟩
          clear h2 h3 HFL HE HI
          go_wp2_with fail
          go_ret
          exact HF.out
        · have HFL : Hid (Calls Tryz.prog 81 #[.pointer (some ⟨R, 0, none⟩), .int .i64 1] wr fun e w' => e = .returned (.tuple #[]) ∧ w' = wr) := sxFail_old R base q lim d 1 l vk s wr HX.out.2.1 hd
          have HF : Hid (SLens w R base s l lim vk count ANS (.returned (.slice ao N cap)) wr) := by
            rcases HX.out.2.2.2 with ⟨e, _⟩ | ⟨e1, e2⟩
            · exact absurd e hd
            · exact .inr ⟨d, q, e2, e1, ⟨_, rfl⟩, HX.out.2.1, (InF.of_below HT.out.2.2.2.2.1).trans HX.out.2.2.1⟩
          clear HX c4
          go_wp2_with fail
          refine HFL.out.mono ?_
          rintro e w2 ⟨rfl, hw2⟩
          replace hw2 := hw2.symm
          subst hw2
          go_wp2_with fail
          go_ret
          exact HF.out
      · have hgti : ¬ (N : Int) > (count : Int) := by omega
        have hNc : N = count := by omega
        have HF : Hid (SLens w R base s l lim vk count ANS (.returned (.slice ao N cap)) wr) := by
          rcases HX.out.2.2.2 with ⟨e, e2, e3, _⟩ | ⟨e1, e2⟩
          · subst e
            obtain ⟨f2, rfl⟩ : ∃ f2, f = f2 + 1 := ⟨f - 1, by omega⟩
            have hkl := HX.out.1.len
            have ho : OwnI wr w.heap.size (.slice ao N cap) N kn := by
              refine ⟨HX.out.1.1, ?_⟩
              rcases HX.out.1.2 with g | ⟨g, c1, cur, g1, g2, g3⟩
              · exact .inl g
              · exact .inr ⟨g, c1, cur, g1, Nat.le_trans HT.out.2.2.2.2.2.2.1 g2, g3⟩
            rw [← hNc]
            exact .inl ⟨kn, q, ao, cap, by rw [e3 (by omega), Nf.lens_done (by rw [hkl]; omega)], rfl, ho, HX.out.2.1, (InF.of_below HT.out.2.2.2.2.1).trans HX.out.2.2.1, e2⟩
          · exact .inr ⟨d, q, e2, e1, ⟨_, rfl⟩, HX.out.2.1, (InF.of_below HT.out.2.2.2.2.1).trans HX.out.2.2.1⟩
        clear HX c4 hNc
        go_wp2_with fail
        go_ret
        exact HF.out
end Go.Proofs.YtejebodgfoihkabGreat
