/- The program makes the tree of a code, and goes down in it. -/
import Derived.Test.YtjdilanmkgodnaaGtPlant
import Derived.Test.YtjdilanmkgodnaaMakeWalks
import Derived.Test.YtjdilanmkgodnaaBgTop
import Derived.Test.YtjdilanmkgodnaaCpMath
namespace Go.Proofs.Ytjdilanmkgodnaa
open Go.RowKit

/-- a code that is ok -/
structure GoodC (zs : List Int) : Prop where
  ok : Cd.okB zs = true
  len : zs.length ≤ 300
  le : ∀ i, i < zs.length → 0 ≤ zs.getD i 0 ∧ zs.getD i 0 ≤ 15
  num : ∀ i, i < zs.length → 0 ≤ (Mk.mk zs).getD i 0
  taken : Cd.taken zs ≤ 32768
theorem goodC {zs : List Int} (h : Cd.okB zs = true) : GoodC zs := by
  have h' := h
  unfold Cd.okB at h'
  simp only [Bool.and_eq_true, decide_eq_true_eq] at h'
  have hl := h'.1
  refine ⟨h, hl, fun i hi => ?_, fun i hi => ?_, h'.2.2⟩
  · obtain ⟨_, S, _, h2, _, h4⟩ := Cp.parts h i hi
    rw [h2]; omega
  · obtain ⟨V, _, h1, _, _, _⟩ := Cp.parts h i hi
    rw [h1]; omega

/-- how numberTree ends -/
def Treed (w : World) (zs : List Int) (e : Ending) (w' : World) : Prop :=
  e = .returned (.pointer (some ⟨w.heap.size, 0, none⟩)) ∧ (∃ N, Tri w' w.heap.size N (Gt.S zs zs.length) ∧ N 0 0 = some w.heap.size) ∧ Below w.heap.size w w'

/-- on the way -/
def TrI (w : World) (zs : List Int) (cb k : Nat) (wr : World) : Prop :=
  (∃ N, Tri wr w.heap.size N (Gt.S zs k) ∧ N 0 0 = some w.heap.size ∧ ∀ d v, N d v ≠ some cb) ∧ Below w.heap.size w wr ∧ cb < wr.heap.size

set_option maxHeartbeats 2000000 in
set_option maxRecDepth 20000 in
theorem numberTree_any (a : Option Addr) (cap n : Nat) (zs : List Int) (w : World) (h : Ints w a zs) (hn : zs.length = n) (hg : GoodC zs) :
    Calls Try.prog 40 #[.slice a n cap] w (Treed w zs) := by
  have hl := hg.len
  have HG : Hid (GoodC zs) := hg
  have HN : Hid (zs.length = n) := hn
  have HI : Hid (Ints w a zs) := h
  obtain ⟨W1, hW1⟩ : ∃ W1, W1 = w.alloc (.cells #[.int .i64 (-1), .pointer none, .pointer none, .int .i64 0, .int .i64 0] 79) := ⟨_, rfl⟩
  have hW1' : w.alloc (.cells #[.int .i64 (-1), .pointer none, .pointer none, .int .i64 0, .int .i64 0] 79) = W1 := hW1.symm
  have HT1 : Hid (Tri W1 w.heap.size (fun d v => if d = 0 ∧ v = 0 then some w.heap.size else none) (fun _ _ => -1)) := by rw [hW1]; exact tri_new w
  have HB1 : Hid (Below w.heap.size w W1) := by rw [hW1]; exact (Below.refl _ _).alloc (Nat.le_refl _) _
  have hz1 : w.heap.size < W1.heap.size := by rw [hW1]; simp
  have HC : Hid (Calls Try.prog 9 #[.slice a n cap] W1 fun e w' => (∃ x c, e = .returned (.slice x n c) ∧ Owns w' W1.heap.size x (Mk.mk zs)) ∧ Below W1.heap.size W1 w') := by
    have := impl_codeMake a cap n zs W1 (h.kept HB1.out) hn (by omega)
    rw [mkB_yes hg.ok, Mk.mk_len, hn] at this
    exact this
  clear h hn hg hW1
  go_enter Try.func40, Try.ntmps40
  go_wp2_with fail
  refine HC.out.mono ?_
  rintro e w2 ⟨⟨x, c, rfl, hO⟩, b2⟩
  have HO : Hid (Owns w2 W1.heap.size x (Mk.mk zs)) := hO
  have HT2 : Hid (Tri w2 w.heap.size (fun d v => if d = 0 ∧ v = 0 then some w.heap.size else none) (fun _ _ => -1)) := HT1.out.same (fun k hk _ => b2.block k hk)
  have HB2 : Hid (Below w.heap.size w w2) := HB1.out.trans (b2.mono (Nat.le_of_lt hz1))
  have hz2 : w.heap.size < w2.heap.size := Nat.lt_of_lt_of_le hz1 b2.size
  obtain ⟨cb, hcb, hx, hcells⟩ : ∃ cb, (w.heap.size < cb ∧ cb < w2.heap.size ∨ n = 0 ∧ cb = w2.heap.size) ∧ (0 < n → x = some ⟨cb, 0, none⟩) ∧ ∀ i (hi : i < (Mk.mk zs).length), w2.cell? ⟨cb, i, none⟩ = some (.int .i64 (Mk.mk zs)[i]) := by
    rcases hO with e | ⟨b, e1, e2, e3, e4⟩
    · have h0 : n = 0 := by rw [← HN.out, ← Mk.mk_len zs, e]; rfl
      exact ⟨w2.heap.size, .inr ⟨h0, rfl⟩, fun q => by omega, fun i hi => by rw [e] at hi; simp at hi⟩
    · exact ⟨b, .inl ⟨by omega, e3⟩, fun _ => e1, fun i hi => (e4 i hi).1⟩
  have HCL : Hid (∀ i (hi : i < (Mk.mk zs).length), w2.cell? ⟨cb, i, none⟩ = some (.int .i64 (Mk.mk zs)[i])) := hcells
  clear hO b2 HT1 HB1 HC hW1' hcells hz1 HO
  go_wp2_with fail
  go_loopw [11] (fun i wr => ∃ k : Nat, k ≤ n ∧ i = .int .i64 (k : Int) ∧ Hid ((∃ N, Tri wr w.heap.size N (Gt.S zs k) ∧ N 0 0 = some w.heap.size ∧ ∀ d v, N d v ≠ some cb) ∧ Below w.heap.size w wr ∧ wr.heap[cb]? = w2.heap[cb]? ∧ w2.heap.size ≤ wr.heap.size)) (fun i _ => n - (intOf i).toNat)
  case atStart =>
    refine ⟨0, Nat.zero_le _, rfl, ⟨_, HT2.out, by simp, fun d v => ?_⟩, HB2.out, rfl, Nat.le_refl _⟩
    split
    · intro e; cases e; omega
    · intro e; cases e
  case round =>
    obtain ⟨k, hk, rfl, HP⟩ := hrel
    clear HT2 HB2
    by_cases hlt : k < n
    · have hki : (k : Int) < (n : Int) := by omega
      have hkl : k < zs.length := by rw [HN.out]; exact hlt
      obtain rfl := hx (by omega)
      have hcb2 : cb < w2.heap.size := by omega
      have hkm : k < (Mk.mk zs).length := by rw [Mk.mk_len]; exact hkl
      obtain ⟨V, L, hV, hL, _, hL15⟩ := Cp.parts HG.out.ok k hkl
      have hcc : wr.cell? ⟨cb, k, none⟩ = some (.int .i64 (V : Int)) := by
        rw [World.cell?_of_block (w := w2) (a := ⟨cb, k, none⟩) HP.out.2.2.1, HCL.out k hkm]
        rw [List.getD_eq_getElem?_getD, List.getElem?_eq_getElem hkm] at hV
        rw [← hV]; rfl
      obtain ⟨ab, ao, rfl, hab, hac⟩ : ∃ ab ao, a = some ⟨ab, ao, none⟩ ∧ ab < w.heap.size ∧ w.cell? ⟨ab, ao + k, none⟩ = some (.int .i64 (L : Int)) := by
        rcases HI.out with e | ⟨b, off, e1, e2, e3⟩
        · rw [e] at hkl; simp at hkl
        · refine ⟨b, off, e1, e2, ?_⟩
          rw [e3 k hkl]
          rw [List.getD_eq_getElem?_getD, List.getElem?_eq_getElem hkl] at hL
          rw [← hL]; rfl
      have hac2 : wr.cell? ⟨ab, ao + k, none⟩ = some (.int .i64 (L : Int)) := (HP.out.2.1.cell (p := ⟨ab, ao + k, none⟩) hab).trans hac
      obtain ⟨⟨N, hT, hN0, hNc⟩, hbel, hsame, hsz⟩ := HP.out
      by_cases hpos : 0 < L
      · have hpi : (0 : Int) < (L : Int) := by omega
        have hS : Mk.Sym zs k L V := ⟨hkl, hL, hpos, hL15, hV⟩
        have HPL : Hid (Calls Try.prog 57 #[.pointer (some ⟨w.heap.size, 0, none⟩), .int .i64 (k : Int), .int .i64 (V : Int), .int .i64 (L : Int)] wr (Planted wr w.heap.size w.heap.size N (Gt.S zs k) L V (k : Int))) := plant_any w.heap.size w.heap.size V L (k : Int) N (Gt.S zs k) wr hT hN0 hL15 (hS.bits HG.out.taken)
        have HSS : Hid (Gt.upd (Gt.S zs k) L V (k : Int) = Gt.S zs (k + 1)) := by
          show _ = _
          conv => rhs; unfold Gt.S
          rw [hL, if_pos (by omega), hV, Int.toNat_natCast, Int.toNat_natCast]
        have HNC : Hid (∀ d v, N d v ≠ some cb) := hNc
        have HBL : Hid (Below w.heap.size w wr) := hbel
        have HSM : Hid (wr.heap[cb]? = w2.heap[cb]?) := hsame
        clear hT hN0 hNc hbel hsame HP hac hS hV hL
        go_wp2_with fail
        refine HPL.out.mono ?_
        rintro e w3 ⟨rfl, ⟨N', hT', hN0', hN'⟩, hb3, hfr⟩
        have H3 : Hid ((∃ N, Tri w3 w.heap.size N (Gt.S zs (k + 1)) ∧ N 0 0 = some w.heap.size ∧ ∀ d v, N d v ≠ some cb) ∧ Below w.heap.size w w3 ∧ w3.heap[cb]? = w2.heap[cb]? ∧ w2.heap.size ≤ w3.heap.size) := by
          refine ⟨⟨N', by rw [← HSS.out]; exact hT', hN0', fun d v e => ?_⟩, HBL.out.trans hb3, (hfr cb (by omega) HNC.out).trans HSM.out, Nat.le_trans hsz hb3.size⟩
          rcases hN' d v cb e with h1 | h1
          · exact HNC.out d v h1
          · omega
        clear hT' hN0' hN' hb3 hfr HPL HBL HSM HNC HSS hcc hac2
        go_wp2_with fail
        go_roundw
        case rel => exact ⟨k + 1, by omega, by go_num, H3⟩
        case measure => simp [intOf]; omega
      · have hpi : ¬ (0 : Int) < (L : Int) := by omega
        have HSS : Hid (Gt.S zs k = Gt.S zs (k + 1)) := by
          show _ = _
          conv => rhs; unfold Gt.S
          rw [hL, if_neg (by omega)]
        have H3 : Hid ((∃ N, Tri wr w.heap.size N (Gt.S zs (k + 1)) ∧ N 0 0 = some w.heap.size ∧ ∀ d v, N d v ≠ some cb) ∧ Below w.heap.size w wr ∧ wr.heap[cb]? = w2.heap[cb]? ∧ w2.heap.size ≤ wr.heap.size) := by
          refine ⟨⟨N, by rw [← HSS.out]; exact hT, hN0, hNc⟩, hbel, hsame, hsz⟩
        clear hT hN0 hNc hbel hsame HP hac hV hL
        go_wp2_with fail
        go_roundw
        case rel => exact ⟨k + 1, by omega, by go_num, H3⟩
        case measure => simp [intOf]; omega
    · have hki : ¬ (k : Int) < (n : Int) := by omega
      obtain rfl : k = n := by omega
      have HF : Hid (Treed w zs (.returned (.pointer (some ⟨w.heap.size, 0, none⟩))) wr) := by
        obtain ⟨⟨N, hT, hN0, _⟩, hbel, _, _⟩ := HP.out
        exact ⟨rfl, ⟨N, by rw [HN.out]; exact hT, hN0⟩, hbel⟩
      clear HP
      go_wp2_with fail
      go_ret
      exact HF.out
end Go.Proofs.Ytjdilanmkgodnaa
