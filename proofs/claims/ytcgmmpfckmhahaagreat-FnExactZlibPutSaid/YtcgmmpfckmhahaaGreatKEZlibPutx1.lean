/- Texts laid together: DfSignS, TyIter, TySpec, BpMove, BpImplTop, TyColl. -/
import Derived.Test.YtcgmmpfckmhahaaGreatVEZlibPutDfRuleS
import Derived.Test.YtcgmmpfckmhahaaGreatVEZlibPutTyTok2
import Derived.Test.YtcgmmpfckmhahaaGreatVEZlibPutTkSpec
import Derived.Test.YtcgmmpfckmhahaaGreatKEZlibPutx0
import Derived.Test.YtcgmmpfckmhahaaGreatVEZlibPutBpNextL
import Derived.Test.YtcgmmpfckmhahaaGreatVEZlibPutBpNextH
import Derived.Maps.AppendAt
/- The symbol of a size and of a distance, and its further bits: the specification's. -/
namespace Go.Proofs.YtcgmmpfckmhahaaGreat
open Go.RowKit

def SzIs (x : Nat) (w : World) (e : Ending) (w' : World) : Prop := e = .returned (.tuple #[.int .i64 ((257 + Df.szSym x : Nat) : Int), .agg #[.int .i64 (Df.szBit x).1, .int .i64 (Df.szBit x).2]]) ∧ Below w.heap.size w w'
def DsIs (x : Nat) (w : World) (e : Ending) (w' : World) : Prop := e = .returned (.tuple #[.int .i64 ((Df.dsSym x : Nat) : Int), .agg #[.int .i64 (Df.dsBit x).1, .int .i64 (Df.dsBit x).2]]) ∧ Below w.heap.size w w'
theorem szIs_mk {x k L M : Nat} (w : World) (o : Obj) (hd : Df.szSym x = k) (hL : (Df.szN k).1 = L) (hM : (Df.szN k).2 = M) : SzIs x w (.returned (.tuple #[.int .i64 ((257 + k : Nat) : Int), .agg #[.int .i64 ((x - L : Nat) : Int), .int .i64 (M : Int)]])) (w.alloc o) := by
  subst hd hL hM
  exact ⟨rfl, (Below.refl _ _).alloc (Nat.le_refl _) _⟩
theorem dsIs_mk {x k L M : Nat} (w : World) (o : Obj) (hd : Df.dsSym x = k) (hL : (Df.dsN k).1 = L) (hM : (Df.dsN k).2 = M) : DsIs x w (.returned (.tuple #[.int .i64 (k : Int), .agg #[.int .i64 ((x - L : Nat) : Int), .int .i64 (M : Int)]])) (w.alloc o) := by
  subst hd hL hM
  exact ⟨rfl, (Below.refl _ _).alloc (Nat.le_refl _) _⟩

set_option maxHeartbeats 2000000 in
theorem l5Size_any (x : Nat) (h3 : 3 ≤ x) (hx : x ≤ 258) (w : World) :
    Calls Tryz.prog 34 #[.int .i64 (x : Int)] w (SzIs x w) := by
  go_enter Tryz.func34, Tryz.ntmps34
  go_wp2_with fail
  go_loopw [4] (fun i wr => ∃ (k S : Nat), k < 29 ∧ S = 257 + k ∧ i = .int .i64 (S : Int) ∧ Hid (Df.szSym x = Df.down (fun k => (Df.szN k).1) x k) ∧ wr = w.alloc (.cells #[.int .i64 0, .int .i64 0] 32)) (fun i _ => (intOf i).toNat)
  case atStart => exact ⟨28, 285, by omega, rfl, rfl, rfl, rfl⟩
  case round =>
    obtain ⟨k, S, hk, hS, rfl, HD, hw⟩ := hrel
    subst hw
    have HS : Hid (S = 257 + k) := hS
    have hS1 : 257 ≤ S := by omega
    have hS2 : S ≤ 285 := by omega
    have hSi : (257 : Int) ≤ (S : Int) := by omega
    have HC : Hid (Calls Tryz.prog 61 #[.int .i64 (S : Int)] (w.alloc (.cells #[.int .i64 0, .int .i64 0] 32)) fun e w' => e = .returned (.tuple #[.int .i64 (((Df.szN k).1 : Nat) : Int), .int .i64 (((Df.szN k).2 : Nat) : Int)]) ∧ w' = w.alloc (.cells #[.int .i64 0, .int .i64 0] 32)) := by rw [hS]; exact l4Size_any k hk _
    obtain ⟨hb1, hb2, hb3⟩ := Df.szN_all k hk
    obtain ⟨L, hL⟩ : ∃ L, (Df.szN k).1 = L := ⟨_, rfl⟩
    obtain ⟨M, hM⟩ : ∃ M, (Df.szN k).2 = M := ⟨_, rfl⟩
    have HL : Hid ((Df.szN k).1 = L ∧ (Df.szN k).2 = M) := ⟨hL, hM⟩
    rw [hL, hM] at HC
    rw [hL] at hb1 hb2
    rw [hM] at hb3
    clear hL hM hS
    go_wp2_with fail
    refine HC.out.mono ?_
    rintro e w2 ⟨rfl, hw2⟩
    subst hw2
    clear HC
    by_cases hge : L ≤ x
    · have hgi : decide ((x : Int) ≥ (L : Int)) = true := by simp; omega
      have hsub : (x : Int) - (L : Int) = ((x - L : Nat) : Int) := by omega
      have HF : Hid (SzIs x w (.returned (.tuple #[.int .i64 (S : Int), .agg #[.int .i64 ((x - L : Nat) : Int), .int .i64 (M : Int)]])) (w.alloc (.cells #[.int .i64 ((x - L : Nat) : Int), .int .i64 (M : Int)] 32))) := by
        rw [HS.out]
        exact szIs_mk w _ (by rw [HD.out]; exact Df.down_yes (f := fun k => (Df.szN k).1) (by show (Df.szN k).1 ≤ x; rw [HL.out.1]; exact hge)) HL.out.1 HL.out.2
      clear HL HD HS
      obtain ⟨V, hV⟩ : ∃ V, x - L = V := ⟨_, rfl⟩
      rw [hV] at hsub HF
      have hVb : V ≤ 258 := by omega
      clear hV
      go_wp2_with fail
      exact bodyPost_ret (v := .tuple #[.int .i64 (S : Int), .agg #[.int .i64 (V : Int), .int .i64 (M : Int)]]) (by simp [results, Tryz.results34, go_sem]) rfl HF.out
    · have hgi : decide ((x : Int) ≥ (L : Int)) = false := by simp; omega
      have hk0 : k ≠ 0 := fun h0 => by
        have := HL.out.1
        rw [h0] at this
        have h9 : (Df.szN 0).1 = 3 := by decide
        omega
      have HD2 : Hid (Df.szSym x = Df.down (fun k => (Df.szN k).1) x (k - 1)) := by
        obtain ⟨j, rfl⟩ : ∃ j, k = j + 1 := ⟨k - 1, by omega⟩
        show _ = _
        rw [HD.out, Df.down_no (f := fun k => (Df.szN k).1) (by show ¬ (Df.szN (j + 1)).1 ≤ x; rw [HL.out.1]; exact hge)]
        rfl
      have hs9 : S - 1 = 257 + (k - 1) := by have := HS.out; omega
      have HS9 : Hid (S - 1 = 257 + (k - 1)) := hs9
      clear HL HD HS hs9
      go_wp2_with fail
      go_roundw
      case rel => exact ⟨k - 1, S - 1, by omega, HS9.out, by go_num, HD2, by trivial⟩
      case measure => simp [intOf]; omega

set_option maxHeartbeats 2000000 in
theorem l5Dist_any (x : Nat) (h3 : 1 ≤ x) (hx : x ≤ 30000) (w : World) :
    Calls Tryz.prog 35 #[.int .i64 (x : Int)] w (DsIs x w) := by
  go_enter Tryz.func35, Tryz.ntmps35
  go_wp2_with fail
  go_loopw [4] (fun i wr => ∃ (k : Nat), k < 30 ∧ i = .int .i64 (k : Int) ∧ Hid (Df.dsSym x = Df.down (fun k => (Df.dsN k).1) x k) ∧ (k = 0 → x < 2) ∧ wr = w.alloc (.cells #[.int .i64 0, .int .i64 0] 32)) (fun i _ => (intOf i).toNat)
  case atStart => exact ⟨29, by omega, rfl, rfl, (fun h => by omega), rfl⟩
  case round =>
    obtain ⟨k, hk, rfl, HD, hx2, hw⟩ := hrel
    subst hw
    by_cases hk0 : k = 0
    · subst hk0
      obtain rfl : x = 1 := by have := hx2 rfl; omega
      have HF1 : Hid (DsIs 1 w (.returned (.tuple #[.int .i64 0, .agg #[.int .i64 0, .int .i64 0]])) (w.alloc (.cells #[.int .i64 0, .int .i64 0] 32))) := dsIs_mk (k := 0) (L := 1) (M := 0) w _ (by decide) (by decide) (by decide)
      clear hx2 HD
      go_wp2_with fail
      exact bodyPost_ret (v := .tuple #[.int .i64 0, .agg #[.int .i64 0, .int .i64 0]]) (by simp [results, Tryz.results35, go_sem]) rfl HF1.out
    clear hx2
    have HC : Hid (Calls Tryz.prog 62 #[.int .i64 (k : Int)] (w.alloc (.cells #[.int .i64 0, .int .i64 0] 32)) fun e w' => e = .returned (.tuple #[.int .i64 (((Df.dsN k).1 : Nat) : Int), .int .i64 (((Df.dsN k).2 : Nat) : Int)]) ∧ w' = w.alloc (.cells #[.int .i64 0, .int .i64 0] 32)) := l4Dist_any k hk _
    obtain ⟨hb1, hb2, hb3⟩ := Df.dsN_all k hk
    obtain ⟨L, hL⟩ : ∃ L, (Df.dsN k).1 = L := ⟨_, rfl⟩
    obtain ⟨M, hM⟩ : ∃ M, (Df.dsN k).2 = M := ⟨_, rfl⟩
    have HL : Hid ((Df.dsN k).1 = L ∧ (Df.dsN k).2 = M) := ⟨hL, hM⟩
    rw [hL, hM] at HC
    rw [hL] at hb1 hb2
    rw [hM] at hb3
    clear hL hM
    have hki : (0 : Int) < (k : Int) := by omega
    go_wp2_with fail
    refine HC.out.mono ?_
    rintro e w2 ⟨rfl, hw2⟩
    subst hw2
    clear HC
    by_cases hge : L ≤ x
    · have hgi : decide ((x : Int) ≥ (L : Int)) = true := by simp; omega
      have hsub : (x : Int) - (L : Int) = ((x - L : Nat) : Int) := by omega
      have HF : Hid (DsIs x w (.returned (.tuple #[.int .i64 (k : Int), .agg #[.int .i64 ((x - L : Nat) : Int), .int .i64 (M : Int)]])) (w.alloc (.cells #[.int .i64 ((x - L : Nat) : Int), .int .i64 (M : Int)] 32))) := dsIs_mk w _ (by rw [HD.out]; exact Df.down_yes (f := fun k => (Df.dsN k).1) (by show (Df.dsN k).1 ≤ x; rw [HL.out.1]; exact hge)) HL.out.1 HL.out.2
      clear HL HD
      obtain ⟨V, hV⟩ : ∃ V, x - L = V := ⟨_, rfl⟩
      rw [hV] at hsub HF
      have hVb : V ≤ 30000 := by omega
      clear hV
      go_wp2_with fail
      exact bodyPost_ret (v := .tuple #[.int .i64 (k : Int), .agg #[.int .i64 (V : Int), .int .i64 (M : Int)]]) (by simp [results, Tryz.results35, go_sem]) rfl HF.out
    · have hgi : decide ((x : Int) ≥ (L : Int)) = false := by simp; omega
      have HD2 : Hid (Df.dsSym x = Df.down (fun k => (Df.dsN k).1) x (k - 1)) := by
        obtain ⟨j, rfl⟩ : ∃ j, k = j + 1 := ⟨k - 1, by omega⟩
        show _ = _
        rw [HD.out, Df.down_no (f := fun k => (Df.dsN k).1) (by show ¬ (Df.dsN (j + 1)).1 ≤ x; rw [HL.out.1]; exact hge)]
        rfl
      have hx3 : k - 1 = 0 → x < 2 := fun h => by
        have h1 := HL.out.1
        rw [show k = 1 by omega] at h1
        have h9 : (Df.dsN 1).1 = 2 := by decide
        omega
      have HX3 : Hid (k - 1 = 0 → x < 2) := hx3
      clear HL HD hx3
      go_wp2_with fail
      go_roundw
      case rel => exact ⟨k - 1, by omega, by go_num, HD2, HX3.out, by trivial⟩
      case measure => simp [intOf]; omega
end Go.Proofs.YtcgmmpfckmhahaaGreat

/- The iterator over the tokens of a text. -/
namespace Go.Proofs.YtcgmmpfckmhahaaGreat
open Go.RowKit Go.Shelf Go.Maps

attribute [local go_sem] Oper.semAt_some

/-- what a round leaves alone -/
structure KpT (Bt m : Nat) (W W' : World) : Prop where
  size : W.heap.size ≤ W'.heap.size
  late : ∀ k, m ≤ k → k < W.heap.size → W'.heap[k]? = W.heap[k]?
  mine : ∀ (k : Nat) (o : Obj), W.heap[k]? = some o → ¬ Stays o → W'.heap[k]? = some o
  text : W'.heap[Bt]? = W.heap[Bt]?
theorem Seen.keptT {s : ByteArray} {B A Bt m : Nat} {W W' : World} (h : Seen s B A W) (k : KpT Bt m W W') : Seen s B A W' := by
  obtain ⟨es, clock, hb⟩ := h.map
  exact h.kept ((k.mine B _ hb (fun q => q)).trans hb.symm) (fun j cs fr hj => k.mine j _ hj (fun q => q rfl))
theorem tok_parts (s : ByteArray) (A : Nat) : ∃ (t0 t2 : Int) (k : Nat), Ty.tok s A = (t0, (k : Int), t2) ∧ (Ty.adv s A = if 1 < k then k else 1) ∧ k ≤ 258 := by
  unfold Ty.tok Ty.adv
  by_cases h : 3 ≤ (Ty.bst s A A).1
  · rw [if_pos h, if_pos h]
    exact ⟨_, _, _, rfl, by rw [if_pos (by omega)], Ty.bst_le s A A⟩
  · rw [if_neg h, if_neg h]
    exact ⟨_, _, 0, rfl, rfl, by omega⟩

set_option maxRecDepth 100000 in
set_option maxHeartbeats 4000000 in
theorem tokensIn1_in (n : Nat) (hn : 1 ≤ n) (l Bt : Nat) (s : ByteArray) (hs : s.size ≤ 5000) (J : List Tk → Nat → World → Prop) (W : World)
    (hJT : ∀ pre m X Y, J pre m X → Tn W.heap.size X Y → J pre m Y)
    (hY : ∀ pre x m W1, J pre m W1 → m ≤ W1.heap.size → pre.length < 5000 → YieldAt Fence.wide (n - 1) Tryz.prog l #[tkV x] W1 fun e W' => e = .returned (.bool true) ∧ J (pre ++ [x]) W'.heap.size W' ∧ KpT Bt m W1 W')
    (hbt : Bt < W.heap.size) (hc : W.cell? ⟨Bt, 0, none⟩ = some (.string s)) (h0 : J [] W.heap.size W) :
    CallsIn Fence.wide n Tryz.prog 44 #[.func (.yield l) #[] #[], .pointer (some ⟨Bt, 0, none⟩)] W fun e W' => (∃ v, e = .returned v) ∧ ∃ m, J (Ty.from_ s 0) m W' := by
  have hro : Fence.wide.round = none := rfl
  have HY : Hid (∀ (pre : List Tk) (x : Tk) (m : Nat) (W1 : World), J pre m W1 → m ≤ W1.heap.size → pre.length < 5000 → YieldAt Fence.wide (n - 1) Tryz.prog l #[tkV x] W1 fun e W' => e = .returned (.bool true) ∧ J (pre ++ [x]) W'.heap.size W' ∧ KpT Bt m W1 W') := hY
  have HJ : Hid (∀ (pre : List Tk) (m : Nat) (X Y : World), J pre m X → Tn W.heap.size X Y → J pre m Y) := hJT
  have HTK : Hid (∀ (A : Nat) (w : World), A < s.size → Seen s W.heap.size A w → Calls Tryz.prog 45 #[.map (some W.heap.size), .string s, .int .i64 (A : Int)] w (TokEnd s A w)) := fun A w hA hS => by
    by_cases h3 : A + 3 ≤ s.size
    · exact token_yes s _ A w (by omega) h3 hS
    · exact token_no s _ A w (by omega) hA h3
  have HAD : Hid (∀ (A : Nat) (w : World), A < s.size → Seen s W.heap.size A w → Calls Tryz.prog 46 #[.map (some W.heap.size), .string s, .int .i64 (A : Int)] w (AddEnd s W.heap.size A w)) := fun A w hA hS => add_any s _ A w (by omega) hA hS
  have HS0 : Hid (Seen s W.heap.size 0 (W.alloc (.map #[] 0))) := seen_start s W
  have hb0 : Below W.heap.size W (W.alloc (.map #[] 0)) := (Below.refl _ _).alloc (Nat.le_refl _) _
  have HJ0 : Hid (J [] W.heap.size (W.alloc (.map #[] 0))) := hJT _ _ _ _ h0 (Tn.below hb0 (Nat.le_refl _) (Nat.le_refl _))
  have hc0 : (W.alloc (.map #[] 0)).cell? ⟨Bt, 0, none⟩ = some (.string s) := (hb0.cell (p := ⟨Bt, 0, none⟩) hbt).trans hc
  have hmm := @run_makeMap Tryz.prog
  clear hY hJT h0
  refine callsIn_of_wp Tryz.func44 rfl trivial ?_ hro
  simp only [Tryz.ntmps44, List.size_toArray, List.length_cons, List.length_nil, Nat.reduceAdd, Nat.reduceSub, Array.replicate_succ, Array.replicate_zero, List.push_toArray, List.append_toArray, List.nil_append, List.cons_append]
  gi_wp2
  gi_loopw [4] (fun i wr => ∃ (A m : Nat) (pre : List Tk), A ≤ s.size ∧ pre.length ≤ A ∧ i = .int .i64 (A : Int) ∧ Hid (Ty.from_ s 0 = pre ++ Ty.from_ s A) ∧ Hid (J pre m wr) ∧ m ≤ wr.heap.size ∧ Hid (Seen s W.heap.size A wr) ∧ W.heap.size + 1 ≤ wr.heap.size ∧ wr.cell? ⟨Bt, 0, none⟩ = some (.string s))
    (fun i _ => s.size - (intOf i).toNat)
  case atStart => exact ⟨0, W.heap.size, [], Nat.zero_le _, Nat.zero_le _, rfl, rfl, HJ0, by simp, HS0, by simp, hc0⟩
  case round =>
    obtain ⟨A, m, pre, hA, hpre, rfl, HX, HJk, hm, HSk, hBw, hck⟩ := hrel
    clear HS0 hb0 HJ0 hc0 hmm
    by_cases hlt : A < s.size
    · have hlti : (A : Int) < (s.size : Int) := by omega
      obtain ⟨t0, t2, k, htok, hadv, hk⟩ := tok_parts s A
      have HX2 : Hid (Ty.from_ s 0 = (pre ++ [Ty.tok s A]) ++ Ty.from_ s (A + Ty.adv s A)) := by
        show _ = _
        rw [HX.out, Ty.from_step hlt, List.append_assoc]; rfl
      have hin := Ty.adv_in hlt
      have hav := Ty.adv_pos s A
      have HTKc : Hid (Calls Tryz.prog 45 #[.map (some W.heap.size), .string s, .int .i64 (A : Int)] wr fun e w' => e = .returned (.agg #[.int .i64 t0, .int .i64 (k : Int), .int .i64 t2]) ∧ Below wr.heap.size wr w') := by
        have h := HTK.out A wr hlt HSk.out
        unfold TokEnd at h
        rw [htok] at h
        exact h
      rw [htok] at HX2
      generalize Ty.adv s A = av at *
      clear htok HX
      gi_wp2
      refine ⟨trivial, ?_⟩
      gi_wp2
      refine (callsIn_wide.2 HTKc.out).mono ?_
      rintro e w1 ⟨rfl, b1⟩
      obtain ⟨w2, hw2⟩ : ∃ w2, w2 = w1.alloc (.cells #[.int .i64 t0, .int .i64 (k : Int), .int .i64 t2] 54) := ⟨_, rfl⟩
      have b2 : Below wr.heap.size wr w2 := by rw [hw2]; exact b1.alloc b1.size _
      have HJ2 : J pre m w2 := HJ.out _ _ _ _ HJk.out (Tn.below b2 (by omega) (Nat.le_refl _))
      have hs2 : w2.heap.size = w1.heap.size + 1 := by rw [hw2]; simp
      have hS2 : Seen s W.heap.size A w2 := HSk.out.below b2 (Nat.le_refl _)
      have htv : w2.heap[w1.heap.size]? = some (.cells #[.int .i64 t0, .int .i64 (k : Int), .int .i64 t2] 54 (0, 0)) := by rw [hw2]; exact heap_alloc_new _ _
      have hc2 : w2.cell? ⟨Bt, 0, none⟩ = some (.string s) := (b2.cell (p := ⟨Bt, 0, none⟩) (by show Bt < _; omega)).trans hck
      have hs1 := b1.size
      obtain ⟨fn, tmps, assign, body, hy, hR⟩ := HY.out pre (t0, (k : Int), t2) m w2 HJ2 (by omega) (by omega)
      dsimp only [tkV] at hy
      rw [hw2] at hy
      gi_wp2
      rw [← hw2]
      refine hR.mono ?_
      rintro e W3 ⟨rfl, hJ3, hk3⟩
      have hS3 := hS2.keptT hk3
      have htv3 := (hk3.late w1.heap.size (by omega) (by omega)).trans htv
      have hc3 : W3.cell? ⟨Bt, 0, none⟩ = some (.string s) := (World.cell?_of_block (w := w2) (a := ⟨Bt, 0, none⟩) hk3.text).trans hc2
      have cz : W3.cell? ⟨w1.heap.size, 1, none⟩ = some (.int .i64 (k : Int)) := by simp [World.cell?, htv3]
      have hs3 : W.heap.size + 1 ≤ W3.heap.size := by have := hk3.size; omega
      obtain ⟨E, hE⟩ : ∃ E, E = A + av := ⟨_, rfl⟩
      have hEb : E ≤ s.size := by omega
      by_cases h1k : (1 : Int) > (k : Int)
      · have eE : (A : Int) + 1 = (E : Int) := by rw [if_neg (by omega)] at hadv; omega
        have HJ3 : Hid (J (pre ++ [(t0, (k : Int), t2)]) W3.heap.size W3) := hJ3
        have HS3 : Hid (Seen s W.heap.size A W3) := hS3
        have hpl : (pre ++ [(t0, (k : Int), t2)]).length ≤ A + 1 := by rw [List.length_append]; show pre.length + 1 ≤ _; omega
        have HE : Hid (E = A + av) := hE
        have hAE : A + 1 ≤ E := by omega
        clear hE hadv hin hav hJ3 hS3 hk3 htv htv3 hS2 HJ2 HTKc HTK HY b1 b2 hR hy HSk HJk hw2
        generalize pre ++ [(t0, (k : Int), t2)] = pre2 at *
        gi_wp2
        gi_loopw [4] (fun i wr2 => ∃ a : Nat, A ≤ a ∧ a ≤ E ∧ i = .int .i64 (a : Int) ∧ Hid (J pre2 W3.heap.size wr2) ∧ W3.heap.size ≤ wr2.heap.size ∧ Hid (Seen s W.heap.size a wr2) ∧ wr2.cell? ⟨Bt, 0, none⟩ = some (.string s)) (fun i _ => E - (intOf i).toNat)
        case atStart => exact ⟨A, Nat.le_refl _, by omega, rfl, HJ3, Nat.le_refl _, HS3, hc3⟩
        case round =>
          obtain ⟨a, ha1, ha2, rfl, HJa, hsa, HSa, hca⟩ := hrel
          by_cases haE : a < E
          · have haEi : (a : Int) < (E : Int) := by omega
            have HADa : Hid (Calls Tryz.prog 46 #[.map (some W.heap.size), .string s, .int .i64 (a : Int)] wr (AddEnd s W.heap.size a wr)) := HAD.out a wr (by omega) HSa.out
            gi_wp2
            refine ⟨trivial, ?_⟩
            gi_wp2
            refine (callsIn_wide.2 HADa.out).mono ?_
            rintro e w5 ⟨⟨v5, rfl⟩, hS5, hT5⟩
            have HS5 : Hid (Seen s W.heap.size (a + 1) w5) := hS5
            have HJ5 : Hid (J pre2 W3.heap.size w5) := HJ.out _ _ _ _ HJa.out hT5
            have hs5 := hT5.size
            have hc5 : w5.cell? ⟨Bt, 0, none⟩ = some (.string s) := (World.cell?_of_block (w := wr) (a := ⟨Bt, 0, none⟩) (hT5.low.block Bt hbt)).trans hca
            clear hS5 hT5 HADa
            gi_wp2
            go_roundw
            case rel => exact ⟨a + 1, by omega, by omega, by go_num, HJ5, by omega, HS5, hc5⟩
            case measure => simp [intOf]; omega
          · have haEi : ¬ (a : Int) < (E : Int) := by omega
            have haE2 : a = E := by omega
            subst haE2
            gi_wp2
            go_roundw
            case rel => exact ⟨a, W3.heap.size, pre2, by omega, by omega, rfl, by rw [HE.out]; exact HX2, HJa, by omega, HSa, by omega, hca⟩
            case measure => simp [intOf]; omega
      · have eE : (A : Int) + (k : Int) = (E : Int) := by
          by_cases h2 : 1 < k
          · rw [if_pos h2] at hadv; omega
          · rw [if_neg h2] at hadv; omega
        have HJ3 : Hid (J (pre ++ [(t0, (k : Int), t2)]) W3.heap.size W3) := hJ3
        have HS3 : Hid (Seen s W.heap.size A W3) := hS3
        have hpl : (pre ++ [(t0, (k : Int), t2)]).length ≤ A + 1 := by rw [List.length_append]; show pre.length + 1 ≤ _; omega
        have HE : Hid (E = A + av) := hE
        have hAE : A + 1 ≤ E := by omega
        clear hE hadv hin hav hJ3 hS3 hk3 htv htv3 hS2 HJ2 HTKc HTK HY b1 b2 hR hy HSk HJk hw2
        generalize pre ++ [(t0, (k : Int), t2)] = pre2 at *
        gi_wp2
        gi_loopw [4] (fun i wr2 => ∃ a : Nat, A ≤ a ∧ a ≤ E ∧ i = .int .i64 (a : Int) ∧ Hid (J pre2 W3.heap.size wr2) ∧ W3.heap.size ≤ wr2.heap.size ∧ Hid (Seen s W.heap.size a wr2) ∧ wr2.cell? ⟨Bt, 0, none⟩ = some (.string s)) (fun i _ => E - (intOf i).toNat)
        case atStart => exact ⟨A, Nat.le_refl _, by omega, rfl, HJ3, Nat.le_refl _, HS3, hc3⟩
        case round =>
          obtain ⟨a, ha1, ha2, rfl, HJa, hsa, HSa, hca⟩ := hrel
          by_cases haE : a < E
          · have haEi : (a : Int) < (E : Int) := by omega
            have HADa : Hid (Calls Tryz.prog 46 #[.map (some W.heap.size), .string s, .int .i64 (a : Int)] wr (AddEnd s W.heap.size a wr)) := HAD.out a wr (by omega) HSa.out
            gi_wp2
            refine ⟨trivial, ?_⟩
            gi_wp2
            refine (callsIn_wide.2 HADa.out).mono ?_
            rintro e w5 ⟨⟨v5, rfl⟩, hS5, hT5⟩
            have HS5 : Hid (Seen s W.heap.size (a + 1) w5) := hS5
            have HJ5 : Hid (J pre2 W3.heap.size w5) := HJ.out _ _ _ _ HJa.out hT5
            have hs5 := hT5.size
            have hc5 : w5.cell? ⟨Bt, 0, none⟩ = some (.string s) := (World.cell?_of_block (w := wr) (a := ⟨Bt, 0, none⟩) (hT5.low.block Bt hbt)).trans hca
            clear hS5 hT5 HADa
            gi_wp2
            go_roundw
            case rel => exact ⟨a + 1, by omega, by omega, by go_num, HJ5, by omega, HS5, hc5⟩
            case measure => simp [intOf]; omega
          · have haEi : ¬ (a : Int) < (E : Int) := by omega
            have haE2 : a = E := by omega
            subst haE2
            gi_wp2
            go_roundw
            case rel => exact ⟨a, W3.heap.size, pre2, by omega, by omega, rfl, by rw [HE.out]; exact HX2, HJa, by omega, HSa, by omega, hca⟩
            case measure => simp [intOf]; omega
    · have hlti : ¬ (A : Int) < (s.size : Int) := by omega
      have HE : Hid (∃ m, J (Ty.from_ s 0) m wr) := ⟨m, by rw [HX.out, Ty.from_end hlt, List.append_nil]; exact HJk.out⟩
      gi_wp2
      go_end0
      exact ⟨⟨_, rfl⟩, HE.out⟩
end Go.Proofs.YtcgmmpfckmhahaaGreat

/- Tokens of a text, by the specification: those of Ty. -/
namespace Go.Proofs.YtcgmmpfckmhahaaGreat
open Go.RowKit

set_option maxHeartbeats 2000000 in
set_option maxRecDepth 20000 in
theorem l5Match_is (s : ByteArray) (a c : Nat) (w : World) (hs : s.size ≤ 9001) (hab : a ≤ c) (hb : c ≤ s.size) :
    Calls Tryz.prog 63 #[.string s, .int .i64 (a : Int), .int .i64 (c : Int)] w fun e w' => e = .returned (.int .i64 ((Ty.mat s a c 258 : Nat) : Int)) ∧ ∃ q, w' = w.drewN q := by
  go_enter Tryz.func63, Tryz.ntmps63
  go_wp2_with fail
  go_loopw [7] (fun i wr => ∃ n q : Nat, n ≤ 258 ∧ c + n ≤ s.size ∧ i = .int .i64 (n : Int) ∧ Hid (Ty.mat s a c 258 = n + Ty.mat s (a + n) (c + n) (258 - n)) ∧ Hid (wr = w.drewN q)) (fun i _ => 258 - (intOf i).toNat)
  case atStart => exact ⟨0, 0, by omega, by omega, rfl, by show _ = _; simp, rfl⟩
  case round =>
    obtain ⟨n, q, hn, hbn, rfl, HM, HW⟩ := hrel
    by_cases h1 : n < 258
    · have d1 : decide ((n : Int) < 258) = true := decide_eq_true (by omega)
      obtain ⟨B, hB⟩ : ∃ B, B = c + n := ⟨_, rfl⟩
      have eB : (c : Int) + (n : Int) = (B : Int) := by omega
      have fB := wrap_i64_nat B (by omega)
      obtain ⟨A, hA⟩ : ∃ A, A = a + n := ⟨_, rfl⟩
      have eA : (a : Int) + (n : Int) = (A : Int) := by omega
      have fA := wrap_i64_nat A (by omega)
      by_cases h2 : B < s.size
      · have d2 : decide ((B : Int) < (s.size : Int)) = true := decide_eq_true (by omega)
        have hA2 : A < s.size := by omega
        have hAi : (A : Int) < (s.size : Int) := by omega
        have hBi : (B : Int) < (s.size : Int) := by omega
        have hBn : c + (n + 1) ≤ s.size := by omega
        by_cases h3 : (s[A]).toNat = (s[B]).toNat
        · have HM2 : Hid (Ty.mat s a c 258 = (n + 1) + Ty.mat s (a + (n + 1)) (c + (n + 1)) (258 - (n + 1))) := by
            show _ = _
            rw [HM.out, show 258 - n = (258 - (n + 1)) + 1 by omega, Ty.mat_yes (by omega) (by rw [← hA, ← hB, Ty.b_at hA2, Ty.b_at h2, h3]), show a + n + 1 = a + (n + 1) by omega, show c + n + 1 = c + (n + 1) by omega]
            omega
          have d3 : (((s[A]).toNat : Int) == ((s[B]).toNat : Int)) = true := by rw [beq_iff_eq]; omega
          clear h3 hB hA HM
          go_wp2_with fail
          go_quiet (fail)
          go_wp2_with fail
          go_roundw
          case rel => exact ⟨n + 1, q + nq, by omega, hBn, by go_num, HM2, by show _ = _; rw [HW.out, World.drewN_drewN]⟩
          case measure => simp [intOf]; omega
        · have HM2 : Hid (Ty.mat s a c 258 = n) := by
            show _ = _
            rw [HM.out, Ty.mat_no (by rw [← hA, ← hB, Ty.b_at hA2, Ty.b_at h2]; exact fun h => h3 h.2)]; rfl
          have d3 : (((s[A]).toNat : Int) == ((s[B]).toNat : Int)) = false := by rw [beq_eq_false_iff_ne]; omega
          clear h3 hB hA HM
          go_wp2_with fail
          go_quiet (fail)
          go_wp2_with fail
          go_ret
          exact ⟨by rw [HM2.out]; rfl, q + nq, by rw [HW.out, World.drewN_drewN]⟩
      · have d2 : decide ((B : Int) < (s.size : Int)) = false := decide_eq_false (by omega)
        have HM2 : Hid (Ty.mat s a c 258 = n) := by
          show _ = _
          rw [HM.out, Ty.mat_no (by rw [← hB]; exact fun h => h2 h.1)]; rfl
        clear hB hA HM
        go_wp2_with fail
        go_quiet (fail)
        go_wp2_with fail
        go_ret
        exact ⟨by rw [HM2.out]; rfl, q + nq, by rw [HW.out, World.drewN_drewN]⟩
    · have d1 : decide ((n : Int) < 258) = false := decide_eq_false (by omega)
      have HM2 : Hid (Ty.mat s a c 258 = n) := by
        show _ = _
        rw [HM.out, show 258 - n = 0 by omega]; rfl
      clear HM
      go_wp2_with fail
      go_quiet (fail)
      go_wp2_with fail
      go_ret
      exact ⟨by rw [HM2.out]; rfl, q + nq, by rw [HW.out, World.drewN_drewN]⟩

def BestIs (s : ByteArray) (A : Nat) (w : World) (e : Ending) (w' : World) : Prop := e = .returned (.tuple #[.int .i64 (((Ty.bst s A A).1 : Nat) : Int), .int .i64 (((Ty.bst s A A).2 : Nat) : Int)]) ∧ ∃ q, w' = w.drewN q
set_option maxHeartbeats 2000000 in
set_option maxRecDepth 20000 in
theorem l5Best_is (s : ByteArray) (A : Nat) (w : World) (hs : s.size ≤ 9001) (hA : A ≤ s.size) :
    Calls Tryz.prog 36 #[.string s, .int .i64 (A : Int)] w (BestIs s A w) := by
  have HM : Hid (∀ (a : Nat) (w : World), a ≤ A → Calls Tryz.prog 63 #[.string s, .int .i64 (a : Int), .int .i64 (A : Int)] w fun e w' => e = .returned (.int .i64 ((Ty.mat s a A 258 : Nat) : Int)) ∧ ∃ q, w' = w.drewN q) := fun a w h => l5Match_is s a A w hs h hA
  go_enter Tryz.func36, Tryz.ntmps36
  go_wp2_with fail
  go_loopw [6, 7, 8] (fun n d i wr => ∃ N D k q : Nat, n = .int .i64 (N : Int) ∧ d = .int .i64 (D : Int) ∧ i = .int .i64 ((k + 1 : Nat) : Int) ∧ k ≤ A ∧ Hid (Ty.bst s A k = (N, D)) ∧ Hid (wr = w.drewN q)) (fun _ _ i _ => A + 1 - (intOf i).toNat)
  case atStart => exact ⟨0, 0, 0, 0, rfl, rfl, rfl, by omega, rfl, rfl⟩
  case round =>
    obtain ⟨N, D, k, q, rfl, rfl, rfl, hk2, HB, HW⟩ := hrel
    obtain ⟨k1, hk1⟩ : ∃ k1, k1 = k + 1 := ⟨_, rfl⟩
    rw [← hk1]
    have hk1b : k1 ≤ A + 1 := by omega
    by_cases hk : k1 ≤ A
    · have hki : (k1 : Int) ≤ (A : Int) := by omega
      obtain ⟨a, ha⟩ : ∃ a, a = A - k1 := ⟨_, rfl⟩
      have ea : (A : Int) - (k1 : Int) = (a : Int) := by omega
      have HMC := HM.out a wr (by omega)
      obtain ⟨n, hn⟩ : ∃ n, n = Ty.mat s a A 258 := ⟨_, rfl⟩
      rw [← hn] at HMC
      have HMH : Hid (Calls Tryz.prog 63 #[.string s, .int .i64 (a : Int), .int .i64 (A : Int)] wr fun e w' => e = .returned (.int .i64 (n : Int)) ∧ ∃ q, w' = wr.drewN q) := HMC
      have hn1 : n ≤ 258 := by rw [hn]; exact Ty.mat_le _ _ _ _
      have HB2 : Hid (Ty.bst s A (k + 1) = if N < n then (n, k1) else (N, D)) := by
        show _ = _
        rw [Ty.bst, HB.out, Ty.upd, ← hk1, ← ha, ← hn]
        show (if N < n then (n, A - a) else (N, D)) = _
        rw [show A - a = k1 by omega]
      have hK1 : Hid (k1 = k + 1) := hk1
      clear HMC ha hn HB hk1
      go_wp2_with fail
      refine HMH.out.mono ?_
      rintro e w2 ⟨rfl, q2, hq2⟩
      have HW2 : Hid (w2 = w.drewN (q + q2)) := by show _ = _; rw [hq2, HW.out, World.drewN_drewN]
      clear hq2 HMH
      by_cases hgt : N < n
      · have hgti : (N : Int) < (n : Int) := by omega
        go_wp2_with fail
        go_roundw
        case rel => exact ⟨n, k1, k1, q + q2, rfl, rfl, by go_num, by omega, by show _ = _; rw [hK1.out, HB2.out, if_pos hgt, hK1.out], HW2.out⟩
        case measure => simp [intOf]; omega
      · have hgti : ¬ (N : Int) < (n : Int) := by omega
        go_wp2_with fail
        go_roundw
        case rel => exact ⟨N, D, k1, q + q2, rfl, rfl, by go_num, by omega, by show _ = _; rw [hK1.out, HB2.out, if_neg hgt], HW2.out⟩
        case measure => simp [intOf]; omega
    · have hki : ¬ (k1 : Int) ≤ (A : Int) := by omega
      have hkA : k = A := by omega
      have HB3 : Ty.bst s A A = (N, D) := by rw [← HB.out, hkA]
      have HF : Hid (BestIs s A w (.returned (.tuple #[.int .i64 (N : Int), .int .i64 (D : Int)])) wr) := ⟨by rw [HB3], q, HW.out⟩
      clear hkA hk1 HB HB3
      go_wp2_with fail
      exact bodyPost_ret (v := .tuple #[.int .i64 (N : Int), .int .i64 (D : Int)]) (by simp [results, Tryz.results36, go_sem]) rfl HF.out

/-- just these tokens, in a row of its own -/
def TkIs (w : World) (l : List Tk) (e : Ending) (w' : World) : Prop :=
  ∃ (ao : Option Addr) (cap : Nat), e = .returned (.slice ao l.length cap) ∧ OwnK w' w.heap.size (.slice ao l.length cap) l.length l ∧ Below w.heap.size w w'

set_option maxHeartbeats 2000000 in
set_option maxRecDepth 20000 in
theorem l5Tokens_is (s : ByteArray) (w : World) (hs : s.size ≤ 5000) :
    Calls Tryz.prog 16 #[.string s] w (TkIs w (Ty.from_ s 0)) := by
  have HE : Hid (OwnK (w.alloc (.cells #[] 54)) w.heap.size (.slice (some ⟨w.heap.size, 0, none⟩) 0 0) 0 []) := tk_own_none w
  have HM : Hid (∀ (A : Nat) (w : World), A ≤ s.size → Calls Tryz.prog 36 #[.string s, .int .i64 (A : Int)] w (BestIs s A w)) := fun A w h => l5Best_is s A w (by omega) h
  obtain ⟨i0, hi0, hz0, hz1, hz2⟩ := info_parts info_tok
  go_enter Tryz.func16, Tryz.ntmps16
  go_wp2_with fail
  go_loopw [3, 4] (fun o i wr => ∃ (A : Nat) (l : List Tk) (ao : Option Addr) (cap : Nat), A ≤ s.size ∧ l.length ≤ A ∧ i = .int .i64 (A : Int) ∧ o = .slice ao l.length cap ∧ Hid (Ty.from_ s 0 = l ++ Ty.from_ s A) ∧ Hid (OwnK wr w.heap.size (.slice ao l.length cap) l.length l ∧ Below w.heap.size w wr)) (fun _ i _ => s.size - (intOf i).toNat)
  case atStart => exact ⟨0, [], _, _, Nat.zero_le _, Nat.zero_le _, rfl, rfl, rfl, HE.out, (Below.refl _ _).alloc (Nat.le_refl _) _⟩
  case round =>
    obtain ⟨A, l, ao, cap, hA, hlA, rfl, rfl, HX, HS⟩ := hrel
    clear HE
    by_cases hlt : A < s.size
    · have hlti : (A : Int) < (s.size : Int) := by omega
      have hbst := Ty.bst_le s A A
      have hadv := Ty.adv_in hlt
      have HX2 : Hid (Ty.from_ s 0 = (l ++ [Ty.tok s A]) ++ Ty.from_ s (A + Ty.adv s A)) := by
        show _ = _
        rw [HX.out, Ty.from_step hlt, List.append_assoc]; rfl
      have hT : Ty.tok s A = if 3 ≤ (Ty.bst s A A).1 then (0, ((Ty.bst s A A).1 : Int), ((Ty.bst s A A).2 : Int)) else ((Ty.b s A : Int), 0, 0) := rfl
      have hV : Ty.adv s A = if 3 ≤ (Ty.bst s A A).1 then (Ty.bst s A A).1 else 1 := rfl
      have HMC := HM.out A wr hA
      unfold BestIs at HMC
      generalize Ty.tok s A = tk at *
      generalize Ty.adv s A = av at *
      generalize Ty.bst s A A = nd at *
      obtain ⟨n, d⟩ := nd
      dsimp only at HMC hT hV hbst
      have HMH : Hid (Calls Tryz.prog 36 #[.string s, .int .i64 (A : Int)] wr fun e w' => e = .returned (.tuple #[.int .i64 (n : Int), .int .i64 (d : Int)]) ∧ ∃ q, w' = wr.drewN q) := HMC
      clear HMC HX
      go_wp2_with fail
      refine HMH.out.mono ?_
      rintro e w2 ⟨rfl, q2, hq2⟩
      have hown : OwnK w2 w.heap.size (.slice ao l.length cap) l.length l := by rw [hq2]; exact HS.out.1
      have hbel : Below w.heap.size w w2 := by rw [hq2]; exact below_drewN HS.out.2 q2
      have hbs : w.heap.size ≤ w2.heap.size := hbel.size
      have hlt0 := World.ownsRow.lt (show World.ownsRow _ _ _ _ _ _ _ from hown)
      have hm63 : l.length + 1 ≤ maxLen := by unfold maxLen; omega
      have hlen : (l.length + 1) * 24 ≤ 140737488355328 := by omega
      clear hq2 HMH HS
      by_cases hn3 : n < 3
      · have hn3i : (n : Int) < 3 := by omega
        rw [if_neg (by omega)] at hT hV
        rw [Ty.b_at hlt] at hT
        obtain ⟨c, hc⟩ : ∃ c : Nat, c = (s[A]).toNat := ⟨_, rfl⟩
        have hcb : c < 256 := by rw [hc]; exact UInt8.toNat_lt _
        rw [← hc] at hT
        rw [hT, hV] at HX2
        have hc' : (s[A]).toNat = c := hc.symm
        have hone : ∀ u ∈ [Value.int .i64 (c : Int), Value.int .i64 0, Value.int .i64 0], u.oneCell' = true := by intro u hu; simp at hu; rcases hu with rfl | rfl | rfl <;> rfl
        clear hc hT hV
        go_wp2_with (at_builtin; refine wpList_append_lies _ (by rfl) _ _ _ (by rfl) w.heap.size 54 i0 (.agg #[.int .i64 0, .int .i64 0, .int .i64 0]) 3 24 Tryz.underlying34 hi0 hz0 hz1 hz2 rfl (by decide) _ l.length (tkCells l) (by rfl) (World.ownsRow.alloc (show World.ownsRow _ _ _ _ _ _ _ from hown) _) ⟨w2.heap.size, 0, none⟩ 1 1 [.int .i64 (c : Int), .int .i64 0, .int .i64 0] (by rfl) rfl (World.news_of_block (heap_alloc_new _ _)) hone (by decide) hm63 hlen (by simp; omega) _ rfl ?_)
        intro g cap2 w4 hown4 hgrow hat hlt4
        have hb4 : Below w.heap.size w w4 := (hbel.alloc hbs _).grown hgrow (by simp; omega) (fun k hk => (hlt0 k hk).1)
        have HF4 : Hid (OwnK w4 w.heap.size (.slice (some ⟨g, 0, none⟩) (l.length + 1) cap2) (l.length + 1) (l ++ [((c : Int), 0, 0)]) ∧ Below w.heap.size w w4) := ⟨OwnK.more hown4, hb4⟩
        clear hown4 hgrow hat hlt0 hown hbel hone hm63 hlen hlt4 hb4
        go_wp2_with fail
        go_roundw
        case rel => exact ⟨A + 1, l ++ [((c : Int), 0, 0)], some ⟨g, 0, none⟩, cap2, by omega, by rw [List.length_append]; show l.length + 1 ≤ _; omega, by go_num, by rw [List.length_append]; rfl, HX2, by rw [List.length_append]; exact HF4.out⟩
        case measure => simp [intOf]; omega
      · have hn3i : ¬ (n : Int) < 3 := by omega
        rw [if_pos (by omega)] at hT hV
        rw [hT, hV] at HX2
        have hAn : A + n ≤ s.size := by omega
        have hone : ∀ u ∈ [Value.int .i64 0, Value.int .i64 (n : Int), Value.int .i64 (d : Int)], u.oneCell' = true := by intro u hu; simp at hu; rcases hu with rfl | rfl | rfl <;> rfl
        clear hT hV hadv
        go_wp2_with (at_builtin; refine wpList_append_lies _ (by rfl) _ _ _ (by rfl) w.heap.size 54 i0 (.agg #[.int .i64 0, .int .i64 0, .int .i64 0]) 3 24 Tryz.underlying34 hi0 hz0 hz1 hz2 rfl (by decide) _ l.length (tkCells l) (by rfl) (World.ownsRow.alloc (show World.ownsRow _ _ _ _ _ _ _ from hown) _) ⟨w2.heap.size, 0, none⟩ 1 1 [.int .i64 0, .int .i64 (n : Int), .int .i64 (d : Int)] (by rfl) rfl (World.news_of_block (heap_alloc_new _ _)) hone (by decide) hm63 hlen (by simp; omega) _ rfl ?_)
        intro g cap2 w4 hown4 hgrow hat hlt4
        have hb4 : Below w.heap.size w w4 := (hbel.alloc hbs _).grown hgrow (by simp; omega) (fun k hk => (hlt0 k hk).1)
        have HF4 : Hid (OwnK w4 w.heap.size (.slice (some ⟨g, 0, none⟩) (l.length + 1) cap2) (l.length + 1) (l ++ [(0, (n : Int), (d : Int))]) ∧ Below w.heap.size w w4) := ⟨OwnK.more hown4, hb4⟩
        clear hown4 hgrow hat hlt0 hown hbel hone hm63 hlen hlt4 hb4
        go_wp2_with fail
        go_roundw
        case rel => exact ⟨A + n, l ++ [(0, (n : Int), (d : Int))], some ⟨g, 0, none⟩, cap2, by omega, by rw [List.length_append]; show l.length + 1 ≤ _; omega, by go_num, by rw [List.length_append]; rfl, HX2, by rw [List.length_append]; exact HF4.out⟩
        case measure => simp [intOf]; omega
    · have hlti : ¬ (A : Int) < (s.size : Int) := by omega
      have HF : Hid (TkIs w (Ty.from_ s 0) (.returned (.slice ao l.length cap)) wr) := by
        have e : Ty.from_ s 0 = l := by rw [HX.out, Ty.from_end hlt, List.append_nil]
        rw [e]
        exact ⟨ao, cap, rfl, HS.out.1, HS.out.2⟩
      clear HS HX
      go_wp2_with fail
      go_ret
      exact HF.out

end Go.Proofs.YtcgmmpfckmhahaaGreat

/- A number of so many bits goes into the writer, through the interface. -/
namespace Go.Proofs.YtcgmmpfckmhahaaGreat
open Go.RowKit

theorem wmethod_room (a : Addr) (w : World) : (method 263 82 (.pointer (some a)) "loop.example/intarsia/impl.room").run Tryz.prog w = .ok (120, .pointer (some a)) w := by kernel_rfl
theorem wmethod_next (a : Addr) (w : World) : (method 263 82 (.pointer (some a)) "loop.example/intarsia/impl.next").run Tryz.prog w = .ok (119, .pointer (some a)) w := by kernel_rfl
theorem wahead_next (a : Addr) (w : World) : (nilAhead 263 82 (.pointer (some a)) "loop.example/intarsia/impl.next").run Tryz.prog w = .ok (some false) w := by kernel_rfl

theorem Writes.drew {w : World} {B N : Nat} {hi : Bool} {f : Nat → Nat} (h : Writes w B hi f N) : Writes w.drew B hi f N := ⟨h.c0, h.c1, h.c2, h.f1, h.f2, h.lt⟩

theorem and_bit' (x q : Nat) (h : x < 4294967296) : bits .and .i64 ((x : Int) / 2 ^ q) 1 = ((x / 2 ^ q % 2 : Nat) : Int) := by
  have e : (x : Int) / 2 ^ q = ((x / 2 ^ q : Nat) : Int) := by simp
  have hl : x / 2 ^ q ≤ x := Nat.div_le_self _ _
  have := i64_and_nat (x / 2 ^ q) 1 (by omega) (by omega)
  rw [show ((1 : Nat) : Int) = 1 from rfl] at this
  rw [e, this, nat_mask1]

set_option maxHeartbeats 400000 in
theorem wmove_no (B N S : Nat) (v : Int) (hi : Bool) (o : Value) (f : Nat → Nat) (w : World) (h : Writes w B hi f N) (hN : N ≤ 72000) (hNS : 72000 < N + S) :
    Calls Tryz.prog 53 #[.iface 82 (.pointer (some ⟨B, 0, none⟩)), o, .int .i64 v, .int .i64 S] w fun e w' => e = .returned (.tuple #[.int .i64 0, .bool false]) ∧ w' = w := by
  have m1 := fun w => wmethod_room ⟨B, 0, none⟩ w
  have HR : Hid (Writes w B hi f N) := h
  clear h
  go_enter Tryz.func53, Tryz.ntmps53
  go_wp2_with fail
  refine (wroom_any B N hi f w HR.out hN).mono ?_
  rintro e w1 ⟨rfl, hw1⟩
  subst hw1
  have hd : 72000 - (N : Int) < (S : Int) := by omega
  go_wp2_with fail
  go_ret2
  exact ⟨rfl, rfl⟩

set_option maxHeartbeats 1000000 in
theorem wmove_low (B N V S : Nat) (f : Nat → Nat) (w : World) (h : Writes w B false f N) (hNS : N + S ≤ 72000) (h24 : S ≤ 32) (hV : V < 4294967296) (hf : ∀ i, f i < 2) (hfb : ∀ q, q < S → f (N + q) = Bp.bitIn false V S q) :
    Calls Tryz.prog 53 #[.iface 82 (.pointer (some ⟨B, 0, none⟩)), .func (.func 55) #[] #[], .int .i64 V, .int .i64 S] w fun e w' => (∃ z, e = .returned (.tuple #[.int .i64 z, .bool true])) ∧ Writes w' B false f (N + S) ∧ Below B w w' := by
  have m1 := fun w => wmethod_room ⟨B, 0, none⟩ w
  have m2 := fun w => wmethod_next ⟨B, 0, none⟩ w
  have m3 := fun w => wahead_next ⟨B, 0, none⟩ w
  have HR : Hid (Writes w B false f N) := h
  have HF : Hid ((∀ i, f i < 2) ∧ ∀ q, q < S → f (N + q) = Bp.bitIn false V S q) := ⟨hf, hfb⟩
  clear h hf hfb
  go_enter Tryz.func53, Tryz.ntmps53
  go_wp2_with fail
  refine (wroom_any B N false f w HR.out (by omega)).mono ?_
  rintro e w1 ⟨rfl, hw1⟩
  subst hw1
  have hd : decide (72000 - (N : Int) < (S : Int)) = false := by simp; omega
  go_wp2_with fail
  go_loopw [10, 18] (fun n i wr => ∃ (k : Nat) (z : Int), k ≤ S ∧ i = .int .i64 k ∧ n = .int .i64 z ∧ Writes wr B false f (N + k) ∧ Below B w1 wr) (fun _ i _ => S - (intOf i).toNat)
  case atStart => exact ⟨0, 0, Nat.zero_le _, rfl, rfl, HR.out, Below.refl _ _⟩
  case round =>
    obtain ⟨k, z, hk, rfl, rfl, hWr, hbel⟩ := hrel
    clear HR
    by_cases hlt : k < S
    · obtain ⟨bb, hbb⟩ : ∃ bb, bb = Bp.bitIn false V S k := ⟨_, rfl⟩
      have hfk := HF.out.2 k hlt
      rw [← hbb] at hfk
      have HXX : Hid (∀ (w : World), Writes w B false f (N + k) → Calls Tryz.prog 119 #[.pointer (some ⟨B, 0, none⟩), .int .i64 (bb : Int)] w fun e w' => e = .returned (.int .i64 (bb : Int)) ∧ Writes w' B false f (N + k + 1) ∧ Below B w w') := by
        intro w hw
        exact wnext_low B (N + k) bb f w hw (by omega) HF.out.1 hfk
      have HRD : Hid (Writes _ B false f (N + k)) := hWr
      have hab : bits .and .i64 ((V : Int) / 2 ^ (k)) 1 = (bb : Int) := by
        rw [and_bit' V (k) hV, hbb]; rfl
      clear hWr hbb hfk
      go_wp2_with fail
      refine (order_low _ _ _).mono ?_
      rintro e w3 ⟨rfl, hw3⟩
      subst hw3
      go_wp2_with fail
      go_region_with (go_at_call 119; refine (HXX.out _ ?_).mono ?_; (repeat (first | exact HRD.out | refine Writes.drew ?_)); rintro e w4 ⟨rfl, hR4, b4⟩)
      all_goals have hb4 := hbel.trans ((Below.refl B w3).drew.trans b4)
      all_goals clear b4 hbel HRD HXX
      all_goals go_wp2_with fail
      all_goals
        go_roundw
        case rel => exact ⟨k + 1, _, by omega, by go_num, rfl, hR4, hb4⟩
        case measure => simp [intOf]; omega
    · have hk' : k = S := by omega
      subst hk'
      go_wp2_with fail
      go_ret2
      exact ⟨⟨_, rfl⟩, hWr, hbel⟩

set_option maxHeartbeats 1000000 in
theorem wmove_high (B N V S : Nat) (f : Nat → Nat) (w : World) (h : Writes w B true f N) (hNS : N + S ≤ 72000) (h24 : S ≤ 32) (hV : V < 4294967296) (hf : ∀ i, f i < 2) (hfb : ∀ q, q < S → f (N + q) = Bp.bitIn true V S q) :
    Calls Tryz.prog 53 #[.iface 82 (.pointer (some ⟨B, 0, none⟩)), .func (.func 54) #[] #[], .int .i64 V, .int .i64 S] w fun e w' => (∃ z, e = .returned (.tuple #[.int .i64 z, .bool true])) ∧ Writes w' B true f (N + S) ∧ Below B w w' := by
  have m1 := fun w => wmethod_room ⟨B, 0, none⟩ w
  have m2 := fun w => wmethod_next ⟨B, 0, none⟩ w
  have m3 := fun w => wahead_next ⟨B, 0, none⟩ w
  have HR : Hid (Writes w B true f N) := h
  have HF : Hid ((∀ i, f i < 2) ∧ ∀ q, q < S → f (N + q) = Bp.bitIn true V S q) := ⟨hf, hfb⟩
  clear h hf hfb
  go_enter Tryz.func53, Tryz.ntmps53
  go_wp2_with fail
  refine (wroom_any B N true f w HR.out (by omega)).mono ?_
  rintro e w1 ⟨rfl, hw1⟩
  subst hw1
  have hd : decide (72000 - (N : Int) < (S : Int)) = false := by simp; omega
  go_wp2_with fail
  go_loopw [10, 18] (fun n i wr => ∃ (k : Nat) (z : Int), k ≤ S ∧ i = .int .i64 k ∧ n = .int .i64 z ∧ Writes wr B true f (N + k) ∧ Below B w1 wr) (fun _ i _ => S - (intOf i).toNat)
  case atStart => exact ⟨0, 0, Nat.zero_le _, rfl, rfl, HR.out, Below.refl _ _⟩
  case round =>
    obtain ⟨k, z, hk, rfl, rfl, hWr, hbel⟩ := hrel
    clear HR
    by_cases hlt : k < S
    · obtain ⟨bb, hbb⟩ : ∃ bb, bb = Bp.bitIn true V S k := ⟨_, rfl⟩
      have hfk := HF.out.2 k hlt
      rw [← hbb] at hfk
      have HXX : Hid (∀ (w : World), Writes w B true f (N + k) → Calls Tryz.prog 119 #[.pointer (some ⟨B, 0, none⟩), .int .i64 (bb : Int)] w fun e w' => e = .returned (.int .i64 (bb : Int)) ∧ Writes w' B true f (N + k + 1) ∧ Below B w w') := by
        intro w hw
        exact wnext_high B (N + k) bb f w hw (by omega) HF.out.1 hfk
      have HRD : Hid (Writes _ B true f (N + k)) := hWr
      have hab : bits .and .i64 ((V : Int) / 2 ^ (S - 1 - k)) 1 = (bb : Int) := by
        rw [and_bit' V (S - 1 - k) hV, hbb]; rfl
      have hab2 : bits .and .i64 ((V : Int) / 2 ^ ((S : Int) - 1 - (k : Int)).toNat) 1 = (bb : Int) := by
        rw [show ((S : Int) - 1 - (k : Int)).toNat = S - 1 - k from by omega]; exact hab
      clear hWr hbb hfk
      go_wp2_with fail
      refine (order_high _ _ _ (by omega) (by omega) (by omega)).mono ?_
      rintro e w3 ⟨rfl, hw3⟩
      subst hw3
      go_wp2_with fail
      go_region_with (go_at_call 119; refine (HXX.out _ ?_).mono ?_; (repeat (first | exact HRD.out | refine Writes.drew ?_)); rintro e w4 ⟨rfl, hR4, b4⟩)
      all_goals have hb4 := hbel.trans ((Below.refl B w3).drew.trans b4)
      all_goals clear b4 hbel HRD HXX
      all_goals go_wp2_with fail
      all_goals
        go_roundw
        case rel => exact ⟨k + 1, _, by omega, by go_num, rfl, hR4, hb4⟩
        case measure => simp [intOf]; omega
    · have hk' : k = S := by omega
      subst hk'
      go_wp2_with fail
      go_ret2
      exact ⟨⟨_, rfl⟩, hWr, hbel⟩

theorem own_kept {w w' : World} {B L : Nat} {v : Value} {o : List Nat} (h : OwnB w B v L o) (hb : Below w.heap.size w w') : OwnB w' B v L o := by
  refine ⟨h.1, ?_⟩
  rcases h.2 with h2 | ⟨g, cap, cur, hv, hg, hh, r⟩
  · exact .inl h2
  · have hlt : g < w.heap.size := by
      rcases Nat.lt_or_ge g w.heap.size with hlt | hge
      · exact hlt
      · rw [Array.getElem?_eq_none hge] at hh; cases hh
    exact .inr ⟨g, cap, cur, hv, hg, by rw [hb.block g hlt]; exact hh, r⟩

theorem Writes.kept {w w' : World} {B N : Nat} {hi : Bool} {f : Nat → Nat} (h : Writes w B hi f N) (hb : Below w.heap.size w w') : Writes w' B hi f N := by
  obtain ⟨k0, ⟨v, L, k1, hown, hL⟩, k2, kf1, kf2, klt⟩ := h
  exact ⟨(hb.cell (p := ⟨B, 0, none⟩) klt).trans k0, ⟨v, L, (hb.cell (p := ⟨B, 1, none⟩) klt).trans k1, own_kept hown hb, hL⟩, (hb.cell (p := ⟨B, 2, none⟩) klt).trans k2,
    (hb.frozen (p := ⟨B, 1, none⟩) klt).trans kf1, (hb.frozen (p := ⟨B, 2, none⟩) klt).trans kf2, Nat.lt_of_lt_of_le klt hb.size⟩

theorem writes_new (w : World) (hi : Bool) (f : Nat → Nat) (T : TypeId) : Writes (w.alloc (.cells #[ordV hi, .slice none 0 0, .int .i64 0] T)) w.heap.size hi f 0 := by
  refine ⟨?_, ⟨.slice none 0 0, 0, ?_, ?_, rfl⟩, ?_, ?_, ?_, by simp⟩
  · rw [World.cell?_alloc_at _ _ _ _ rfl]; rfl
  · rw [World.cell?_alloc_at _ _ _ _ rfl]; rfl
  · exact World.ownsRow_nil _ _ _ _
  · rw [World.cell?_alloc_at _ _ _ _ rfl]; rfl
  · rw [World.frozen?_alloc_at _ _ _ _ rfl]
  · rw [World.frozen?_alloc_at _ _ _ _ rfl]

theorem wmove_any (hi : Bool) (B N V S : Nat) (f : Nat → Nat) (w : World) (h : Writes w B hi f N) (hNS : N + S ≤ 72000) (h24 : S ≤ 32) (hV : V < 4294967296) (hf : ∀ i, f i < 2) (hfb : ∀ q, q < S → f (N + q) = Bp.bitIn hi V S q) :
    Calls Tryz.prog 53 #[.iface 82 (.pointer (some ⟨B, 0, none⟩)), ordV hi, .int .i64 V, .int .i64 S] w fun e w' => (∃ z, e = .returned (.tuple #[.int .i64 z, .bool true])) ∧ Writes w' B hi f (N + S) ∧ Below B w w' := by
  cases hi
  · exact wmove_low B N V S f w h hNS h24 hV hf hfb
  · exact wmove_high B N V S f w h hNS h24 hV hf hfb
theorem orderOf_any (hi : Bool) (w : World) : Calls Tryz.prog 29 #[.bool hi] w fun e w' => e = .returned (ordV hi) ∧ w' = w := by
  cases hi
  · exact orderOf_low w
  · exact orderOf_high w
end Go.Proofs.YtcgmmpfckmhahaaGreat

/- BitsPut of the program, for every list of bits. -/
namespace Go.Proofs.YtcgmmpfckmhahaaGreat
open Go.RowKit

theorem shr_zero (V S : Nat) (h : V < 2 ^ S) : ((V : Int) / 2 ^ S == 0) = true := by
  have e : (V : Int) / 2 ^ S = ((V / 2 ^ S : Nat) : Int) := by simp
  rw [e, Nat.div_eq_of_lt h]; rfl
theorem shr_more (V S : Nat) (h : ¬ V < 2 ^ S) : ((V : Int) / 2 ^ S == 0) = false := by
  have e : (V : Int) / 2 ^ S = ((V / 2 ^ S : Nat) : Int) := by simp
  have hp : 0 < V / 2 ^ S := Nat.div_pos (by omega) (Nat.pow_pos (by omega))
  rw [e, beq_eq_false_iff_ne]; omega

set_option maxHeartbeats 1000000 in
theorem bitOk_any (p : Int × Int) (w : World) (h1 : -9223372036854775808 ≤ p.1) (h2 : p.1 ≤ 9223372036854775807) :
    Calls Tryz.prog 52 #[.agg #[.int .i64 p.1, .int .i64 p.2]] w fun e w' => e = .returned (.bool (Bp.okB p)) ∧ Below w.heap.size w w' := by
  obtain ⟨v, s⟩ := p
  simp only at h1 h2 ⊢
  by_cases a1 : 0 ≤ s
  · have d1 : decide (0 ≤ s) = true := by simpa using a1
    by_cases a2 : s ≤ 24
    · have d2 : decide (s ≤ 24) = true := by simpa using a2
      by_cases a3 : 0 ≤ v
      · have d3 : decide (0 ≤ v) = true := by simpa using a3
        obtain ⟨S, rfl⟩ := Int.eq_ofNat_of_zero_le a1
        obtain ⟨V, rfl⟩ := Int.eq_ofNat_of_zero_le a3
        by_cases a4 : V < 2 ^ S
        · have hok : Bp.okB ((V : Int), (S : Int)) = true := Bp.okB_true ⟨a1, a2, a3, by
            show (V : Int).toNat < 2 ^ (S : Int).toNat
            rw [Int.toNat_natCast, Int.toNat_natCast]; exact a4⟩
          have hz := shr_zero V S a4
          have HO : Hid (Bp.okB ((V : Int), (S : Int)) = true) := hok
          have hS24 : S ≤ 24 := by omega
          clear hok a4 a1 a2 a3
          go_enter Tryz.func52, Tryz.ntmps52
          go_wp2_with fail
          go_ret
          exact ⟨by rw [HO.out]; rfl, (Below.refl _ _).alloc (Nat.le_refl _) _⟩
        · have hok : Bp.okB ((V : Int), (S : Int)) = false := Bp.okB_false (fun g => a4 (by
            have h4 : (V : Int).toNat < 2 ^ (S : Int).toNat := g.2.2.2
            rw [Int.toNat_natCast, Int.toNat_natCast] at h4; exact h4))
          have hz := shr_more V S a4
          have HO : Hid (Bp.okB ((V : Int), (S : Int)) = false) := hok
          have hS24 : S ≤ 24 := by omega
          clear hok a4 a1 a2 a3
          go_enter Tryz.func52, Tryz.ntmps52
          go_wp2_with fail
          go_ret
          exact ⟨by rw [HO.out]; rfl, (Below.refl _ _).alloc (Nat.le_refl _) _⟩
      · have d3 : decide (0 ≤ v) = false := by simpa using a3
        have HO : Hid (Bp.okB (v, s) = false) := Bp.okB_false (fun g => a3 g.2.2.1)
        clear a3
        go_enter Tryz.func52, Tryz.ntmps52
        go_wp2_with fail
        go_ret
        exact ⟨by rw [HO.out]; rfl, (Below.refl _ _).alloc (Nat.le_refl _) _⟩
    · have d2 : decide (s ≤ 24) = false := by simpa using a2
      have HO : Hid (Bp.okB (v, s) = false) := Bp.okB_false (fun g => a2 g.2.1)
      clear a2
      go_enter Tryz.func52, Tryz.ntmps52
      go_wp2_with fail
      go_ret
      exact ⟨by rw [HO.out]; rfl, (Below.refl _ _).alloc (Nat.le_refl _) _⟩
  · have d1 : decide (0 ≤ s) = false := by simpa using a1
    have HO : Hid (Bp.okB (v, s) = false) := Bp.okB_false (fun g => a1 g.1)
    clear a1
    go_enter Tryz.func52, Tryz.ntmps52
    go_wp2_with fail
    go_ret
    exact ⟨by rw [HO.out]; rfl, (Below.refl _ _).alloc (Nat.le_refl _) _⟩
end Go.Proofs.YtcgmmpfckmhahaaGreat

/- All tokens of a text, collected. -/
namespace Go.Proofs.YtcgmmpfckmhahaaGreat
open Go.RowKit Go.Shelf Go.Maps

attribute [local go_sem] Oper.semAt_some

/-- the tokens so far, in a box; what was written last lies below m -/
def TcI (w0 : World) (pre : List Tk) (m : Nat) (W : World) : Prop :=
  (∃ v, Boxed W w0.heap.size 34 v ∧ OwnK W w0.heap.size v pre.length pre ∧ (v = .slice none 0 0 ↔ pre = []) ∧ ∀ j, v.ownBlock = some j → j < m) ∧ Below w0.heap.size w0 W
theorem ownK_block {W : World} {B n j : Nat} {v : Value} {l : List Tk} (h : OwnK W B v n l) (e : v.ownBlock = some j) : B ≤ j ∧ ∃ cur, W.heap[j]? = some (.cells cur 54 (0, 0)) := by
  rcases h.2 with ⟨rfl, _⟩ | ⟨g, cap, cur, rfl, hg, hgb, _⟩
  · simp [Value.ownBlock] at e
  · obtain rfl : g = j := by simpa [Value.ownBlock] using e
    exact ⟨hg, cur, hgb⟩
theorem TcI.grown {w0 : World} {pre : List Tk} {m : Nat} {X Y : World} {row : Option Nat} (h : TcI w0 pre m X) (hg : X.grownBy Y row) (hr : ∀ r, row = some r → w0.heap.size + 1 ≤ r ∧ ∃ o : Obj, X.heap[r]? = some o ∧ o.isCells = false) : TcI w0 pre m Y := by
  obtain ⟨⟨v, hv, ho, hn, hm⟩, hb⟩ := h
  refine ⟨⟨v, hv.kept hg (fun e => by have := (hr _ e.symm).1; omega), World.ownsRow.kept (show World.ownsRow _ _ _ _ _ _ _ from ho) hg ?_, hn, hm⟩, hb.grown hg hb.size (fun r e => by have := (hr r e).1; omega)⟩
  cases hv' : v.ownBlock with
  | none => exact .inl rfl
  | some j =>
    refine .inr (fun e => ?_)
    obtain ⟨_, cur, hc⟩ := ownK_block ho hv'
    obtain ⟨_, o, ho', hcells⟩ := hr j e.symm
    rw [hc] at ho'; cases ho'; cases hcells
theorem TcI.turn {w0 : World} {pre : List Tk} {m B : Nat} {X Y : World} (h : TcI w0 pre m X) (hB : w0.heap.size + 1 ≤ B) (ht : Tn B X Y) : TcI w0 pre m Y := by
  obtain ⟨⟨v, hv, ho, hn, hm⟩, hb⟩ := h
  refine ⟨⟨v, (ht.low.block _ (by omega)).trans hv, ⟨ho.1, ?_⟩, hn, hm⟩, hb.trans (ht.low.mono (by omega))⟩
  rcases ho.2 with h2 | ⟨g, cap, cur, hv, hg, hh, r⟩
  · exact .inl h2
  · exact .inr ⟨g, cap, cur, hv, hg, ht.same g _ hh (by show (54 : TypeId) ≠ 3; decide), r⟩

theorem KpT.trans {Bt m : Nat} {X Y Z : World} (h : KpT Bt m X Y) (k : KpT Bt m Y Z) : KpT Bt m X Z :=
  ⟨Nat.le_trans h.size k.size, fun i h1 h2 => (k.late i h1 (by have := h.size; omega)).trans (h.late i h1 h2), fun i o h1 h2 => k.mine i o (h.mine i o h1 h2) h2, k.text.trans h.text⟩
theorem KpT.alloc {Bt m : Nat} (X : World) (o : Obj) (hb : Bt < X.heap.size) : KpT Bt m X (X.alloc o) :=
  ⟨by simp, fun k _ h => Below.heap_alloc X o k h, fun k _ h _ => (Below.heap_alloc X o k (Array.getElem?_eq_some_iff.1 h).1).trans h, Below.heap_alloc X o Bt hb⟩
theorem KpT.book {Bt m l : Nat} {X : World} {L : Loop} (o' : Obj) (h : X.heap[l]? = some (.loop L)) (hm : l < m) (hb : Bt ≠ l) : KpT Bt m X (X.putObj l o') :=
  ⟨by simp, fun k h1 _ => World.putObj_heap_other (by omega), fun k o h1 h2 => by
    by_cases e : k = l
    · subst e; rw [h] at h1; cases h1; exact absurd trivial h2
    · exact (World.putObj_heap_other (by omega)).trans h1, World.putObj_heap_other (by omega)⟩
/-- how a round must be left -/
def tokPost (B Bt m : Nat) (w0 : World) (xs : List Tk) (W : World) : Exit → Act → World → Prop
  | .normal, _, W' => KeepsFrom B W W' ∧ KpT Bt m W W' ∧ TcI w0 xs W'.heap.size W'
  | _, _, _ => False

set_option maxHeartbeats 1000000 in
theorem rangeTok {g : Operand} {ps : Array Tmp} {assign body : Code} {Q : Exit → Act → World → Prop} {a : Act} {w w0 : World} {Bt : Nat} {s : ByteArray} (hs : s.size ≤ 5000)
    (hg : a.eval g = .func (.func 44) #[] #[.pointer (some ⟨Bt, 0, none⟩)]) (hps : ps.size = 1) (hw : w.heap.size = w0.heap.size + 1) (h0 : TcI w0 [] (w0.heap.size + 3) w) (hbt : Bt < w0.heap.size) (hc : w.cell? ⟨Bt, 0, none⟩ = some (.string s))
    (a₁ : Tk → World → Act)
    (hassign : ∀ (l : Nat) (x : Tk) (W : World) (K : Act → World → Prop), K (a₁ x W) (W.alloc (.cells #[.int .i64 x.1, .int .i64 x.2.1, .int .i64 x.2.2] 54)) →
      assign.wpIn (Fence.wide.inRound l) 0 Tryz.prog (Exit.then K (fun _ _ _ => False)) { tmps := (ps.zip #[tkV x]).foldl (fun t (p, v) => t.setIfInBounds p v) a.tmps, defers := [] } W)
    (hbody : ∀ (l : Nat) (pre : List Tk) (x : Tk) (m : Nat) (W Wb : World), TcI w0 pre m Wb → w0.heap.size + 3 ≤ m → m ≤ W.heap.size → Wb.heap.size = W.heap.size + 1 → Wb.heap[W.heap.size]? = some (.cells #[.int .i64 x.1, .int .i64 x.2.1, .int .i64 x.2.2] 54 (0, 0)) → pre.length < 5000 →
      body.wpIn (Fence.wide.inRound l) 0 Tryz.prog (tokPost w.heap.size Bt m w0 (pre ++ [x]) Wb) (a₁ x W) Wb)
    (hdone : ∀ (D : Nat) (W : World) (m : Nat), w.heap.size ≤ D → TcI w0 (Ty.from_ s 0) m W → W.heap[D]? = some (.deferred (some [])) → Q .normal { a with defers := { target := .collected D, args := #[] } :: a.defers } W) :
    (Code.rangeFunc g ps assign body).wpIn Fence.wide 2 Tryz.prog Q a w := by
  have hro : Fence.wide.round = none := rfl
  have eg : ∀ args w, (callFunc 44 args).run Tryz.prog w = .ok (.enter 44 args) w := enters_of Tryz.func44 (by kernel_rfl) rfl
  refine wpIn_rangeFunc ?_
  intro fn hfn
  rw [hro]
  obtain ⟨rec, hrec⟩ : ∃ rec : LoopState → Option Code → Loop, rec = fun st pe => { state := st, pending := pe, fn, tmps := a.tmps, params := ps, assign, body, defers := w.heap.size } := ⟨_, rfl⟩
  obtain ⟨W1, hW1⟩ : ∃ W1, (w.alloc (.deferred (some []))).alloc (.loop (rec .ready none)) = W1 := ⟨_, rfl⟩
  have hL1 : W1.heap[w.heap.size + 1]? = some (.loop (rec .ready none)) := by
    rw [← hW1]; have := heap_alloc_new (w.alloc (.deferred (some []))) (.loop (rec .ready none)); rwa [World.size_alloc] at this
  have hK1 : W1.heap[w.heap.size]? = some (.deferred (some [])) := by
    rw [← hW1]; exact (Below.heap_alloc _ _ _ (by simp)).trans (heap_alloc_new w _)
  have hs1 : W1.heap.size = w0.heap.size + 3 := by rw [← hW1, World.size_alloc, World.size_alloc, hw]
  have hI1 : TcI w0 [] W1.heap.size W1 := by
    rw [hs1, ← hW1]
    exact (h0.grown (World.grownBy_alloc w _ none) (fun r e => by cases e)).grown (World.grownBy_alloc _ _ none) (fun r e => by cases e)
  have hb1 : Below w.heap.size w W1 := by rw [← hW1]; exact ((Below.refl _ w).alloc (Nat.le_refl _) _).alloc (by simp) _
  have hc1 : W1.cell? ⟨Bt, 0, none⟩ = some (.string s) := (hb1.cell (p := ⟨Bt, 0, none⟩) (by show Bt < _; omega)).trans hc
  refine ⟨w.heap.size + 1, [{ target := .collected w.heap.size, args := #[] }], W1, { target := .fn (.func 44) #[.pointer (some ⟨Bt, 0, none⟩)], args := #[.func (.yield (w.heap.size + 1)) #[] #[]] }, W1, 44,
    #[.func (.yield (w.heap.size + 1)) #[] #[], .pointer (some ⟨Bt, 0, none⟩)], W1, ?_, ?_, ?_, ?_, fun _ => by omega, ?_⟩
  · rw [← hW1, hrec]; exact run_enterLoop_outer _ _ _ _ _
  · simp only [resolve, hg]
    simp [go_sem]
  · intro f' hf'; simp [Target.leads] at hf'; subst hf'; trivial
  · simp [invoke, go_sem, eg]
  · refine (tokensIn1_in 1 (Nat.le_refl _) (w.heap.size + 1) Bt s hs
      (fun pre m W => TcI w0 pre m W ∧ w0.heap.size + 3 ≤ m ∧ W.heap[w.heap.size + 1]? = some (.loop (rec .ready none)) ∧ W.heap[w.heap.size]? = some (.deferred (some [])))
      W1 ?_ ?_ (by omega) hc1 ⟨hI1, by omega, hL1, hK1⟩).mono ?_
    · rintro pre m X Y ⟨k1, k2, k3, k4⟩ ht
      exact ⟨k1.turn (by omega) ht, k2, ht.same _ _ k3 trivial, ht.same _ _ k4 trivial⟩
    · rintro pre x m W ⟨hi, hm3, hl, hk⟩ hm hlen
      have hlt : w.heap.size + 1 < W.heap.size := (Array.getElem?_eq_some_iff.1 hl).1
      have hy := run_yield (P := Tryz.prog) (args := #[tkV x]) hl (by rw [hrec]; simp [hps])
      rw [hrec] at hy
      obtain ⟨Wa, hWa⟩ : ∃ Wa, Wa = W.alloc (.cells #[.int .i64 x.1, .int .i64 x.2.1, .int .i64 x.2.2] 54) := ⟨_, rfl⟩
      have hla : Wa.heap[w.heap.size + 1]? = some (.loop (rec .ready none)) := by rw [hWa]; exact (Below.heap_alloc _ _ _ hlt).trans hl
      have hka : Wa.heap[w.heap.size]? = some (.deferred (some [])) := by rw [hWa]; exact (Below.heap_alloc _ _ _ (by omega)).trans hk
      have hia : TcI w0 pre m Wa := by rw [hWa]; exact hi.grown (World.grownBy_alloc _ _ none) (fun r e => by cases e)
      have hsa : Wa.heap.size = W.heap.size + 1 := by rw [hWa]; simp
      have hna : Wa.heap[W.heap.size]? = some (.cells #[.int .i64 x.1, .int .i64 x.2.1, .int .i64 x.2.2] 54 (0, 0)) := by rw [hWa]; exact heap_alloc_new _ _
      have hkpa : KpT Bt m W Wa := by rw [hWa]; exact KpT.alloc _ _ (by omega)
      refine ⟨fn, _, assign, body, hy, roundIn_of_wpIn hfn (hassign _ x W _ ?_)⟩
      rw [← hWa]
      refine ⟨_, run_beginRound hla (by rw [hrec]), ?_⟩
      have hl2 : (Wa.putObj (w.heap.size + 1) (.loop { rec .ready none with state := .busy })).heap[w.heap.size + 1]? = some (.loop { rec .ready none with state := .busy }) := World.putObj_heap_same (by omega)
      have hk2 : (Wa.putObj (w.heap.size + 1) (.loop { rec .ready none with state := .busy })).heap[w.heap.size]? = some (.deferred (some [])) := (World.putObj_heap_other (by omega)).trans hka
      have hkp2 := KpT.book (Bt := Bt) (m := m) (.loop { rec .ready none with state := .busy }) hla (by omega) (by omega)
      have hi2 : TcI w0 pre m (Wa.putObj (w.heap.size + 1) (.loop { rec .ready none with state := .busy })) := hia.grown (grownBy_putObj' _ _ _) (fun r e => by cases e; exact ⟨by omega, _, hla, rfl⟩)
      refine wpIn_mono (hbody _ pre x m W _ hi2 hm3 hm (by simp [hsa]) ((World.putObj_heap_other (by omega)).trans hna) hlen) ?_
      rintro e a3 W3 hp
      cases e with
      | normal =>
        obtain ⟨hk3, hkp3, hi3⟩ := hp
        have hl3 := hk3.same _ _ (by omega) hl2 rfl
        have hr := run_endRound (P := Tryz.prog) none hl3
        have hl4 : (W3.putObj (w.heap.size + 1) (.loop (rec .ready none))).heap[w.heap.size + 1]? = some (.loop (rec .ready none)) := World.putObj_heap_same (Array.getElem?_eq_some_iff.1 hl3).1
        have hk4 : (W3.putObj (w.heap.size + 1) (.loop (rec .ready none))).heap[w.heap.size]? = some (.deferred (some [])) := (World.putObj_heap_other (by omega)).trans (hk3.same _ _ (Nat.le_refl _) hk2 rfl)
        have hs3 := hkp3.size
        have hr' : (Instr.endRound (w.heap.size + 1) none).run Tryz.prog W3 = .ok (.bool true) (W3.putObj (w.heap.size + 1) (.loop (rec .ready none))) := by rw [hrec] at hr ⊢; exact hr
        have hsz : (W3.putObj (w.heap.size + 1) (.loop (rec .ready none))).heap.size = W3.heap.size := by simp
        have hsb : Wa.heap.size ≤ (Wa.putObj (w.heap.size + 1) (.loop { rec .ready none with state := .busy })).heap.size := by simp
        refine ⟨_, _, hr', rfl, ⟨?_, ?_, hl4, hk4⟩, ?_⟩
        · rw [hsz]
          exact hi3.grown (grownBy_putObj' W3 (w.heap.size + 1) (.loop (rec .ready none))) (fun r e => by cases e; exact ⟨by omega, _, hl3, rfl⟩)
        · have h9 := Nat.le_trans hsb hs3
          have e9 : (W3.putObj (w.heap.size + 1) (.loop (rec .ready none))).heap.size = W3.heap.size := hsz
          show w0.heap.size + 3 ≤ (W3.putObj (w.heap.size + 1) (.loop (rec .ready none))).heap.size
          omega
        · exact (hkpa.trans hkp2).trans (hkp3.trans (KpT.book (.loop (rec .ready none)) hl3 (by omega) (by omega)))
      | ret => exact hp.elim
      | exit id => exact hp.elim
      | goto t => exact hp.elim
      | panic ch => exact hp.elim
      | outgrown => exact hp.elim
    · rintro e W2 ⟨⟨v, rfl⟩, m, hi, _, hl, hk⟩
      refine ⟨none, _, by have := run_endLoop (P := Tryz.prog) hl (by rw [hrec]; simp); rw [hrec] at this; exact this, hdone _ _ m (Nat.le_refl _) ?_ ?_⟩
      · exact hi.grown (grownBy_putObj' _ _ _) (fun r e => by cases e; exact ⟨by omega, _, hl, rfl⟩)
      · exact (World.putObj_heap_other (by omega)).trans hk

set_option maxRecDepth 100000 in
set_option maxHeartbeats 4000000 in
theorem appendTok_in (Bt : Nat) (s : ByteArray) (hs : s.size ≤ 5000) (w : World) (hbt : Bt < w.heap.size) (hc : w.cell? ⟨Bt, 0, none⟩ = some (.string s)) :
    CallsIn Fence.wide 2 Tryz.prog 84 #[.slice none 0 0, .func (.func 44) #[] #[.pointer (some ⟨Bt, 0, none⟩)]] w fun e W' => ∃ v, e = .returned v ∧ OwnK W' w.heap.size v (Ty.from_ s 0).length (Ty.from_ s 0) ∧ (v = .slice none 0 0 ↔ Ty.from_ s 0 = []) ∧ Below w.heap.size w W' := by
  have hro : Fence.wide.round = none := rfl
  obtain ⟨i0, hi, hz0, hz1, hz2⟩ := info_parts info_tok
  refine callsIn_of_wp_marks Tryz.func84 rfl trivial ?_ hro
  simp only [Tryz.ntmps84, List.size_toArray, List.length_cons, List.length_nil, Nat.reduceAdd, Nat.reduceSub, Array.replicate_succ, Array.replicate_zero, List.push_toArray, List.append_toArray, List.nil_append, List.cons_append]
  gi_wp2
  have bO := Boxed.new w 34 (.slice none 0 0)
  have hB0 : Below w.heap.size w (w.alloc (.cells #[.slice none 0 0] 34)) := (Below.refl _ w).alloc (Nat.le_refl _) _
  have hI0 : TcI w [] (w.heap.size + 3) (w.alloc (.cells #[.slice none 0 0] 34)) := ⟨⟨_, bO, World.ownsRow_nil _ _ _ _, by simp, fun j e => by simp [Value.ownBlock] at e⟩, hB0⟩
  have hsz : (w.alloc (.cells #[.slice none 0 0] 34)).heap.size = w.heap.size + 1 := by simp
  have hc0 : (w.alloc (.cells #[.slice none 0 0] 34)).cell? ⟨Bt, 0, none⟩ = some (.string s) := (hB0.cell (p := ⟨Bt, 0, none⟩) hbt).trans hc
  generalize w.alloc (.cells #[.slice none 0 0] 34) = w' at *
  refine rangeTok (Bt := Bt) (s := s) (w0 := w) hs rfl rfl hsz hI0 hbt hc0
    (fun x W => { tmps := #[.slice none 0 0, .func (.func 44) #[] #[.pointer (some ⟨Bt, 0, none⟩)], .pointer (some ⟨w.heap.size, 0, none⟩), undef, .slice none 0 0, .pointer (some ⟨W.heap.size, 0, none⟩), .func (.func 44) #[] #[.pointer (some ⟨Bt, 0, none⟩)], tkV x, undef, undef, undef, undef, undef], defers := [] }) ?assign ?body ?done
  case assign =>
    intro l x W K hK
    dsimp only [tkV] at hK ⊢
    gi_wp2
    exact hK
  case body =>
    rintro l pre ⟨t0, t1, t2⟩ m W Wb ⟨⟨v, hv, ho, hnil, hvm⟩, hB⟩ hm3 hm hWb hx hlen
    dsimp only at hx
    have HWB : Hid (Wb.heap.size = W.heap.size + 1) := hWb
    have hWs : w.heap.size ≤ Wb.heap.size := by omega
    have hmW : m ≤ Wb.heap.size := by omega
    clear hWb
    have hbc := hv.cell
    obtain ⟨⟨e0, e1, e2⟩, _⟩ := box3 hx
    have hml := (show OwnK Wb w.heap.size v pre.length pre from ho)
    have hone : ∀ u ∈ [Value.int .i64 t0, Value.int .i64 t1, Value.int .i64 t2], u.oneCell' = true := by intro u hu; simp at hu; rcases hu with rfl | rfl | rfl <;> rfl
    have h63 : pre.length + 1 ≤ maxLen := by unfold maxLen; omega
    dsimp only [tkV]
    gi_wp2_with (gi_at_builtin; refine wpListIn_append_own _ rfl _ _ 34 rfl w.heap.size 54 i0 (.agg #[.int .i64 0, .int .i64 0, .int .i64 0]) 3 24 Tryz.underlying34 hi hz0 hz1 hz2 rfl (by decide) _ _ _ rfl (World.ownsRow.alloc (show World.ownsRow _ _ _ _ _ _ _ from ho) _) ⟨Wb.heap.size, 0, none⟩ 1 1 [.int .i64 t0, .int .i64 t1, .int .i64 t2] rfl rfl (World.news_of_block (heap_alloc_new _ _)) hone h63 (by omega) (by simp; omega) ?_; intro v' wB hown' hgrow hnil'; obtain ⟨g', cap', rfl⟩ := ownsRow_succ hown'; have hvA := (hv.alloc (.cells #[.int .i64 t0, .int .i64 t1, .int .i64 t2] 54)).kept hgrow (hv.not_row (by decide) (show World.ownsRow _ _ _ _ _ _ _ from ho)); have hcA := hvA.cell; have hfA := hvA.frozen)
    obtain ⟨_, hv2, hr2, hk2, hb2⟩ := hv.appended (by decide) (show World.ownsRow _ _ _ _ _ _ _ from ho) hWs (Nat.le_refl _) hown' hgrow
    obtain ⟨W', hW'⟩ : ∃ W', W' = wB.setCell ⟨w.heap.size, 0, none⟩ (.slice (some ⟨g', 0, none⟩) (pre.length + 1) cap') := ⟨_, rfl⟩
    have hoth : ∀ k, k < Wb.heap.size → k ≠ w.heap.size → some k ≠ v.ownBlock → W'.heap[k]? = Wb.heap[k]? := fun k h1 h2 h3 => by
      rw [hW']
      exact ((Below.heap_setCell wB ⟨w.heap.size, 0, none⟩ _ k h2).trans (hgrow.block k (by simp; omega) h3)).trans (Below.heap_alloc _ _ _ h1)
    rw [← hW'] at hv2 hr2 hk2 hb2 ⊢
    refine ⟨hk2.from _, ⟨hk2.size, fun k h1 h2 => hoth k h2 (by omega) (fun e => by have := hvm k e.symm; omega), fun k o h1 h2 => ?_, hb2.block Bt hbt⟩, ⟨⟨_, hv2, ?_, by simp, fun j e => ?_⟩, hB.trans hb2⟩⟩
    · refine (hoth k (Array.getElem?_eq_some_iff.1 h1).1 (fun e => ?_) (fun e => ?_)).trans h1
      · rw [e, show Wb.heap[w.heap.size]? = _ from hv] at h1
        cases h1
        exact h2 (by show (34 : TypeId) ≠ 3; decide)
      · obtain ⟨_, cur, hcur⟩ := ownK_block ho e.symm
        rw [hcur] at h1
        cases h1
        exact h2 (by show (54 : TypeId) ≠ 3; decide)
    · have h5 := OwnK.more hr2
      rw [List.length_append]
      exact h5
    · have h6 := (World.ownsRow.lt hr2 j e).2
      exact h6
  case done =>
    rintro D W m hD ⟨⟨v, hv, ho, hnil, _⟩, hB⟩ hK
    have hbc := hv.cell
    gi_wp2
    refine ⟨by simp, .inl ⟨_, _, rfl, run_takeDeferred hK, ?_⟩⟩
    exact ⟨_, results_tmp rfl _ _ _, v, rfl, ownsRow_putObj (show World.ownsRow _ _ _ _ _ _ _ from ho) _ hK rfl, hnil, hB.trans (belowK_b (w := w) (Nat.le_refl _) W D _ _ (by omega) hK rfl rfl)⟩

set_option maxHeartbeats 1000000 in
theorem collectTok (Bt : Nat) (s : ByteArray) (hs : s.size ≤ 5000) (w : World) (hbt : Bt < w.heap.size) (hc : w.cell? ⟨Bt, 0, none⟩ = some (.string s)) :
    Calls Tryz.prog 51 #[.func (.func 44) #[] #[.pointer (some ⟨Bt, 0, none⟩)]] w fun e W' => ∃ v, e = .returned v ∧ OwnK W' w.heap.size v (Ty.from_ s 0).length (Ty.from_ s 0) ∧ (v = .slice none 0 0 ↔ Ty.from_ s 0 = []) ∧ Below w.heap.size w W' := by
  have HA : Hid (Calls Tryz.prog 84 #[.slice none 0 0, .func (.func 44) #[] #[.pointer (some ⟨Bt, 0, none⟩)]] w fun e W' => ∃ v, e = .returned v ∧ OwnK W' w.heap.size v (Ty.from_ s 0).length (Ty.from_ s 0) ∧ (v = .slice none 0 0 ↔ Ty.from_ s 0 = []) ∧ Below w.heap.size w W') := callsIn_wide.1 (appendTok_in Bt s hs w hbt hc)
  clear hbt hc
  go_enter Tryz.func51, Tryz.ntmps51
  go_wp2_with fail
  refine HA.out.mono ?_
  rintro e w' ⟨v, rfl, hv, hnil, hb⟩
  go_wp2_with fail
  go_ret
  exact ⟨v, rfl, hv, hnil, hb⟩
set_option maxHeartbeats 1000000 in
theorem tokensIn_any (s : ByteArray) (w : World) :
    Calls Tryz.prog 24 #[.string s] w fun e w' => e = .returned (.func (.func 44) #[] #[.pointer (some ⟨w.heap.size, 0, none⟩)]) ∧ w' = w.alloc (.cells #[.string s] 9) := by
  go_enter Tryz.func24, Tryz.ntmps24
  go_wp2_with fail
  go_ret
  exact ⟨rfl, rfl⟩
/-- the answer of the program: nil where there is no token -/
def TkImp (w : World) (l : List Tk) (e : Ending) (w' : World) : Prop :=
  ∃ v : Value, e = .returned v ∧ OwnK w' w.heap.size v l.length l ∧ (v = .slice none 0 0 ↔ l = []) ∧ Below w.heap.size w w'
set_option maxHeartbeats 1000000 in
theorem impl_tokensOf (s : ByteArray) (w : World) (hs : s.size ≤ 2000000) :
    Calls Tryz.prog 27 #[.string s] w (TkImp w (if 5000 < s.size then [] else Ty.from_ s 0)) := by
  by_cases h : (s.size : Int) > 5000
  · have d : decide ((s.size : Int) > 5000) = true := decide_eq_true h
    have HF : Hid (TkImp w (if 5000 < s.size then [] else Ty.from_ s 0) (.returned (.slice none 0 0)) w) := by
      rw [if_pos (by omega)]
      exact ⟨_, rfl, World.ownsRow_nil _ _ _ _, by simp, Below.refl _ _⟩
    generalize (if 5000 < s.size then [] else Ty.from_ s 0) = l at *
    go_enter Tryz.func27, Tryz.ntmps27
    go_wp2_with fail
    go_ret
    exact HF.out
  · have d : decide ((s.size : Int) > 5000) = false := decide_eq_false h
    rw [if_neg (by omega)]
    have HC : Hid (∀ (Bt : Nat) (w : World), Bt < w.heap.size → w.cell? ⟨Bt, 0, none⟩ = some (.string s) → Calls Tryz.prog 51 #[.func (.func 44) #[] #[.pointer (some ⟨Bt, 0, none⟩)]] w fun e W' => ∃ v, e = .returned v ∧ OwnK W' w.heap.size v (Ty.from_ s 0).length (Ty.from_ s 0) ∧ (v = .slice none 0 0 ↔ Ty.from_ s 0 = []) ∧ Below w.heap.size w W') := fun Bt w h1 h2 => collectTok Bt s (by omega) w h1 h2
    have HT : Hid (∀ w, Calls Tryz.prog 24 #[.string s] w fun e w' => e = .returned (.func (.func 44) #[] #[.pointer (some ⟨w.heap.size, 0, none⟩)]) ∧ w' = w.alloc (.cells #[.string s] 9)) := tokensIn_any s
    generalize Ty.from_ s 0 = l at *
    go_enter Tryz.func27, Tryz.ntmps27
    go_wp2_with fail
    refine (HT.out _).mono ?_
    rintro e w1 ⟨rfl, hw1⟩
    have hs1 : w1.heap.size = w.heap.size + 1 := by rw [hw1]; simp
    have b1 : Below w.heap.size w w1 := by rw [hw1]; exact (Below.refl _ _).alloc (Nat.le_refl _) _
    have hc1 : w1.cell? ⟨w.heap.size, 0, none⟩ = some (.string s) := by rw [hw1, World.cell?_alloc_at _ _ _ _ rfl]; rfl
    have HCC := HC.out w.heap.size w1 (by omega) hc1
    clear hw1 hs1
    go_wp2_with fail
    refine HCC.mono ?_
    rintro e w2 ⟨v, rfl, hv, hnil, hb⟩
    have HF : Hid (TkImp w l (.returned v) w2) := ⟨v, rfl, ⟨hv.1, by
      rcases hv.2 with h2 | ⟨g, cap, cur, e1, hg, r⟩
      · exact .inl h2
      · exact .inr ⟨g, cap, cur, e1, Nat.le_trans b1.size hg, r⟩⟩, hnil, b1.trans (hb.mono b1.size)⟩
    clear hv hnil hb HCC
    go_wp2_with fail
    go_ret
    exact HF.out
end Go.Proofs.YtcgmmpfckmhahaaGreat
