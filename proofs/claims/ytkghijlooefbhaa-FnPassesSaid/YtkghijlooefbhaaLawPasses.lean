/- The law that each point is in just one part, walked. -/
import Derived.Test.YtkghijlooefbhaaPsSpec
import Derived.Test.YtkghijlooefbhaaPsImpl
import Derived.Test.YtkghijlooefbhaaPsList
import Derived.Test.YtkghijlooefbhaaWiPasses
import Derived.Test.YtkghijlooefbhaaRowCode
namespace Go.Proofs.Ytkghijlooefbhaa
open Go.RowKit

theorem own_zero (w : World) (n : Nat) : Own (w.alloc (.cells (arr (List.replicate n 0)) 3)) w.heap.size n (fun _ => ((0 : Nat) : Int)) := by
  refine ⟨by simp, fun i hi => ⟨?_, ?_⟩⟩
  · rw [World.cell?_alloc_at _ _ _ _ rfl, arr_get _ _ (by simpa using hi)]; simp
  · rw [World.frozen?_alloc_at _ _ _ _ rfl]

theorem Own.low {w w' : World} {b n lo : Nat} {f : Nat → Int} (h : Own w b n f) (hb : Below lo w w') (hl : b < lo) : Own w' b n f :=
  ⟨Nat.lt_of_lt_of_le h.1 hb.size, fun i hi => ⟨(hb.cell (p := ⟨b, i, none⟩) hl).trans (h.2 i hi).1, (hb.frozen (p := ⟨b, i, none⟩) hl).trans (h.2 i hi).2⟩⟩

theorem Own.up {w : World} {b n k : Nat} {f g : Nat → Int} (v : Int) (h : Own w b n f) (hk : k < n) (hg : g k = v) (hf : ∀ i, i < n → i ≠ k → g i = f i) :
    Own (w.setCell ⟨b, k, none⟩ (.int .i64 v)) b n g := by
  refine ⟨by rw [World.size_setCell]; exact h.1, fun i hi => ⟨?_, ?_⟩⟩
  · by_cases e : i = k
    · subst e; rw [World.cell?_setCell_same _ _ _ (h.2 i hi).1, hg]
    · rw [World.cell?_setCell_other _ _ _ _ (fun q => e (congrArg Addr.off q).symm), (h.2 i hi).1, hf i hi e]
  · rw [World.frozen?_setCell]; exact (h.2 i hi).2

/-- six numbers in a block -/
def Six (w : World) (P : Nat) (a b c d e f : Nat) : Prop := w.cell? ⟨P, 0, none⟩ = some (.int .i64 (a : Int)) ∧ w.cell? ⟨P, 1, none⟩ = some (.int .i64 (b : Int)) ∧ w.cell? ⟨P, 2, none⟩ = some (.int .i64 (c : Int)) ∧ w.cell? ⟨P, 3, none⟩ = some (.int .i64 (d : Int)) ∧ w.cell? ⟨P, 4, none⟩ = some (.int .i64 (e : Int)) ∧ w.cell? ⟨P, 5, none⟩ = some (.int .i64 (f : Int))
theorem Six.new (w : World) (a b c d e f : Nat) (T : TypeId) : Six (w.alloc (.cells #[.int .i64 (a : Int), .int .i64 (b : Int), .int .i64 (c : Int), .int .i64 (d : Int), .int .i64 (e : Int), .int .i64 (f : Int)] T)) w.heap.size a b c d e f := by
  refine ⟨?_, ?_, ?_, ?_, ?_, ?_⟩ <;> (rw [World.cell?_alloc_at _ _ _ _ rfl]; rfl)
theorem Six.beside {w : World} {P a b c d e f S o : Nat} {v : Value} (h : Six w P a b c d e f) (hne : P ≠ S) : Six (w.setCell ⟨S, o, none⟩ v) P a b c d e f := by
  have hc : ∀ j, (w.setCell ⟨S, o, none⟩ v).cell? ⟨P, j, none⟩ = w.cell? ⟨P, j, none⟩ := fun j => World.cell?_setCell_other _ _ _ _ (fun q => hne (congrArg Addr.block q).symm)
  exact ⟨(hc 0).trans h.1, (hc 1).trans h.2.1, (hc 2).trans h.2.2.1, (hc 3).trans h.2.2.2.1, (hc 4).trans h.2.2.2.2.1, (hc 5).trans h.2.2.2.2.2⟩

set_option maxHeartbeats 8000000 in
set_option maxRecDepth 20000 in
theorem lawPasses (a : Option Addr) (len cap : Nat) (w : World) (h : Code8 w a len cap) :
    Calls Try.prog 3 #[.slice a len cap] w fun e w' => e = .returned (.bool true) ∧ Below w.heap.size w w' := by
  by_cases hbig : 1048576 < len
  · have hc := h.2.1
    have hc1 := h.1
    unfold maxLen at hc
    clear h
    go_enter Try.func3, Try.ntmps3
    go_wp2_with fail
    go_ret
    exact ⟨rfl, Below.refl _ _⟩
  · go_enter Try.func3, Try.ntmps3
    go_wp2_with fail
    refine (drawPassesOf_any a len cap w h).mono ?_
    rintro e w1 ⟨⟨wd, hh, rfl, hwd, hhh⟩, b1⟩
    clear h
    obtain ⟨n, hn⟩ : ∃ n, n = psN (wd : Int) (hh : Int) := ⟨_, rfl⟩
    obtain ⟨L, hL⟩ : ∃ L, L = psL (wd : Int) (hh : Int) := ⟨_, rfl⟩
    obtain ⟨hlen, hn7⟩ := ps_len (wd : Int) (hh : Int)
    rw [← hn] at hlen hn7
    rw [← hL] at hlen
    have HSP : Hid (∀ w : World, Calls Try.prog 12 #[.int .i64 (wd : Int), .int .i64 (hh : Int)] w fun e w' => (∃ ao cap, e = .returned (.slice ao n cap) ∧ Ints w' ao L) ∧ Below w.heap.size w w') := fun w => by rw [hn, hL]; exact spec_passes _ _ w
    have HIM : Hid (∀ w : World, Calls Try.prog 10 #[.int .i64 (wd : Int), .int .i64 (hh : Int)] w fun e w' => (∃ ao cap, e = .returned (.slice ao n cap) ∧ Owns w' w.heap.size ao L) ∧ Below w.heap.size w w') := fun w => by rw [hn, hL]; exact impl_passes _ _ w
    have HEQ : Hid (∀ (a : Option Addr) (ca : Nat) (b : Option Addr) (cb : Nat) (w : World), Ints w a L → Ints w b L → Calls Try.prog 11 #[.slice a n ca, .slice b n cb] w fun e w' => e = .returned (.bool true) ∧ ∃ m, w' = w.drewN m) := fun a ca b cb w h1 h2 => wiPasses_same a ca b cb n L w h1 h2 hlen (by omega)
    have HNL : Hid (n = psN (wd : Int) (hh : Int) ∧ L = psL (wd : Int) (hh : Int) ∧ L.length = n * 6) := ⟨hn, hL, hlen⟩
    clear hn hL hlen
    go_wp2_with fail
    refine (HIM.out _).mono ?_
    rintro e w2 ⟨⟨a1, c1, rfl, hO1⟩, b2⟩
    have I2 : Hid (Ints w2 a1 L) := hO1.ints
    have bel2 : Below w.heap.size w w2 := b1.trans (b2.mono b1.size)
    clear b1 b2 hO1 HIM
    go_wp2_with fail
    refine (HSP.out _).mono ?_
    rintro e w3 ⟨⟨a3, c3, rfl, hI3⟩, b3⟩
    have I3 : Hid (Ints w3 a1 L ∧ Ints w3 a3 L) := ⟨I2.out.kept b3, hI3⟩
    have bel3 : Below w.heap.size w w3 := bel2.trans (b3.mono bel2.size)
    clear b3 hI3 bel2 I2
    go_wp2_with fail
    refine (HEQ.out a1 c1 a3 c3 w3 I3.out.1 I3.out.2).mono ?_
    rintro e w4 ⟨rfl, m4, hw4⟩
    have I4 : Hid (Ints w4 a1 L) := by rw [hw4]; exact I3.out.1
    have bel4 : Below w.heap.size w w4 := by rw [hw4]; exact below_drewN bel3 _
    clear hw4 bel3 I3
    by_cases hn0 : n = 0
    · subst hn0
      go_wp2_with fail
      refine (HSP.out _).mono ?_
      rintro e w5 ⟨⟨a5, c5, rfl, hI5⟩, b5⟩
      have I5 : Hid (Ints w5 a1 L ∧ Ints w5 a5 L) := ⟨I4.out.kept b5, hI5⟩
      have bel5 : Below w.heap.size w w5 := bel4.trans (b5.mono bel4.size)
      clear b5 hI5 bel4 I4
      go_wp2_with fail
      refine (HEQ.out a1 c1 a5 c5 w5 I5.out.1 I5.out.2).mono ?_
      rintro e w6 ⟨rfl, m6, hw6⟩
      have bel6 : Below w.heap.size w w6 := by rw [hw6]; exact below_drewN bel5 _
      clear hw6 bel5 I5
      go_wp2_with fail
      go_ret
      exact ⟨rfl, bel6⟩
    · have hsz : SzOk (wd : Int) (hh : Int) := by
        rcases Classical.em (SzOk (wd : Int) (hh : Int)) with g | g
        · exact g
        · exact absurd (by rw [HNL.out.1, (ps_no g).1]) hn0
      have HCN : Hid (n = Ps.cnt wd hh 7 ∧ L = Ps.flat wd hh 7) := by
        have := ps_yes hsz
        rw [Int.toNat_natCast, Int.toNat_natCast] at this
        exact ⟨by rw [HNL.out.1, this.1], by rw [HNL.out.2.1, this.2]⟩
      obtain ⟨⟨hw1, hw20⟩, ⟨hh1, hh20⟩⟩ := hsz
      have hw1' : 1 ≤ wd := by omega
      have hw20' : wd ≤ 20 := by omega
      have hh20' : hh ≤ 20 := by omega
      obtain ⟨N, hN⟩ : ∃ N, N = wd * hh := ⟨_, rfl⟩
      have hNb : N ≤ 400 := by rw [hN]; exact Nat.mul_le_mul hw20' hh20'
      have hNi : (wd : Int) * (hh : Int) = (N : Int) := by rw [hN]; simp
      have HN : Hid (N = wd * hh) := hN
      have hmk := make_row N (by omega)
      have hni : ((n : Int) == 0) = false := by rw [beq_eq_false_iff_ne]; omega
      have HO5 : Hid (Own (w4.alloc (.cells (arr (List.replicate N 0)) 3)) w4.heap.size N (fun _ => ((0 : Nat) : Int))) := own_zero w4 N
      have b5 : Below w4.heap.size w4 (w4.alloc (.cells (arr (List.replicate N 0)) 3)) := (Below.refl _ _).alloc (Nat.le_refl _) _
      have HB5 : Hid (Below w4.heap.size w4 (w4.alloc (.cells (arr (List.replicate N 0)) 3))) := b5
      clear hN b5 HSP HEQ hbig hw1 hw20 hh1 hh20
      go_wp2_with fail
      clear hmk
      go_loopw [7] (fun i wr => ∃ t j : Nat, t ≤ n ∧ i = .int .i64 t ∧ j ≤ 7 ∧ Ps.cnt wd hh j = t ∧ Own wr w4.heap.size N (fun c => ((Ps.tot wd hh c j : Nat) : Int)) ∧ Below w4.heap.size w4 wr) (fun i _ => n - (intOf i).toNat)
      case atStart => exact ⟨0, 0, Nat.zero_le _, rfl, by omega, rfl, HO5.out, HB5.out⟩
      case round =>
        obtain ⟨t, j, ht, rfl, hj, hcj, hO, hbel⟩ := hrel
        generalize wr = ow at *
        clear HO5 HB5
        by_cases hlt : t < n
        · obtain ⟨i0, hi7, hok, hci⟩ := Ps.at_list wd hh 7 t (by rw [← HCN.out.1]; exact hlt)
          have hTT : ∀ c, Ps.tot wd hh c j = Ps.tot wd hh c i0 := fun c => Ps.tot_eq wd hh c j i0 (by rw [hcj, hci])
          obtain ⟨b0, o0, e0, hb0, q0, q1, q2, q3, q4, q5⟩ := ints_six (I4.out.kept hbel) HNL.out.2.2 hlt
          subst e0
          have F : ∀ z, z < 6 → L.getD (t * 6 + z) 0 = (Ps.row wd hh i0).getD z 0 := fun z hz => by rw [HCN.out.2, ← hci]; exact Ps.flat_at hi7 hok hz
          obtain ⟨x0, hx0⟩ : ∃ x0, x0 = Ps.px i0 := ⟨_, rfl⟩
          obtain ⟨y0, hy0⟩ : ∃ y0, y0 = Ps.py i0 := ⟨_, rfl⟩
          obtain ⟨p, hp⟩ : ∃ p, p = Ps.dx i0 := ⟨_, rfl⟩
          obtain ⟨q, hq⟩ : ∃ q, q = Ps.dy i0 := ⟨_, rfl⟩
          obtain ⟨n1, hn1⟩ : ∃ n1, n1 = Ps.num (Ps.px i0) (Ps.dx i0) wd := ⟨_, rfl⟩
          obtain ⟨n2, hn2⟩ : ∃ n2, n2 = Ps.num (Ps.py i0) (Ps.dy i0) hh := ⟨_, rfl⟩
          obtain ⟨bx1, by1, bd1, bd8, be1, be8, _, _⟩ := Ps.bounds i0 hi7
          have hn1b : n1 ≤ 28 := by rw [hn1]; exact Ps.num_le bd1 bd8 hw20'
          have hn2b : n2 ≤ 28 := by rw [hn2]; exact Ps.num_le be1 be8 hh20'
          have hn1p : 1 ≤ n1 := by rw [hn1]; exact Ps.num_pos bd1 hok.1
          have R : Ps.row wd hh i0 = [(x0 : Int), (y0 : Int), (p : Int), (q : Int), (n1 : Int), (n2 : Int)] := by rw [hx0, hy0, hp, hq, hn1, hn2]; rfl
          have g0 : L.getD (t * 6) 0 = (x0 : Int) := by
            have := F 0 (by omega)
            rw [R] at this; exact this
          rw [g0] at q0
          have g1 : L.getD (t * 6 + 1) 0 = (y0 : Int) := by
            have := F 1 (by omega)
            rw [R] at this; exact this
          rw [g1] at q1
          have g2 : L.getD (t * 6 + 2) 0 = (p : Int) := by
            have := F 2 (by omega)
            rw [R] at this; exact this
          rw [g2] at q2
          have g3 : L.getD (t * 6 + 3) 0 = (q : Int) := by
            have := F 3 (by omega)
            rw [R] at this; exact this
          rw [g3] at q3
          have g4 : L.getD (t * 6 + 4) 0 = (n1 : Int) := by
            have := F 4 (by omega)
            rw [R] at this; exact this
          rw [g4] at q4
          have g5 : L.getD (t * 6 + 5) 0 = (n2 : Int) := by
            have := F 5 (by omega)
            rw [R] at this; exact this
          rw [g5] at q5
          obtain ⟨s, hs⟩ : ∃ s : Nat → Nat, s = fun k => Ps.spot wd i0 k n1 := ⟨_, rfl⟩
          obtain ⟨T, hT⟩ : ∃ T : Nat → Nat, T = fun c => Ps.tot wd hh c i0 := ⟨_, rfl⟩
          obtain ⟨M, hM⟩ : ∃ M, M = n1 * n2 := ⟨_, rfl⟩
          have hMb : M ≤ 784 := by rw [hM]; exact Nat.mul_le_mul hn1b hn2b
          have hMi : (n1 : Int) * (n2 : Int) = (M : Int) := by rw [hM]; simp
          have HS : Hid (∀ k, k < M → x0 + k % n1 * p < wd ∧ y0 + k / n1 * q < hh ∧ s k = (y0 + k / n1 * q) * wd + (x0 + k % n1 * p)) := fun k hk => by
            have := Ps.spot_in (i := i0) (wd := wd) (hh := hh) (k := k) hi7 hok.1 hok.2 (by rw [← hn1, ← hn2, ← hM]; exact hk)
            rw [← hn1, ← hx0, ← hy0, ← hp, ← hq] at this
            exact ⟨this.1, this.2, by rw [hs, hx0, hy0, hp, hq]; rfl⟩
          have HT : Hid (∀ c, T c ≤ 5488) := fun c => by
            rw [hT]
            have := Ps.tot_le (wd := wd) (hi := hh) c hw20' hh20' i0 (by omega)
            show Ps.tot wd hh c i0 ≤ 5488
            omega
          have HEND : Hid (Ps.cnt wd hh (i0 + 1) = t + 1 ∧ i0 + 1 ≤ 7 ∧ ∀ c, Ps.tot wd hh c (i0 + 1) = T c + Ps.hits s c M) := by
            refine ⟨by rw [(Ps.flat_yes hok).2, hci], by omega, fun c => ?_⟩
            rw [Ps.tot, if_pos hok, hT, hs, hM, hn1, hn2]
          have HO : Hid (Own ow w4.heap.size N (fun c => ((T c + Ps.hits s c 0 : Nat) : Int))) := by
            have e : (fun c => ((Ps.tot wd hh c j : Nat) : Int)) = (fun c => ((T c + Ps.hits s c 0 : Nat) : Int)) := by
              funext c; rw [hTT c, hT]; rfl
            rw [e] at hO; exact hO
          have hSr : w4.heap.size < ow.heap.size := hO.1
          have HBL : Hid (Below w4.heap.size w4 ow) := hbel
          have hti : (t : Int) < (n : Int) := by omega
          have hxb : x0 ≤ 4 := by omega
          have hyb : y0 ≤ 4 := by omega
          have hpb : p ≤ 8 := by omega
          have hqb : q ≤ 8 := by omega
          have hn10 : ¬ n1 = 0 := by omega
          have hn1e : ((n1 : Int) == 0) = false := by rw [beq_eq_false_iff_ne]; omega
          have X0 : Hid (Six (ow.alloc (.cells #[.int .i64 (x0 : Int), .int .i64 (y0 : Int), .int .i64 (p : Int), .int .i64 (q : Int), .int .i64 (n1 : Int), .int .i64 (n2 : Int)] 30)) ow.heap.size x0 y0 p q n1 n2) := Six.new ow x0 y0 p q n1 n2 _
          have HO0 : Hid (Own (ow.alloc (.cells #[.int .i64 (x0 : Int), .int .i64 (y0 : Int), .int .i64 (p : Int), .int .i64 (q : Int), .int .i64 (n1 : Int), .int .i64 (n2 : Int)] 30)) w4.heap.size N (fun c => ((T c + Ps.hits s c 0 : Nat) : Int))) := HO.out.low ((Below.refl _ _).alloc (Nat.le_refl _) _) hSr
          have HB0 : Hid (Below w4.heap.size w4 (ow.alloc (.cells #[.int .i64 (x0 : Int), .int .i64 (y0 : Int), .int .i64 (p : Int), .int .i64 (q : Int), .int .i64 (n1 : Int), .int .i64 (n2 : Int)] 30))) := hbel.alloc (by omega) _
          clear hTT F R g0 g1 g2 g3 g4 g5 hx0 hy0 hp hq hn1 hn2 hs hT hM hO hbel hok hci bx1 by1 bd1 bd8 be1 be8 hi7 hcj
          go_wp2_with fail
          clear q0 q1 q2 q3 q4 q5
          go_loopw [9] (fun i wr => ∃ k : Nat, k ≤ M ∧ i = .int .i64 k ∧ Six wr ow.heap.size x0 y0 p q n1 n2 ∧ Own wr w4.heap.size N (fun c => ((T c + Ps.hits s c k : Nat) : Int)) ∧ Below w4.heap.size w4 wr) (fun i _ => M - (intOf i).toNat)
          case atStart => exact ⟨0, Nat.zero_le _, rfl, X0.out, HO0.out, HB0.out⟩
          case round =>
            obtain ⟨k, hk, rfl, hX, hO2, hb2⟩ := hrel
            clear X0 HO0 HB0
            obtain ⟨z0, z1, z2, z3, z4, z5⟩ := hX
            have HX : Hid (Six wr ow.heap.size x0 y0 p q n1 n2) := ⟨z0, z1, z2, z3, z4, z5⟩
            by_cases hkM : k < M
            · obtain ⟨hsx, hsy, hsk⟩ := HS.out k hkM
              obtain ⟨r, hr⟩ : ∃ r, r = k % n1 := ⟨_, rfl⟩
              obtain ⟨d, hd⟩ : ∃ d, d = k / n1 := ⟨_, rfl⟩
              rw [← hr, ← hd] at hsk
              rw [← hr] at hsx
              rw [← hd] at hsy
              obtain ⟨A, hA⟩ : ∃ A, A = r * p := ⟨_, rfl⟩
              obtain ⟨B, hB⟩ : ∃ B, B = d * q := ⟨_, rfl⟩
              rw [← hA, ← hB] at hsk
              rw [← hA] at hsx
              rw [← hB] at hsy
              obtain ⟨X, hXX⟩ : ∃ X, X = x0 + A := ⟨_, rfl⟩
              obtain ⟨Y, hYY⟩ : ∃ Y, Y = y0 + B := ⟨_, rfl⟩
              rw [← hXX, ← hYY] at hsk
              rw [← hXX] at hsx
              rw [← hYY] at hsy
              obtain ⟨E, hE⟩ : ∃ E, E = Y * wd := ⟨_, rfl⟩
              obtain ⟨C, hC⟩ : ∃ C, C = E + X := ⟨_, rfl⟩
              have hCN : C < N := by
                have h1 : (Y + 1) * wd ≤ hh * wd := Nat.mul_le_mul_right _ (by omega)
                rw [Nat.add_mul, Nat.one_mul, ← hE, Nat.mul_comm hh wd, ← HN.out] at h1
                omega
              have hsC : s k = C := by rw [hsk, hC, hE]
              have i1 : (k : Int).tmod (n1 : Int) = (r : Int) := by rw [Int.tmod_eq_emod_of_nonneg (by omega), hr]; rfl
              have i2 : (k : Int).tdiv (n1 : Int) = (d : Int) := by rw [Int.tdiv_eq_ediv_of_nonneg (by omega), hd]; rfl
              have i3 : (r : Int) * (p : Int) = (A : Int) := by rw [hA]; simp
              have i4 : (d : Int) * (q : Int) = (B : Int) := by rw [hB]; simp
              have i5 : (x0 : Int) + (A : Int) = (X : Int) := by omega
              have i6 : (y0 : Int) + (B : Int) = (Y : Int) := by omega
              have i7 : (Y : Int) * (wd : Int) = (E : Int) := by rw [hE]; simp
              have i8 : (E : Int) + (X : Int) = (C : Int) := by omega
              have u1 := wrap_i64_nat r (by have : r ≤ k := by rw [hr]; exact Nat.mod_le _ _
                                            omega)
              have u2 := wrap_i64_nat d (by have : d ≤ k := by rw [hd]; exact Nat.div_le_self _ _
                                            omega)
              have u3 := wrap_i64_nat A (by omega)
              have u4 := wrap_i64_nat B (by omega)
              have u5 := wrap_i64_nat X (by omega)
              have u6 := wrap_i64_nat Y (by omega)
              have hki : (k : Int) < (M : Int) := by omega
              have dx1 : decide ((wd : Int) ≤ (X : Int)) = false := by simp; omega
              have dy1 : decide ((hh : Int) ≤ (Y : Int)) = false := by simp; omega
              have hEb : E ≤ 400 := by omega
              obtain ⟨v, hv⟩ : ∃ v, v = T C + Ps.hits s C k := ⟨_, rfl⟩
              have hvb : v ≤ 7000 := by
                have h1 := HT.out C
                have h2 := Ps.hits_le s C k
                omega
              obtain ⟨hcell, hfr⟩ := hO2.2 C hCN
              have hcell' : wr.cell? ⟨w4.heap.size, C, none⟩ = some (.int .i64 (v : Int)) := by rw [hv]; exact hcell
              have HNX : Hid (∀ m, Own ((wr.drewN m).setCell ⟨w4.heap.size, C, none⟩ (.int .i64 ((v + 1 : Nat) : Int))) w4.heap.size N (fun c => ((T c + Ps.hits s c (k + 1) : Nat) : Int))) := fun m => by
                have h0 : Own (wr.drewN m) w4.heap.size N (fun c => ((T c + Ps.hits s c k : Nat) : Int)) := hO2
                refine h0.up _ hCN ?_ ?_
                · show ((T C + Ps.hits s C (k + 1) : Nat) : Int) = _
                  rw [Ps.hits, if_pos hsC, hv]; rfl
                · intro c _ hne
                  show ((T c + Ps.hits s c (k + 1) : Nat) : Int) = ((T c + Ps.hits s c k : Nat) : Int)
                  rw [Ps.hits, if_neg (by rw [hsC]; exact fun e => hne e.symm), Nat.add_zero]
              have HBX : Hid (∀ m v, Below w4.heap.size w4 ((wr.drewN m).setCell ⟨w4.heap.size, C, none⟩ v)) := fun m v => (below_drewN hb2 m).setCell (p := ⟨w4.heap.size, C, none⟩) (Nat.le_refl _) v
              have HSX : Hid (∀ m v, Six ((wr.drewN m).setCell ⟨w4.heap.size, C, none⟩ v) ow.heap.size x0 y0 p q n1 n2) := fun m v => Six.beside (w := wr.drewN m) HX.out (by omega)
              have hvi : (v : Int) + 1 = ((v + 1 : Nat) : Int) := by omega
              clear hr hd hA hB hXX hYY hE hC hsk hsC hv hcell hO2 hb2 HX
              generalize v + 1 = v' at *
              go_wp2_with fail
              go_quiet (fail)
              go_wp2_with fail
              go_quiet (fail)
              go_wp2_with fail
              go_roundw
              case rel => exact ⟨k + 1, by omega, by go_num, HSX.out _ _, HNX.out _, HBX.out _ _⟩
              case measure => simp [intOf]; omega
            · have hkM' : k = M := by omega
              subst hkM'
              have HF : Hid (Own wr w4.heap.size N (fun c => ((Ps.tot wd hh c (i0 + 1) : Nat) : Int)) ∧ Below w4.heap.size w4 wr) := by
                refine ⟨?_, hb2⟩
                have e : (fun c => ((Ps.tot wd hh c (i0 + 1) : Nat) : Int)) = (fun c => ((T c + Ps.hits s c k : Nat) : Int)) := by
                  funext c; rw [HEND.out.2.2 c]
                rw [e]; exact hO2
              have hlt' : ¬ (k : Int) < (k : Int) := by omega
              clear hO2 hb2 HX
              go_wp2_with fail
              go_roundw
              case rel => exact ⟨t + 1, i0 + 1, by omega, by go_num, HEND.out.2.1, HEND.out.1, HF.out.1, HF.out.2⟩
              case measure => simp [intOf]; omega
        · have htn : t = n := by omega
          have HONE : Hid (∀ c, c < N → ow.cell? ⟨w4.heap.size, c, none⟩ = some (.int .i64 1)) := fun c hc => by
            have h1 := (hO.2 c hc).1
            have h2 : Ps.tot wd hh c j = 1 := by
              rw [Ps.tot_eq wd hh c j 7 (by rw [hcj, htn, HCN.out.1])]
              exact Ps.tot_place hw1' (by rw [← HN.out]; exact hc)
            rw [h1]
            show some (Value.int .i64 ((Ps.tot wd hh c j : Nat) : Int)) = _
            rw [h2]; rfl
          have belF : Below w.heap.size w ow := bel4.trans (hbel.mono bel4.size)
          have hlt' : ¬ (t : Int) < (n : Int) := by omega
          have hnle : decide ((n : Int) ≤ 7) = true := by simp; omega
          clear hO hbel
          go_wp2_with fail
          go_loop [12] (fun i => ∃ k : Nat, k ≤ N ∧ i = .int .i64 k) (fun i => N - (intOf i).toNat)
          case atStart => exact ⟨0, Nat.zero_le _, rfl⟩
          case round =>
            obtain ⟨k, hk, rfl⟩ := hrel
            by_cases hkN : k < N
            · have hc := HONE.out k hkN
              have hki : (k : Int) < (N : Int) := by omega
              go_wp2_with fail
              go_round
              case rel => exact ⟨k + 1, by omega, by go_num⟩
              case measure => simp [intOf]; omega
            · have hki : ¬ (k : Int) < (N : Int) := by omega
              go_wp2_with fail
              go_ret
              exact ⟨rfl, belF⟩
end Go.Proofs.Ytkghijlooefbhaa
