/- Numbers of how often each comes are halved until no length is too great (mathematics); halves, fitOk. -/
import Derived.Test.YtcolgcddhchkhaaCtOnes
import Derived.Test.YtcolgcddhchkhaaCtImpl
import Derived.Test.YtcolgcddhchkhaaExCodeCost
namespace Go.Proofs.Ytcolgcddhchkhaa
open Go.RowKit
namespace Ct

def half (z : Int) : Int := (z + 1) / 2
def hv (zs : List Int) : List Int := zs.map half
theorem hv_len (zs : List Int) : (hv zs).length = zs.length := by unfold hv; simp
theorem hv_get {zs : List Int} {i : Nat} (h : i < zs.length) : (hv zs).getD i 0 = half (zs.getD i 0) := by
  unfold hv
  rw [List.getD_eq_getElem?_getD, List.getD_eq_getElem?_getD, List.getElem?_map, List.getElem?_eq_getElem h]; rfl
/-- all that is asked of the numbers -/
def Good (m : Nat) (zs : List Int) : Prop := zs.length ≤ 300 ∧ (∀ i, i < zs.length → 0 ≤ zs.getD i 0 ∧ zs.getD i 0 ≤ 9000) ∧ come zs ≤ 2 ^ m
theorem come_hv_k {zs : List Int} (h : ∀ i, i < zs.length → 0 ≤ zs.getD i 0 ∧ zs.getD i 0 ≤ 9000) : ∀ k, k ≤ zs.length → (initT (hv zs) k).length = (initT zs k).length
  | 0, _ => rfl
  | k + 1, hk => by
    have ih := come_hv_k h k (by omega)
    have hz := h k (by omega)
    unfold initT
    rw [hv_get (by omega)]
    unfold half
    by_cases hp : 0 < zs.getD k 0
    · rw [if_pos hp, if_pos (by omega), List.length_append, List.length_append, ih]; rfl
    · rw [if_neg hp, if_neg (by omega), ih]
theorem Good.hv {m : Nat} {zs : List Int} (h : Good m zs) : Good m (hv zs) := by
  obtain ⟨h1, h2, h3⟩ := h
  refine ⟨by rw [hv_len]; exact h1, fun i hi => ?_, ?_⟩
  · rw [hv_len] at hi
    rw [hv_get hi]
    have := h2 i hi
    unfold half
    omega
  · unfold come at *
    rw [hv_len, come_hv_k h2 _ (Nat.le_refl _)]
    exact h3
/-- the lengths at the end -/
inductive Fits (m : Nat) : List Int → (Nat → Nat) → Prop
  | stop {zs : List Int} {F : Nat → Nat} : IsLens zs F → (∀ i, i < zs.length → F i ≤ m) → Fits m zs F
  | more {zs : List Int} {F G : Nat → Nat} : IsLens zs F → (∃ i, i < zs.length ∧ m < F i) → Fits m (hv zs) G → Fits m zs G
theorem Fits.same {m : Nat} {zs : List Int} {F G : Nat → Nat} (h : Fits m zs F) (k : Fits m zs G) : F = G := by
  induction h generalizing G with
  | stop h1 h2 =>
    cases k with
    | stop k1 k2 => exact h1.same k1
    | more k1 k2 k3 =>
      obtain ⟨i, hi, hgt⟩ := k2
      have := h2 i hi
      rw [h1.same k1] at this
      omega
  | more h1 h2 h3 ih =>
    cases k with
    | stop k1 k2 =>
      obtain ⟨i, hi, hgt⟩ := h2
      have := k2 i hi
      rw [← h1.same k1] at this
      omega
    | more k1 k2 k3 => exact ih k3
def tot (zs : List Int) : Nat := Cf.sum (fun z : Int => z.toNat) zs
theorem tot_hv : ∀ {zs : List Int}, (∀ z ∈ zs, 0 ≤ z) → tot (hv zs) ≤ tot zs ∧ ((∃ z ∈ zs, 1 < z) → tot (hv zs) < tot zs)
  | [], _ => ⟨Nat.le_refl _, fun ⟨z, hz, _⟩ => by simp at hz⟩
  | z :: zs, h => by
    obtain ⟨h1, h2⟩ := tot_hv (zs := zs) (fun y hy => h y (by simp [hy]))
    have hz := h z (by simp)
    have e1 : tot (hv (z :: zs)) = (half z).toNat + tot (hv zs) := rfl
    have e2 : tot (z :: zs) = z.toNat + tot zs := rfl
    have e3 : (half z).toNat ≤ z.toNat := by unfold half; omega
    rw [e1, e2]
    refine ⟨by omega, fun ⟨y, hy, hgt⟩ => ?_⟩
    rcases List.mem_cons.1 hy with rfl | hy
    · have : (half y).toNat < y.toNat := by unfold half; omega
      omega
    · have := h2 ⟨y, hy, hgt⟩
      omega
/-- where one length is too great the numbers can be halved -/
theorem Good.less {m : Nat} {zs : List Int} {F : Nat → Nat} (h : Good m zs) (hm : 1 ≤ m) (hF : IsLens zs F) (hx : ∃ i, i < zs.length ∧ m < F i) : tot (Ct.hv zs) < tot zs := by
  refine (tot_hv (fun z hz => ?_)).2 ?_
  · obtain ⟨i, hi, rfl⟩ := List.mem_iff_getElem.1 hz
    have := (h.2.1 i hi).1
    rwa [List.getD_eq_getElem?_getD, List.getElem?_eq_getElem hi] at this
  · by_cases c : ∃ z ∈ zs, 1 < z
    · exact c
    · exfalso
      obtain ⟨i, hi, hgt⟩ := hx
      have h1 := ones_deep (zs := zs) (fun i hi => by
        rw [List.getD_eq_getElem?_getD, List.getElem?_eq_getElem hi]
        show zs[i] ≤ 1
        rcases Int.lt_or_le 1 zs[i] with q | q
        · exact absurd ⟨zs[i], List.getElem_mem hi, q⟩ c
        · exact q) hm h.2.2
      have h2 := hF.deep i
      omega
end Ct

/-- the numbers that lie in memory, summed up -/
def memSum (w : World) : Value → Nat
  | .slice (some a) n _ => Ct.tot ((List.range n).map (fun i => intOf ((w.cell? ⟨a.block, a.off + i, none⟩).getD undef)))
  | _ => 0
theorem memSum_is {w : World} {a : Option Addr} {n c : Nat} {l : List Int} (h : Ints w a l) (hn : l.length = n) : memSum w (.slice a n c) = Ct.tot l := by
  rcases h with rfl | ⟨b, off, rfl, _, hc⟩
  · subst hn
    cases a <;> rfl
  · show Ct.tot ((List.range n).map (fun i => intOf ((w.cell? ⟨b, off + i, none⟩).getD undef))) = Ct.tot l
    congr 1
    apply List.ext_getElem
    · simp [hn]
    · intro i h1 h2
      simp only [List.getElem_map, List.getElem_range]
      rw [hc i h2]
      rfl
def halfArr (zs : List Int) (n k : Nat) : Array Value := ((List.range n).map (fun i => if i < k then Value.int .i64 (Ct.half (zs.getD i 0)) else .int .i64 0)).toArray
set_option maxHeartbeats 2000000 in
set_option maxRecDepth 20000 in
theorem halves_any (a : Option Addr) (n cap : Nat) (zs : List Int) (w : World) (h : Ints w a zs) (hn : zs.length = n) (hb : n ≤ 300) (hz : ∀ i, i < zs.length → 0 ≤ zs.getD i 0 ∧ zs.getD i 0 ≤ 9000) :
    Calls Try.prog 43 #[.slice a n cap] w fun e w' => e = .returned (.slice (some ⟨w.heap.size, 0, none⟩) n n) ∧ Ints w' (some ⟨w.heap.size, 0, none⟩) (Ct.hv zs) ∧ Below w.heap.size w w' := by
  have HI : Hid (Ints w a zs) := h
  have HN : Hid (zs.length = n) := hn
  have HZ : Hid (∀ i, i < zs.length → 0 ≤ zs.getD i 0 ∧ zs.getD i 0 ≤ 9000) := hz
  have hmk := make_arr zs n hn (by omega) w
  obtain ⟨w1, hw1⟩ : ∃ w1, w1 = w.alloc (.cells (arr (Mk.outer zs 0).2) 3) := ⟨_, rfl⟩
  have b1 : Below w.heap.size w w1 := by rw [hw1]; exact (Below.refl _ _).alloc (Nat.le_refl _) _
  have HO1 : Hid (OwnL w1 w.heap.size n (fun _ => 0)) := by
    rw [hw1]
    refine ⟨⟨by simp, fun i hi => ⟨?_, by rw [World.frozen?_alloc_at _ _ _ _ rfl]⟩⟩, _, _, heap_alloc_new _ _⟩
    rw [World.cell?_alloc_at _ _ _ _ rfl, arr_get _ i (by rw [Mk.outer_len, hn]; exact hi)]
    simp [Mk.outer]
  rw [← hw1] at hmk
  clear h hn hz hw1
  go_enter Try.func43, Try.ntmps43
  go_wp2_with fail
  go_loopw [11] (fun i wr => ∃ (k : Nat) (f : Nat → Nat), k ≤ n ∧ i = .int .i64 (k : Int) ∧ Hid (OwnL wr w.heap.size n f ∧ Below w.heap.size w wr ∧ ∀ i, i < k → ((f i : Nat) : Int) = Ct.half (zs.getD i 0))) (fun i _ => n - (intOf i).toNat)
  case atStart => exact ⟨0, _, Nat.zero_le _, rfl, HO1.out, b1, fun i hi => by omega⟩
  case round =>
    obtain ⟨k, f, hk, rfl, HR⟩ := hrel
    by_cases hlt : k < n
    · have hki : (k : Int) < (n : Int) := by omega
      have hkl : k < zs.length := by rw [HN.out]; exact hlt
      obtain ⟨ab, ao, rfl, hac⟩ : ∃ ab ao, a = some ⟨ab, ao, none⟩ ∧ wr.cell? ⟨ab, ao + k, none⟩ = some (.int .i64 (zs.getD k 0)) := by
        rcases HI.out with e | ⟨b, off, e1, e2, e3⟩
        · rw [e] at hkl; simp at hkl
        · refine ⟨b, off, e1, (HR.out.2.1.cell (p := ⟨b, off + k, none⟩) e2).trans ?_⟩
          rw [e3 k hkl, List.getD_eq_getElem?_getD, List.getElem?_eq_getElem hkl]; rfl
      have hzk := HZ.out k hkl
      obtain ⟨z, hz⟩ : ∃ z : Nat, zs.getD k 0 = (z : Int) := ⟨(zs.getD k 0).toNat, by omega⟩
      rw [hz] at hac
      obtain ⟨z1, hz1⟩ : ∃ z1, z1 = z + 1 := ⟨_, rfl⟩
      have ez : (z : Int) + 1 = (z1 : Int) := by omega
      obtain ⟨H, hH⟩ : ∃ H, H = (z + 1) / 2 := ⟨_, rfl⟩
      have eH : (z1 : Int).tdiv 2 = (H : Int) := by rw [hH, ← hz1]; rfl
      have eH2 : (z1 : Int) / 2 = (H : Int) := by omega
      obtain ⟨h3, h4⟩ := HR.out.1.set hlt H
      have HR2 : Hid (OwnL (wr.setCell ⟨w.heap.size, k, none⟩ (.int .i64 (H : Int))) w.heap.size n (fun i => if i = k then H else f i) ∧ Below w.heap.size w (wr.setCell ⟨w.heap.size, k, none⟩ (.int .i64 (H : Int))) ∧ ∀ i, i < k + 1 → (((if i = k then H else f i) : Nat) : Int) = Ct.half (zs.getD i 0)) := by
        refine ⟨h3, HR.out.2.1.setCell (p := ⟨w.heap.size, k, none⟩) (Nat.le_refl _) _, fun i hi => ?_⟩
        by_cases e : i = k
        · subst e
          rw [if_pos rfl, hz]
          unfold Ct.half
          omega
        · rw [if_neg e]
          exact HR.out.2.2 i (by omega)
      obtain ⟨hcs, hfs⟩ := HR.out.1.1.2 k hlt
      have hzb : z1 ≤ 9001 := by omega
      generalize ((f k : Nat) : Int) = u at hcs
      clear HR h3 h4 hz hzk hz1 hH HO1
      go_wp2_with fail
      go_roundw
      case rel => exact ⟨k + 1, _, by omega, by go_num, HR2⟩
      case measure => simp [intOf]; omega
    · have hki : ¬ (k : Int) < (n : Int) := by omega
      obtain rfl : k = n := by omega
      have HF : Hid (Ints wr (some ⟨w.heap.size, 0, none⟩) (Ct.hv zs) ∧ Below w.heap.size w wr) := by
        refine ⟨.inr ⟨w.heap.size, 0, rfl, HR.out.1.1.1, fun i hi => ?_⟩, HR.out.2.1⟩
        rw [Ct.hv_len, HN.out] at hi
        have h5 : wr.cell? ⟨w.heap.size, i, none⟩ = some (.int .i64 ((f i : Nat) : Int)) := (HR.out.1.1.2 i hi).1
        rw [HR.out.2.2 i hi, ← Ct.hv_get (by rw [HN.out]; exact hi), List.getD_eq_getElem?_getD, List.getElem?_eq_getElem (by rw [Ct.hv_len, HN.out]; exact hi)] at h5
        rw [Nat.zero_add]
        exact h5
      clear HR HO1
      go_wp2_with fail
      go_ret
      exact ⟨rfl, HF.out.1, HF.out.2⟩
end Go.Proofs.Ytcolgcddhchkhaa
