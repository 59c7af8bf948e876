/- Sniff: the program's side. -/
import Derived.Test.YtjmeaeimpkijmaaGreatDoorProg
import Derived.Test.YtjmeaeimpkijmaaGreatDoorFmSniff
namespace Go.Proofs.YtjmeaeimpkijmaaGreatDoor
open Go.RowKit

def sAny (s : ByteArray) (k : Nat) : Bool := (fmtSigns k).any (begins s)
/-- what a text begins as -/
def SnAns (s : ByteArray) (r : Int) : Prop := (r = 0 ∧ ∀ j, j < 5 → sAny s j = false) ∨ ∃ k : Nat, k < 5 ∧ r = (k : Int) + 1 ∧ sAny s k = true ∧ ∀ j, j < k → sAny s j = false
theorem SnAns.same {s : ByteArray} {r t : Int} (h : SnAns s r) (g : SnAns s t) : r = t := by
  rcases h with ⟨rfl, h⟩ | ⟨k, hk, rfl, hy, hn⟩
  · rcases g with ⟨rfl, _⟩ | ⟨k, hk, rfl, hy, _⟩
    · rfl
    · rw [h k hk] at hy; cases hy
  · rcases g with ⟨rfl, g⟩ | ⟨m, hm, rfl, gy, gn⟩
    · rw [g k hk] at hy; cases hy
    · rcases Nat.lt_trichotomy k m with h | rfl | h
      · rw [gn k h] at hy; cases hy
      · rfl
      · rw [hn m h] at gy; cases gy
theorem signs_few (k : Nat) : (fmtSigns k).length ≤ 10 := by
  unfold fmtSigns
  repeat' split
  all_goals decide
set_option maxHeartbeats 4000000 in
set_option maxRecDepth 20000 in
theorem impl_sniff (s : ByteArray) (w : World) : Calls Tryz.prog 7 #[.string s] w fun e w' => (∃ r, e = .returned (.int .i64 r) ∧ SnAns s r) ∧ Below w.heap.size w w' := by
  have HFM : Hid (∀ w, Calls Tryz.prog 17 #[] w fun e w' => (∃ b, e = .returned (.slice (some ⟨b, 0, none⟩) 5 5) ∧ FmtRow w' b) ∧ Below w.heap.size w w') := formats_any
  go_enter Tryz.func7, Tryz.ntmps7
  go_wp2_with fail
  refine (HFM.out _).mono ?_
  rintro e w1 ⟨⟨b, rfl, hF⟩, b1⟩
  have HF : Hid (FmtRow w1 b ∧ Below w.heap.size w w1) := ⟨hF, b1⟩
  clear hF b1 HFM
  go_wp2_with fail
  go_loopw [7] (fun i wr => ∃ k : Nat, k ≤ 5 ∧ i = .int .i64 (k : Int) ∧ Hid ((∀ j, j < k → sAny s j = false) ∧ Below w1.heap.size w1 wr)) (fun i _ => 5 - (intOf i).toNat)
  case atStart => exact ⟨0, by omega, rfl, fun _ h => absurd h (Nat.not_lt_zero _), Below.refl _ _⟩
  case round =>
    obtain ⟨k, hk, rfl, HW⟩ := hrel
    by_cases hlt : k < 5
    · have hki : (k : Int) < 5 := by omega
      have hk0 : (0 : Int) ≤ (k : Int) := by omega
      have hFr := HF.out.1.below HW.out.2
      obtain ⟨nm, bx, c0, c1, c2, c3, c4, c5, c6, hsg⟩ := hFr.2 k hlt
      have hbb := hFr.1
      generalize fmtWays k = wy at *
      generalize fmtHolds k = hf at *
      generalize fmtPut k = pf at *
      generalize fmtGet k = gf at *
      have hg : (wr.alloc (.cells #[.int .i64 0, .string ⟨#[]⟩, .int .i64 0, .nilFunc, .nilFunc, .nilFunc, .nilFunc] 43)).heap[wr.heap.size]? = some (.cells #[.int .i64 0, .string ⟨#[]⟩, .int .i64 0, .nilFunc, .nilFunc, .nilFunc, .nilFunc] 43 (0, 0)) := heap_alloc_new _ _
      have hs := setRow_heap _ _ _ #[.int .i64 ((k : Int) + 1), .string nm, .int .i64 wy, .func (.func 50) #[] #[.pointer (some ⟨bx, 0, none⟩)], .func (.func hf) #[] #[], .func (.func pf) #[] #[], .func (.func gf) #[] #[]] _ _ hg
      have k0 : ((wr.alloc (.cells #[.int .i64 0, .string ⟨#[]⟩, .int .i64 0, .nilFunc, .nilFunc, .nilFunc, .nilFunc] 43)).setRow wr.heap.size #[.int .i64 ((k : Int) + 1), .string nm, .int .i64 wy, .func (.func 50) #[] #[.pointer (some ⟨bx, 0, none⟩)], .func (.func hf) #[] #[], .func (.func pf) #[] #[], .func (.func gf) #[] #[]]).cell? ⟨wr.heap.size, 0, none⟩ = some (.int .i64 ((k : Int) + 1)) := by simp only [World.cell?, hs]; rfl
      have k3 : ((wr.alloc (.cells #[.int .i64 0, .string ⟨#[]⟩, .int .i64 0, .nilFunc, .nilFunc, .nilFunc, .nilFunc] 43)).setRow wr.heap.size #[.int .i64 ((k : Int) + 1), .string nm, .int .i64 wy, .func (.func 50) #[] #[.pointer (some ⟨bx, 0, none⟩)], .func (.func hf) #[] #[], .func (.func pf) #[] #[], .func (.func gf) #[] #[]]).cell? ⟨wr.heap.size, 3, none⟩ = some (.func (.func 50) #[] #[.pointer (some ⟨bx, 0, none⟩)]) := by simp only [World.cell?, hs]; rfl
      have hI7 : (Tryz.prog.info? 43).map (·.size) = some (#[Value.int .i64 ((k : Int) + 1), .string nm, .int .i64 wy, .func (.func 50) #[] #[.pointer (some ⟨bx, 0, none⟩)], .func (.func hf) #[] #[], .func (.func pf) #[] #[], .func (.func gf) #[] #[]]).size := by kernel_rfl
      have h17 : (#[Value.int .i64 ((k : Int) + 1), .string nm, .int .i64 wy, .func (.func 50) #[] #[.pointer (some ⟨bx, 0, none⟩)], .func (.func hf) #[] #[], .func (.func pf) #[] #[], .func (.func gf) #[] #[]]).all (·.oneCell') = true := by simp [Value.oneCell']
      obtain ⟨V, hV⟩ : ∃ V, V = (wr.alloc (.cells #[.int .i64 0, .string ⟨#[]⟩, .int .i64 0, .nilFunc, .nilFunc, .nilFunc, .nilFunc] 43)).setRow wr.heap.size #[.int .i64 ((k : Int) + 1), .string nm, .int .i64 wy, .func (.func 50) #[] #[.pointer (some ⟨bx, 0, none⟩)], .func (.func hf) #[] #[], .func (.func pf) #[] #[], .func (.func gf) #[] #[]] := ⟨_, rfl⟩
      have bV : Below wr.heap.size wr V := by
        have b2 : Below wr.heap.size wr (wr.alloc (.cells #[.int .i64 0, .string ⟨#[]⟩, .int .i64 0, .nilFunc, .nilFunc, .nilFunc, .nilFunc] 43)) := (Below.refl _ _).alloc (Nat.le_refl _) _
        rw [hV]
        exact b2.trans ⟨rfl, rfl, rfl, by simp, fun i hi => setRow_other _ wr.heap.size i _ (by omega)⟩
      have k0V := k0
      rw [← hV] at k0V
      have hsz : wr.heap.size < V.heap.size := by
        rw [hV]; simp
      have HV : Hid (Below w1.heap.size w1 V ∧ V.cell? ⟨wr.heap.size, 0, none⟩ = some (.int .i64 ((k : Int) + 1)) ∧ wr.heap.size < V.heap.size) := ⟨HW.out.2.trans (bV.mono HW.out.2.size), k0V, hsz⟩
      have HSG : Hid (Calls Tryz.prog 50 #[.string s, .pointer (some ⟨bx, 0, none⟩)] V fun e w' => e = .returned (.bool (sAny s k)) ∧ Below V.heap.size V w') := signs_any s (fmtSigns k) bx V (hsg.below bV) (signs_few k)
      have HNO : Hid (∀ j, j < k → sAny s j = false) := HW.out.1
      obtain ⟨r, hr⟩ : ∃ r, r = sAny s k := ⟨_, rfl⟩
      have HR : Hid (sAny s k = r) := hr.symm
      rw [← hr] at HSG
      clear hr hs hsg hFr bV k0V hsz HW k0
      go_wp2_with (refine wpList_store_row rfl 43 (.tmp 4) (.tmp 10) rfl wr.heap.size #[.int .i64 ((k : Int) + 1), .string nm, .int .i64 wy, .func (.func 50) #[] #[.pointer (some ⟨bx, 0, none⟩)], .func (.func hf) #[] #[], .func (.func pf) #[] #[], .func (.func gf) #[] #[]] rfl rfl 43 #[.int .i64 0, .string ⟨#[]⟩, .int .i64 0, .nilFunc, .nilFunc, .nilFunc, .nilFunc] hg hI7 rfl h17 ?_)
      rw [← hV]
      clear hV hg k3 hI7 h17
      refine HSG.out.mono ?_
      rintro e w2 ⟨rfl, b2⟩
      have k2 : w2.cell? ⟨wr.heap.size, 0, none⟩ = some (.int .i64 ((k : Int) + 1)) := (b2.cell (p := ⟨wr.heap.size, 0, none⟩) HV.out.2.2).trans HV.out.2.1
      have HB2 : Hid (Below w1.heap.size w1 w2) := HV.out.1.trans (b2.mono HV.out.1.size)
      clear b2 HSG
      cases r with
      | true =>
        go_wp2_with fail
        go_ret
        exact ⟨⟨_, rfl, .inr ⟨k, hlt, rfl, HR.out, HNO.out⟩⟩, HF.out.2.trans (HB2.out.mono HF.out.2.size)⟩
      | false =>
        have HN2 : Hid (∀ j, j < k + 1 → sAny s j = false) := fun j hj => by
          rcases Nat.lt_or_ge j k with h | h
          · exact HNO.out j h
          · obtain rfl : j = k := by omega
            exact HR.out
        go_wp2_with fail
        go_roundw
        case rel => exact ⟨k + 1, by omega, by go_num, HN2.out, HB2.out⟩
        case measure => simp [intOf]; omega
    · have hke : k = 5 := by omega
      subst hke
      have HN : Hid (∀ j, j < 5 → sAny s j = false) := HW.out.1
      have HB : Hid (Below w.heap.size w wr) := HF.out.2.trans (HW.out.2.mono HF.out.2.size)
      clear HW
      go_wp2_with fail
      go_ret
      exact ⟨⟨0, rfl, .inl ⟨rfl, HN.out⟩⟩, HB.out⟩
end Go.Proofs.YtjmeaeimpkijmaaGreatDoor
