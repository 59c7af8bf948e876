/- CodeGet of the program. -/
import Derived.Test.YtjdilanmkgodnaaGtFind
namespace Go.Proofs.Ytjdilanmkgodnaa
open Go.RowKit

/-- there is a code, and a place in a text -/
def CgOk (s : ByteArray) (at_ : Int) (zs : List Int) : Prop := Cd.okB zs = true ∧ s.size ≤ 9000 ∧ 0 ≤ at_ ∧ at_ ≤ 8 * (s.size : Int)
instance (s : ByteArray) (at_ : Int) (zs : List Int) : Decidable (CgOk s at_ zs) := by unfold CgOk; infer_instance
/-- what CodeGet answers -/
def cgAns (s : ByteArray) (at_ : Int) (zs : List Int) : Int × Int :=
  if CgOk s at_ zs then (match Gt.get zs (bitAt s false) (8 * s.size) at_.toNat with | some (i, q) => ((i : Int), (q : Int)) | none => (-1, 0)) else (-1, 0)
theorem cgAns_no {s : ByteArray} {at_ : Int} {zs : List Int} (h : ¬ CgOk s at_ zs) : cgAns s at_ zs = (-1, 0) := by unfold cgAns; rw [if_neg h]
theorem cgAns_none {s : ByteArray} {A : Nat} {zs : List Int} (h : Gt.get zs (bitAt s false) (8 * s.size) A = none) : cgAns s (A : Int) zs = (-1, 0) := by
  unfold cgAns
  rw [Int.toNat_natCast, h]
  split <;> rfl
theorem cgAns_some {s : ByteArray} {A i q : Nat} {zs : List Int} (hk : CgOk s (A : Int) zs) (h : Gt.get zs (bitAt s false) (8 * s.size) A = some (i, q)) : cgAns s (A : Int) zs = ((i : Int), (q : Int)) := by
  unfold cgAns
  rw [if_pos hk, Int.toNat_natCast, h]

set_option maxHeartbeats 2000000 in
set_option maxRecDepth 20000 in
theorem impl_codeGet (s : ByteArray) (at_ : Int) (a : Option Addr) (cap n : Nat) (zs : List Int) (w : World) (h : Ints w a zs) (hn : zs.length = n) (hl : n ≤ 1048576) (hs : s.size ≤ 1048576) :
    Calls Try.prog 17 #[.string s, .int .i64 at_, .slice a n cap] w fun e w' => e = .returned (.tuple #[.int .i64 (cgAns s at_ zs).1, .int .i64 (cgAns s at_ zs).2]) ∧ Below w.heap.size w w' := by
  have HOK : Hid (Calls Try.prog 12 #[.slice a n cap] w fun e w' => e = .returned (.bool (Cd.okB zs)) ∧ w' = w) := impl_codeOk a cap n zs w h hn hl
  by_cases hk : CgOk s at_ zs
  · obtain ⟨h1, h2, h3, h4⟩ := id hk
    obtain ⟨A, rfl⟩ : ∃ A : Nat, at_ = (A : Int) := ⟨at_.toNat, by omega⟩
    have hg := goodC h1
    rw [h1] at HOK
    have d1 : decide ((s.size : Int) > 9000) = false := by simp; omega
    have d2 : decide ((A : Int) < 0) = false := by simp
    have d3 : decide ((A : Int) > 8 * (s.size : Int)) = false := by simp; omega
    obtain ⟨W1, hW1⟩ : ∃ W1, W1 = w.alloc (.cells #[.func (.func 56) #[] #[], .string s, .int .i64 (A : Int)] 59) := ⟨_, rfl⟩
    have hW1' : w.alloc (.cells #[.func (.func 56) #[] #[], .string s, .int .i64 (A : Int)] 59) = W1 := hW1.symm
    have HR : Hid (Reads W1 w.heap.size false s A) := by rw [hW1]; exact reads_new w false s A 59
    have HB1 : Hid (Below w.heap.size w W1) := by rw [hW1]; exact (Below.refl _ _).alloc (Nat.le_refl _) _
    have hz1 : w.heap.size < W1.heap.size := by rw [hW1]; simp
    have HNT : Hid (Calls Try.prog 40 #[.slice a n cap] W1 (Treed W1 zs)) := numberTree_any a cap n zs W1 (h.kept HB1.out) hn hg
    have HS0 : Hid (Gt.S zs zs.length 0 0 = -1) := Gt.S_miss (Nat.le_refl _) (fun i hi => (hg.le i hi).2) hg.num (fun i _ g => by have := g.pos; omega)
    have HK : Hid (CgOk s (A : Int) zs) := hk
    have hAb : A ≤ 8 * s.size := by omega
    clear h hn hk hg h1 hW1 h3 h4
    go_enter Try.func17, Try.ntmps17
    go_wp2_with fail
    refine HOK.out.mono ?_
    rintro e w0 ⟨rfl, hw0⟩
    subst hw0
    clear HOK
    go_wp2_with fail
    refine (orderOf_low _).mono ?_
    rintro e w0' ⟨rfl, hw0⟩
    replace hw0 := hw0.symm
    subst hw0
    go_wp2_with fail
    refine HNT.out.mono ?_
    rintro e w2 ⟨rfl, ⟨N, hT, hN0⟩, b2⟩
    have HFD : Hid (Calls Try.prog 41 #[.pointer (some ⟨W1.heap.size, 0, none⟩), .iface 54 (.pointer (some ⟨w0.heap.size, 0, none⟩))] w2 (Found w2 w0.heap.size s (Gt.go (Gt.S zs zs.length) (bitAt s false) (8 * s.size - A) 0 0 A))) := by
      refine find_any w0.heap.size W1.heap.size W1.heap.size A s N (Gt.S zs zs.length) w2 hT hN0 HS0.out ?_ hz1 h2 hAb
      obtain ⟨r0, r1, r2, r3⟩ := HR.out
      exact ⟨(b2.cell (p := ⟨w0.heap.size, 0, none⟩) hz1).trans r0, (b2.cell (p := ⟨w0.heap.size, 1, none⟩) hz1).trans r1, (b2.cell (p := ⟨w0.heap.size, 2, none⟩) hz1).trans r2, (b2.frozen (p := ⟨w0.heap.size, 2, none⟩) hz1).trans r3⟩
    have HB2 : Hid (Below w0.heap.size w0 w2) := HB1.out.trans (b2.mono (Nat.le_of_lt hz1))
    clear hT hN0 b2 HNT HB1 HR HS0 hW1'
    go_wp2_with fail
    refine HFD.out.mono ?_
    rintro e w3 ⟨b3, (⟨hno, rfl⟩ | ⟨i, q, hyes, rfl, hR3⟩)⟩
    · have HF : Hid (cgAns s (A : Int) zs = (-1, 0)) := cgAns_none hno
      have HB3 : Hid (Below w0.heap.size w0 w3) := HB2.out.trans b3
      clear HFD hno b3 HB2
      go_wp2_with fail
      go_ret2
      exact ⟨by rw [HF.out]; rfl, HB3.out⟩
    · have HF : Hid (cgAns s (A : Int) zs = ((i : Int), (q : Int))) := cgAns_some HK.out hyes
      have HB3 : Hid (Below w0.heap.size w0 w3) := HB2.out.trans b3
      have c2 := hR3.c2
      have hi0 : ¬ (i : Int) < 0 := by omega
      clear HFD hyes b3 HB2 hR3
      go_wp2_with fail
      go_region
      all_goals go_wp2_with fail
      all_goals go_ret2
      all_goals exact ⟨by rw [HF.out]; rfl, HB3.out.drew⟩
  · have HF : Hid (cgAns s at_ zs = (-1, 0)) := cgAns_no hk
    cases h1 : Cd.okB zs with
    | false =>
      rw [h1] at HOK
      clear h hn hk
      go_enter Try.func17, Try.ntmps17
      go_wp2_with fail
      refine HOK.out.mono ?_
      rintro e w0 ⟨rfl, hw0⟩
      subst hw0
      go_wp2_with fail
      go_ret2
      exact ⟨by rw [HF.out]; rfl, Below.refl _ _⟩
    | true =>
      rw [h1] at HOK
      by_cases h2 : s.size ≤ 9000
      · have d1 : decide ((s.size : Int) > 9000) = false := by simp; omega
        by_cases h3 : 0 ≤ at_
        · have d2 : decide (at_ < 0) = false := by simp; omega
          have h4 : 8 * (s.size : Int) < at_ := by
            rcases Int.lt_or_le (8 * (s.size : Int)) at_ with h | h
            · exact h
            · exact absurd ⟨h1, h2, h3, h⟩ hk
          have d3 : decide (at_ > 8 * (s.size : Int)) = true := by simp; omega
          clear h hn hk h1
          go_enter Try.func17, Try.ntmps17
          go_wp2_with fail
          refine HOK.out.mono ?_
          rintro e w0 ⟨rfl, hw0⟩
          subst hw0
          go_wp2_with fail
          go_ret2
          exact ⟨by rw [HF.out]; rfl, Below.refl _ _⟩
        · have d2 : decide (at_ < 0) = true := by simp; omega
          clear h hn hk h1
          go_enter Try.func17, Try.ntmps17
          go_wp2_with fail
          refine HOK.out.mono ?_
          rintro e w0 ⟨rfl, hw0⟩
          subst hw0
          go_wp2_with fail
          go_ret2
          exact ⟨by rw [HF.out]; rfl, Below.refl _ _⟩
      · have d1 : decide ((s.size : Int) > 9000) = true := by simp; omega
        clear h hn hk h1
        go_enter Try.func17, Try.ntmps17
        go_wp2_with fail
        refine HOK.out.mono ?_
        rintro e w0 ⟨rfl, hw0⟩
        subst hw0
        go_wp2_with fail
        go_ret2
        exact ⟨by rw [HF.out]; rfl, Below.refl _ _⟩
end Go.Proofs.Ytjdilanmkgodnaa
