/- What LZW knows at first, of the specification. -/
import Derived.Test.YtjfihmpnbblomaaLzSmall
import Derived.Test.YtjfihmpnbblomaaStrWalks
namespace Go.Proofs.Ytjfihmpnbblomaa
open Go.RowKit

theorem wrap_u8_small (a : Nat) (ha : a < 256) : IntKind.u8.wrap (a : Int) = (a : Int) := by
  show (a : Int) % 256 = a
  omega

theorem ownL_none (w : World) : OwnL (w.alloc (.cells #[] 9)) w.heap.size (.slice (some ⟨w.heap.size, 0, none⟩) 0 0) 0 [] :=
  World.ownsRow_lit w #[] 0 (Nat.le_refl _) (by decide) rfl

/-- two texts more -/
theorem wpList_appL2 {ops : Array Oper} {rest : List Oper} {o : Oper} {a : Act} {Q : Exit → Act → World → Prop} (w0 : World) (hgd : o.guard = none) (s x : Operand)
    (ho : o.op = .call { callee := .builtin .append, args := #[s, x], argTypes := #[43, 43] })
    (base : Nat) (v : Value) (n : Nat) (l : List ByteArray) (y z : ByteArray) (hs : a.eval s = v) (hown : OwnL w0 base v n l) (hx : a.eval x = .slice (some ⟨w0.heap.size, 0, none⟩) 2 2) (hn : n ≤ 2000000) (hb : base ≤ w0.heap.size)
    (h : ∀ g cap w', OwnL w' base (.slice (some ⟨g, 0, none⟩) (n + 2) cap) (n + 2) (l ++ [y, z]) → Grew base w0 w' v g → wpList Try.prog ops Q rest (a.put o.dst (.slice (some ⟨g, 0, none⟩) (n + 2) cap)) w') :
    wpList Try.prog ops Q (o :: rest) a (w0.alloc (.cells #[.string y, .string z] 9)) := by
  obtain ⟨i0, hi0, hz0, hz1, hz2⟩ := info_parts info_string
  refine wpList_append_lies _ hgd s x _ ho base 9 i0 (.string ⟨#[]⟩) 1 16 Try.underlying43 hi0 hz0 hz1 hz2 rfl (by decide) v n (txtsV l) hs (World.ownsRow.alloc (show World.ownsRow _ _ _ _ _ _ _ from hown) _) ⟨w0.heap.size, 0, none⟩ 2 2 [.string y, .string z] hx rfl (World.news_of_block (heap_alloc_new _ _)) (fun u hu => by simp at hu; rcases hu with rfl | rfl <;> rfl) (by decide) (by unfold maxLen; omega) (by omega) (by rw [World.size_alloc]; omega) _ rfl ?_
  intro g cap w' hown' hg hat hlt
  exact h g cap w' (by
    have e : txtsV l ++ [Value.string y, Value.string z] = txtsV (l ++ [y, z]) := by simp [txtsV]
    rw [e] at hown'
    exact hown') (Grew.of hown hg hat hlt)

def Lz.ones (k : Nat) : List ByteArray := (List.range k).map Lz.one
theorem Lz.ones_snoc (k : Nat) : Lz.ones (k + 1) = Lz.ones k ++ [Lz.one k] := by simp [Lz.ones, List.range_succ]
theorem Lz.start_ones (b : Nat) : Lz.start b = Lz.ones (2 ^ b) ++ [⟨#[]⟩, ⟨#[]⟩] := rfl

set_option maxHeartbeats 1000000 in
theorem l6Start_any (b : Nat) (hb : b ≤ 8) (w : World) : Calls Try.prog 54 #[.int .i64 (b : Int)] w fun e w' => ∃ g cap, e = .returned (.slice (some ⟨g, 0, none⟩) (2 ^ b + 2) cap) ∧ OwnL w' w.heap.size (.slice (some ⟨g, 0, none⟩) (2 ^ b + 2) cap) (2 ^ b + 2) (Lz.start b) ∧ Below w.heap.size w w' := by
  have HPW : Hid (∀ w', Calls Try.prog 35 #[.int .i64 (b : Int)] w' fun e w'' => e = .returned (.int .i64 ((2 ^ b : Nat) : Int)) ∧ w'' = w') := fun w' => l1Pow_any b w' (by omega)
  have hp := Lz.pow_le hb
  have HSE : Hid (Lz.start b = Lz.ones (2 ^ b) ++ [⟨#[]⟩, ⟨#[]⟩]) := Lz.start_ones b
  generalize hS : Lz.start b = S at *
  clear hS
  generalize 2 ^ b = P at *
  have H0 : Hid (OwnL (w.alloc (.cells #[] 9)) w.heap.size (.slice (some ⟨w.heap.size, 0, none⟩) 0 0) 0 (Lz.ones 0)) := ownL_none w
  have B0 : Hid (Below w.heap.size w (w.alloc (.cells #[] 9))) := (Below.refl _ _).alloc (Nat.le_refl _) _
  go_enter Try.func54, Try.ntmps54
  go_wp2_with fail
  go_loopw [3, 4] (fun v i wr => ∃ k : Nat, k ≤ P ∧ i = .int .i64 (k : Int) ∧ OwnL wr w.heap.size v k (Lz.ones k) ∧ Below w.heap.size w wr) (fun _ i _ => P - (intOf i).toNat)
  case atStart => exact ⟨0, Nat.zero_le _, rfl, H0.out, B0.out⟩
  case round =>
    obtain ⟨k, hk, rfl, ho, hbel⟩ := hrel
    clear H0 B0
    have HO : Hid (OwnL wr w.heap.size u3 k (Lz.ones k)) := ho
    have HB : Hid (Below w.heap.size w wr) := hbel
    have hsz := hbel.size
    clear ho hbel
    by_cases hlt : k < P
    · have hu := wrap_u8_small k (by omega)
      have htx : Sem.run Try.prog (convert 22 9 (.slice (some ⟨wr.heap.size, 0, none⟩) 1 1)) (wr.alloc (.cells #[.int .u8 (k : Int)] 5)) = .ok (.string (Lz.one k)) (wr.alloc (.cells #[.int .u8 (k : Int)] 5)) := run_text1 wr k wr.heap.size rfl
      have HN : Hid (Lz.ones (k + 1) = Lz.ones k ++ [Lz.one k]) := Lz.ones_snoc k
      clear HSE
      go_wp2_with fail
      refine (HPW.out _).mono ?_
      rintro e w1 ⟨rfl, hw1⟩
      replace hw1 := hw1.symm
      subst hw1
      go_wp2_with (at_builtin; refine wpList_appL (wr.alloc (.cells #[.int .u8 (k : Int)] 5)) (by rfl) _ _ (by rfl) w.heap.size _ k (Lz.ones k) (Lz.one k) (by rfl) (HO.out.alloc _) (by rw [World.size_alloc]; rfl) (by omega) (by rw [World.size_alloc]; omega) ?_)
      intro g cap w2 ho2 hg2
      have HO2 : Hid (OwnL w2 w.heap.size (.slice (some ⟨g, 0, none⟩) (k + 1) cap) (k + 1) (Lz.ones (k + 1))) := by show OwnL _ _ _ _ _; rw [HN.out]; exact ho2
      have HB2 : Hid (Below w.heap.size w w2) := hg2.below (HB.out.alloc hsz _) (Nat.le_refl _) (by rw [World.size_alloc]; omega)
      clear ho2 hg2 htx
      go_wp2_with fail
      go_roundw
      case rel => exact ⟨k + 1, by omega, by go_num, HO2.out, HB2.out⟩
      case measure => simp [intOf]; omega
    · have e : P = k := by omega
      subst e
      go_wp2_with fail
      refine (HPW.out _).mono ?_
      rintro e w1 ⟨rfl, hw1⟩
      replace hw1 := hw1.symm
      subst hw1
      go_wp2_with (at_builtin; refine wpList_appL2 wr (by rfl) _ _ (by rfl) w.heap.size _ P (Lz.ones P) ⟨#[]⟩ ⟨#[]⟩ (by rfl) HO.out (by rfl) (by omega) hsz ?_)
      intro g cap w2 ho2 hg2
      have HO2 : Hid (OwnL w2 w.heap.size (.slice (some ⟨g, 0, none⟩) (P + 2) cap) (P + 2) S) := by show OwnL _ _ _ _ _; rw [HSE.out]; exact ho2
      have HB2 : Hid (Below w.heap.size w w2) := hg2.below HB.out (Nat.le_refl _) hsz
      clear ho2 hg2
      go_wp2_with fail
      go_ret
      exact ⟨g, cap, rfl, HO2.out, HB2.out⟩
end Go.Proofs.Ytjfihmpnbblomaa
