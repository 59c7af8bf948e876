/- FilterPut and FilterGet of the specification, and the answer for whatever is asked. -/
import Derived.Test.YtjikjjganloobabFlSpecOk
import Derived.Test.YtjikjjganloobabFlSpecPut
import Derived.Test.YtjikjjganloobabFlSpecGet
namespace Go.Proofs.Ytjikjjganloobab
open Go.RowKit

open Classical in
/-- the answer of FilterPut -/
noncomputable def flPut (kind : Int) (s t : ByteArray) (step : Int) : ByteArray := if FlOk kind s.size t.size step then ⟨((Fl.put kind.toNat step.toNat (byteAt s) (byteAt t) s.size).map UInt8.ofNat).toArray⟩ else ⟨#[]⟩
open Classical in
/-- the answer of FilterGet -/
noncomputable def flGet (kind : Int) (s t : ByteArray) (step : Int) : ByteArray := if FlOk kind s.size t.size step then ⟨((Fl.get kind.toNat step.toNat (byteAt s) (byteAt t) s.size).map UInt8.ofNat).toArray⟩ else ⟨#[]⟩

theorem flPut_yes {kind : Int} {s t : ByteArray} {step : Int} (h : FlOk kind s.size t.size step) : flPut kind s t step = ⟨((Fl.put kind.toNat step.toNat (byteAt s) (byteAt t) s.size).map UInt8.ofNat).toArray⟩ := if_pos h
theorem flPut_no {kind : Int} {s t : ByteArray} {step : Int} (h : ¬ FlOk kind s.size t.size step) : flPut kind s t step = ⟨#[]⟩ := if_neg h
theorem flGet_yes {kind : Int} {s t : ByteArray} {step : Int} (h : FlOk kind s.size t.size step) : flGet kind s t step = ⟨((Fl.get kind.toNat step.toNat (byteAt s) (byteAt t) s.size).map UInt8.ofNat).toArray⟩ := if_pos h
theorem flGet_no {kind : Int} {s t : ByteArray} {step : Int} (h : ¬ FlOk kind s.size t.size step) : flGet kind s t step = ⟨#[]⟩ := if_neg h

set_option maxHeartbeats 400000 in
theorem spec_filterPut (kind : Int) (s t : ByteArray) (step : Int) (w : World) (hs : s.size ≤ 1048576) (ht : t.size ≤ 1048576) :
    Calls Try.prog 11 #[.int .i64 kind, .string s, .string t, .int .i64 step] w fun e w' => e = .returned (.string (flPut kind s t step)) ∧ Below w.heap.size w w' := by
  by_cases h : FlOk kind s.size t.size step
  · have HA : Hid (flPut kind s t step = ⟨((Fl.put kind.toNat step.toNat (byteAt s) (byteAt t) s.size).map UInt8.ofNat).toArray⟩) := flPut_yes h
    have HF : Hid (∀ w : World, Calls Try.prog 34 #[.int .i64 kind, .string s, .string t, .int .i64 step] w fun e w' => e = .returned (.bool true) ∧ w' = w) := fun w => l9Filters_yes kind s t step w h
    obtain ⟨⟨k0, k4⟩, ⟨s1, s4⟩, hn, hm⟩ := h
    obtain ⟨K, rfl⟩ := Int.eq_ofNat_of_zero_le k0
    obtain ⟨st, rfl⟩ := Int.eq_ofNat_of_zero_le (show 0 ≤ step by omega)
    rw [Int.toNat_natCast, Int.toNat_natCast] at HA
    have HP : Hid (∀ w : World, Calls Try.prog 35 #[.int .i64 (K : Int), .string s, .string t, .int .i64 (st : Int)] w fun e w' => e = .returned (.string ⟨((Fl.put K st (byteAt s) (byteAt t) s.size).map UInt8.ofNat).toArray⟩) ∧ Below w.heap.size w w') := fun w => l9Put_any K st s t w (by omega) (by omega) hn (by omega)
    clear hm
    go_enter Try.func11, Try.ntmps11
    go_wp2_with fail
    refine (HF.out _).mono ?_
    rintro e w1 ⟨rfl, hw⟩; subst hw
    go_wp2_with fail
    refine (HP.out _).mono ?_
    rintro e w2 ⟨rfl, b2⟩
    go_wp2_with fail
    go_ret
    exact ⟨by rw [HA.out]; rfl, b2⟩
  · have HA : Hid (flPut kind s t step = ⟨#[]⟩) := flPut_no h
    have HF : Hid (∀ w : World, Calls Try.prog 34 #[.int .i64 kind, .string s, .string t, .int .i64 step] w fun e w' => e = .returned (.bool false) ∧ w' = w) := fun w => l9Filters_no kind s t step w hs ht h
    clear h
    go_enter Try.func11, Try.ntmps11
    go_wp2_with fail
    refine (HF.out _).mono ?_
    rintro e w1 ⟨rfl, hw⟩; subst hw
    go_wp2_with fail
    go_ret
    exact ⟨by rw [HA.out]; rfl, Below.refl _ _⟩

end Go.Proofs.Ytjikjjganloobab
