/- What is taken away from a row can be put back. -/
import Derived.Test.YtjikjjganloobabFlTop
namespace Go.Proofs.Ytjikjjganloobab
open Go.RowKit

theorem size_text (l : List Nat) : (⟨(l.map UInt8.ofNat).toArray⟩ : ByteArray).size = l.length := by
  show (l.map UInt8.ofNat).toArray.size = _
  simp

theorem flPut_size {kind : Int} {s t : ByteArray} {step : Int} (h : FlOk kind s.size t.size step) : (flPut kind s t step).size = s.size := by
  rw [flPut_yes h, size_text, Fl.put_len]
theorem flGet_size {kind : Int} {s t : ByteArray} {step : Int} (h : FlOk kind s.size t.size step) : (flGet kind s t step).size = s.size := by
  rw [flGet_yes h, size_text, Fl.get_len]

theorem flGet_put {kind : Int} {s t : ByteArray} {step : Int} (h : FlOk kind s.size t.size step) : flGet kind (flPut kind s t step) t step = s := by
  have hz := flPut_size h
  have hb : byteAt (flPut kind s t step) = Fl.of (Fl.put kind.toNat step.toNat (byteAt s) (byteAt t) s.size) := by
    funext i
    rw [flPut_yes h]
    exact byteAt_text _ (Fl.put_byte _ _ _ _ _) i
  rw [flGet_yes (by rw [hz]; exact h), hz, hb, Fl.get_put _ _ _ _ _ (by have := h.2.1.1; omega) (byteAt_lt s) (byteAt_lt t) _ (Nat.le_refl _)]
  exact text_range s

theorem flPut_get {kind : Int} {s t : ByteArray} {step : Int} (h : FlOk kind s.size t.size step) : flPut kind (flGet kind s t step) t step = s := by
  have hz := flGet_size h
  have hb : byteAt (flGet kind s t step) = Fl.of (Fl.get kind.toNat step.toNat (byteAt s) (byteAt t) s.size) := by
    funext i
    rw [flGet_yes h]
    exact byteAt_text _ (Fl.get_byte _ _ _ _ _) i
  rw [flPut_yes (by rw [hz]; exact h), hz, hb, Fl.put_get_row _ _ _ _ _ (by have := h.2.1.1; omega) (byteAt_lt s) (byteAt_lt t)]
  exact text_range s

theorem byteAt_nil (i : Nat) : byteAt ⟨#[]⟩ i = 0 := by
  unfold byteAt
  simp

/-- without a row above nothing is taken away by the kinds 0 and 2 -/
theorem flPut_same {kind : Int} {s : ByteArray} {step : Int} (h : FlOk kind s.size 0 step) (hk : kind = 0 ∨ kind = 2) : flPut kind s ⟨#[]⟩ step = s := by
  rw [flPut_yes (show FlOk kind s.size (ByteArray.mk #[]).size step from h)]
  have e : Fl.put kind.toNat step.toNat (byteAt s) (byteAt ⟨#[]⟩) s.size = (List.range s.size).map (byteAt s) := by
    unfold Fl.put
    refine List.map_congr_left fun k _ => ?_
    have hg : Fl.gs kind.toNat step.toNat (byteAt s) (byteAt ⟨#[]⟩) k = 0 := by
      rcases hk with rfl | rfl
      · rfl
      · show byteAt ⟨#[]⟩ k = 0; exact byteAt_nil k
    rw [hg]
    have := byteAt_lt s k
    omega
  rw [e]
  exact text_range s

theorem near_ahead (a : Nat) : Fl.near a 0 0 = a := by
  unfold Fl.near
  rw [if_pos]
  unfold Fl.ap
  constructor <;> (repeat' split) <;> omega

/-- and 4 is 1 -/
theorem flPut_four {s : ByteArray} {step : Int} (h : FlOk 1 s.size 0 step) : flPut 4 s ⟨#[]⟩ step = flPut 1 s ⟨#[]⟩ step := by
  rw [flPut_yes (show FlOk 1 s.size (ByteArray.mk #[]).size step from h), flPut_yes (show FlOk 4 s.size (ByteArray.mk #[]).size step from ⟨by omega, h.2⟩)]
  have e : Fl.put (4 : Int).toNat step.toNat (byteAt s) (byteAt ⟨#[]⟩) s.size = Fl.put (1 : Int).toNat step.toNat (byteAt s) (byteAt ⟨#[]⟩) s.size := by
    unfold Fl.put
    refine List.map_congr_left fun k _ => ?_
    have hz : ∀ z, Fl.by_ (byteAt ⟨#[]⟩) z = 0 := fun z => by
      unfold Fl.by_; split
      · rfl
      · exact byteAt_nil _
    have hg : Fl.gs (4 : Int).toNat step.toNat (byteAt s) (byteAt ⟨#[]⟩) k = Fl.gs (1 : Int).toNat step.toNat (byteAt s) (byteAt ⟨#[]⟩) k := by
      show Fl.near _ (byteAt ⟨#[]⟩ k) (Fl.by_ (byteAt ⟨#[]⟩) _) = _
      rw [byteAt_nil, hz, near_ahead]; rfl
    rw [hg]
  rw [e]
end Go.Proofs.Ytjikjjganloobab
