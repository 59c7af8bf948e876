/- A row that was packed comes out: the mathematics. -/
import Derived.Test.YtjikjjganloobaaBpBack
import Derived.Test.YtjikjjganloobaaRpMath
import Derived.Test.YtjikjjganloobaaRwMath
namespace Go.Proofs.Ytjikjjganloobaa
open Go.RowKit

theorem row_of {D : Nat} {zs : List Int} (hd : D ≤ 24 ∨ D = 32) (hl : zs.length ≤ 1000) (h : Rp.Small D zs) : Rp.Row D zs := by
  rcases hd with g | g
  · exact Rp.row_small D zs g hl h
  · subst g; exact Rp.row_32 zs hl h

theorem text_same {D : Nat} {zs : List Int} (hR : Rp.Row D zs) : (⟨((Bp.text true (Rp.bl D zs)).map UInt8.ofNat).toArray⟩ : ByteArray) = textOf true (Rp.bl D zs) := by
  unfold textOf; rw [Bp.answer_yes hR.fits]

theorem row_back {D : Nat} {zs : List Int} (hR : Rp.Row D zs) (h : Rp.Small D zs) : Rw.row (textOf true (Rp.bl D zs)) D zs.length = zs := by
  apply List.ext_getElem
  · rw [Rw.row_len]
  · intro k h1 h2
    rw [Rw.row_get]
    have hz := h zs[k] (List.getElem_mem h2)
    obtain ⟨V, hV⟩ := Int.eq_ofNat_of_zero_le hz.1
    rw [hV]
    congr 1
    have hV2 : V < 2 ^ D := by have := hz.2; rw [hV, Int.toNat_natCast] at this; exact this
    refine num_bits true V D hV2 _ (fun q hq => ?_)
    have hk1 : (k + 1) * D ≤ zs.length * D := Nat.mul_le_mul_right _ h2
    rw [Nat.add_mul, Nat.one_mul] at hk1
    show bitAt (textOf true (Rp.bl D zs)) true (k * D + q) = _
    rw [bitAt_text hR.fits _ (by rw [hR.tot]; omega), hR.bits k h2 q hq, hV, Int.toNat_natCast]

theorem row_there {D : Nat} {zs : List Int} (hd : depB (D : Int) = true) (hl : zs.length ≤ 1000) (hR : Rp.Row D zs) : Rw.There (textOf true (Rp.bl D zs)).size (D : Int) (zs.length : Int) := by
  refine ⟨hd, by omega, by omega, ?_⟩
  rw [textOf_size hR.fits, hR.tot]
  have e : ((zs.length * D : Nat) : Int) = (zs.length : Int) * (D : Int) := by simp
  omega
end Go.Proofs.Ytjikjjganloobaa
