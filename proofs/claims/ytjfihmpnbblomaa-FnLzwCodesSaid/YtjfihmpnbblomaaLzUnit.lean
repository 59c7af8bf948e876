/- The reader of LZW takes one number: all ways in one. -/
import Derived.Test.YtjfihmpnbblomaaLzMore
namespace Go.Proofs.Ytjfihmpnbblomaa
open Go.RowKit

/-- one number: what it is, what it puts out, what is known behind it, the last text, the room left; or a code -/
def Lz.step (s : ByteArray) (b : Nat) (wide : Bool) (p : Nat) (l : List ByteArray) (last : ByteArray) (left : Nat) : Except Int (Nat × ByteArray × List ByteArray × ByteArray × Nat) :=
  let n := Lz.width b wide l.length
  let v := Lz.num s wide p n
  if 8 * s.size < p + n then .error 2
  else if v = 2 ^ b then .ok (v, ⟨#[]⟩, Lz.start b, ⟨#[]⟩, left)
  else if v = 2 ^ b + 1 then .ok (v, ⟨#[]⟩, l, last, left)
  else if l.length < v ∨ (v = l.length ∧ last.size = 0) then .error 1
  else if left < (Lz.text l last v).size then .error 3
  else .ok (v, Lz.text l last v, Lz.learn l last (Lz.text l last v), Lz.text l last v, left - (Lz.text l last v).size)

theorem Lz.go_step (s : ByteArray) (b : Nat) (wide : Bool) (f p : Nat) (l : List ByteArray) (last : ByteArray) (left : Nat) :
    Lz.go s b wide (f + 1) p l last left = match Lz.step s b wide p l last left with
      | .error c => .error c
      | .ok (v, t, l2, last2, left2) => if v = 2 ^ b + 1 then .ok [(v, t)] else (Lz.go s b wide f (p + Lz.width b wide l.length) l2 last2 left2).map ((v, t) :: ·) := by
  unfold Lz.step
  conv => lhs; unfold Lz.go
  simp only
  by_cases h1 : 8 * s.size < p + Lz.width b wide l.length
  · rw [if_pos h1, if_pos h1]
  · rw [if_neg h1, if_neg h1]
    generalize Lz.num s wide p (Lz.width b wide l.length) = v
    by_cases h2 : v = 2 ^ b
    · rw [if_pos h2, if_pos h2]
      simp only
      rw [if_neg (by omega)]
    · rw [if_neg h2, if_neg h2]
      by_cases h3 : v = 2 ^ b + 1
      · rw [if_pos h3, if_pos h3]
        simp only
        rw [if_pos h3]
      · rw [if_neg h3, if_neg h3]
        by_cases h4 : l.length < v ∨ (v = l.length ∧ last.size = 0)
        · rw [if_pos h4, if_pos h4]
        · rw [if_neg h4, if_neg h4]
          by_cases h5 : left < (Lz.text l last v).size
          · rw [if_pos h5, if_pos h5]
          · rw [if_neg h5, if_neg h5]
            simp only
            rw [if_neg h3]
theorem Lz.go_err {s : ByteArray} {b : Nat} {wide : Bool} {f p : Nat} {l : List ByteArray} {last : ByteArray} {left : Nat} {c : Int} (h : Lz.step s b wide p l last left = .error c) : Lz.go s b wide (f + 1) p l last left = .error c := by
  rw [Lz.go_step, h]
theorem Lz.go_end {s : ByteArray} {b : Nat} {wide : Bool} {f p : Nat} {l : List ByteArray} {last : ByteArray} {left v : Nat} {t : ByteArray} {l2 : List ByteArray} {last2 : ByteArray} {left2 : Nat} (h : Lz.step s b wide p l last left = .ok (v, t, l2, last2, left2)) (hv : v = 2 ^ b + 1) :
    Lz.go s b wide (f + 1) p l last left = .ok [(v, t)] := by
  rw [Lz.go_step, h]
  simp only
  rw [if_pos hv]
theorem Lz.go_on {s : ByteArray} {b : Nat} {wide : Bool} {f p : Nat} {l : List ByteArray} {last : ByteArray} {left v : Nat} {t : ByteArray} {l2 : List ByteArray} {last2 : ByteArray} {left2 : Nat} (h : Lz.step s b wide p l last left = .ok (v, t, l2, last2, left2)) (hv : v ≠ 2 ^ b + 1) :
    Lz.go s b wide (f + 1) p l last left = (Lz.go s b wide f (p + Lz.width b wide l.length) l2 last2 left2).map ((v, t) :: ·) := by
  rw [Lz.go_step, h]
  simp only
  rw [if_neg hv]

/-- how a take ends -/
def TkOut (w : World) (B b : Nat) (wide : Bool) (s : ByteArray) (p lo : Nat) (tv : Value) (last : ByteArray) (left : Nat) (l : List ByteArray) (e : Ending) (w' : World) : Prop :=
  (∃ c, c ≠ 0 ∧ Lz.step s b wide p l last left = .error c ∧ e = fault c ∧ LzG B tv tv w w') ∨
  (∃ v t l2 last2 left2, Lz.step s b wide p l last left = .ok (v, t, l2, last2, left2) ∧ e = .returned (.tuple #[.int .i64 (v : Int), .string t]) ∧ p + Lz.width b wide l.length ≤ 8 * s.size ∧ Lz.Good b l2 last2 ∧ left2 ≤ 5000 ∧ LnOut w B b wide s (p + Lz.width b wide l.length) lo tv last2 left2 l2 w')

theorem lzTake_any (B b p left lo n g cap : Nat) (wide : Bool) (s last : ByteArray) (l : List ByteArray) (w : World) (hb : b ≤ 8) (hsz : s.size ≤ 9000) (hp : p ≤ 8 * s.size) (h : LzR w B b wide s p (.slice (some ⟨g, 0, none⟩) n cap) last left) (ho : OwnL w lo (.slice (some ⟨g, 0, none⟩) n cap) n l) (hgB : g ≠ B) (hlo : lo ≤ w.heap.size) (hcap : n ≤ cap) (gd : Lz.Good b l last) (hleft : left ≤ 5000) :
    Calls Try.prog 53 #[.pointer (some ⟨B, 0, none⟩)] w (TkOut w B b wide s p lo (.slice (some ⟨g, 0, none⟩) n cap) last left l) := by
  have hln := ho.len
  obtain ⟨N, hN⟩ : ∃ N, N = Lz.width b wide n := ⟨_, rfl⟩
  obtain ⟨v, hv⟩ : ∃ v, v = Lz.num s wide p N := ⟨_, rfl⟩
  have hNl : Lz.width b wide l.length = N := by rw [hln, hN]
  by_cases h1 : 8 * s.size < p + N
  · refine (lzTake_short B b p left lo n g cap N wide s last l w hb hsz hp h ho hgB hlo hcap gd hN h1).mono ?_
    rintro e w' ⟨e1, e2⟩
    refine .inl ⟨2, by decide, ?_, e1, e2⟩
    unfold Lz.step
    simp only [hNl, if_pos h1]
  · have hin : p + N ≤ 8 * s.size := by omega
    by_cases h2 : v = 2 ^ b
    · refine (lzTake_clear B b p left lo n g cap N v wide s last l w hb hsz hp h ho hgB hlo hcap gd hN hin hv.symm h2).mono ?_
      rintro e w' ⟨e1, e2, e3, e4⟩
      refine .inr ⟨v, ⟨#[]⟩, Lz.start b, ⟨#[]⟩, left, ?_, e1, by rw [hNl]; exact hin, Lz.good_start hb, hleft, ?_⟩
      · unfold Lz.step
        simp only [hNl, if_neg h1, ← hv, if_pos h2]
      · rw [hNl]
        exact ⟨g, 2 ^ b + 2, cap, hgB, own_capL e3, e2, e3, e4⟩
    · by_cases h3 : v = 2 ^ b + 1
      · refine (lzTake_end B b p left lo n g cap N v wide s last l w hb hsz hp h ho hgB hlo hcap gd hN hin hv.symm h3).mono ?_
        rintro e w' ⟨e1, e2, e3, e4⟩
        refine .inr ⟨v, ⟨#[]⟩, l, last, left, ?_, e1, by rw [hNl]; exact hin, gd, hleft, ?_⟩
        · unfold Lz.step
          simp only [hNl, if_neg h1, ← hv, if_neg h2, if_pos h3]
        · rw [hNl]
          exact ⟨g, n, cap, hgB, hcap, e2, e3, e4⟩
      · by_cases h4 : n < v ∨ (v = n ∧ last.size = 0)
        · refine (lzTake_bad B b p left lo n g cap N v wide s last l w hb hsz hp h ho hgB hlo hcap gd hN hin hv.symm h2 h3 h4).mono ?_
          rintro e w' ⟨e1, e2⟩
          refine .inl ⟨1, by decide, ?_, e1, e2⟩
          unfold Lz.step
          simp only [hln, ← hN, if_neg h1, ← hv, if_neg h2, if_neg h3, if_pos h4]
        · by_cases h5 : left < (Lz.text l last v).size
          · refine (lzTake_long B b p left lo n g cap N v wide s last l w hb hsz hp h ho hgB hlo hcap gd hN hin hv.symm h2 h3 h4 h5).mono ?_
            rintro e w' ⟨e1, e2⟩
            refine .inl ⟨3, by decide, ?_, e1, e2⟩
            unfold Lz.step
            simp only [hln, ← hN, if_neg h1, ← hv, if_neg h2, if_neg h3, if_neg h4, if_pos h5]
          · refine (lzTake_more B b p left lo n g cap N v wide s last l w hb hsz hp h ho hgB hlo hcap gd hN hin hv.symm h2 h3 h4 (by omega) hleft).mono ?_
            rintro e w' ⟨e1, e2⟩
            refine .inr ⟨v, Lz.text l last v, Lz.learn l last (Lz.text l last v), Lz.text l last v, left - (Lz.text l last v).size, ?_, e1, by rw [hNl]; exact hin, Lz.learn_good gd (by omega), by omega, by rw [hNl]; exact e2⟩
            unfold Lz.step
            simp only [hln, ← hN, if_neg h1, ← hv, if_neg h2, if_neg h3, if_neg h4, if_neg h5]

/-- what a number is kept by -/
theorem lzKeep_any (base : Nat) (kv : Value) (m : Nat) (zs : List Int) (x : Int) (put : ByteArray) (w : World) (ho : OwnI w base kv m zs) (hm : m ≤ 1000000) (hb : base ≤ w.heap.size) :
    Calls Try.prog 47 #[kv, .int .i64 x, .string put] w fun e w' => ∃ g cap, e = .returned (.slice (some ⟨g, 0, none⟩) (m + 1) cap) ∧ OwnI w' base (.slice (some ⟨g, 0, none⟩) (m + 1) cap) (m + 1) (zs ++ [x]) ∧ Grew base w w' kv g := by
  go_enter Try.func47, Try.ntmps47
  go_wp2_with (at_builtin; refine wpList_app1 w (by rfl) _ _ (by rfl) base _ m zs x (by rfl) ho (by rfl) (by omega) hb ?_)
  intro g cap w' ho' hg'
  go_wp2_with fail
  go_ret
  exact ⟨g, cap, rfl, ho', hg'⟩
end Go.Proofs.Ytjfihmpnbblomaa
