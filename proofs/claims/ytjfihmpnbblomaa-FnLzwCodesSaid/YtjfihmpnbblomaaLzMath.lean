/- Reading numbers packed by LZW: its mathematics. -/
import Derived.Test.YtjfihmpnbblomaaBgSpec
namespace Go.Proofs.Ytjfihmpnbblomaa

/-- of how many bits a number is: it grows as long as so many are known -/
def Lz.grow (k : Nat) : Nat → Nat → Nat
  | 0, n => n
  | f + 1, n => if n < 12 ∧ 2 ^ n ≤ k then Lz.grow k f (n + 1) else n
def Lz.known (wide : Bool) (m : Nat) : Nat := if wide then m + 1 else m
def Lz.width (b : Nat) (wide : Bool) (m : Nat) : Nat := Lz.grow (Lz.known wide m) 12 (b + 1)

theorem Lz.grow_stop {k f n : Nat} (h : ¬ (n < 12 ∧ 2 ^ n ≤ k)) : Lz.grow k f n = n := by
  cases f with
  | zero => rfl
  | succ f => unfold Lz.grow; rw [if_neg h]
theorem Lz.grow_go {k f n : Nat} (h : n < 12 ∧ 2 ^ n ≤ k) : Lz.grow k (f + 1) n = Lz.grow k f (n + 1) := by
  conv => lhs; unfold Lz.grow
  rw [if_pos h]
theorem Lz.grow_bd (k : Nat) : ∀ f n, n ≤ 12 → n ≤ Lz.grow k f n ∧ Lz.grow k f n ≤ 12
  | 0, n, h => ⟨Nat.le_refl _, h⟩
  | f + 1, n, h => by
    unfold Lz.grow
    split
    · rename_i hc
      have := Lz.grow_bd k f (n + 1) (by omega)
      omega
    · exact ⟨Nat.le_refl _, h⟩
theorem Lz.width_bd {b : Nat} (hb : b ≤ 8) (wide : Bool) (m : Nat) : b + 1 ≤ Lz.width b wide m ∧ Lz.width b wide m ≤ 12 := Lz.grow_bd _ 12 (b + 1) (by omega)

/-- one byte as a text -/
def Lz.one (i : Nat) : ByteArray := ⟨#[UInt8.ofNat i]⟩
/-- what is known at first -/
def Lz.start (b : Nat) : List ByteArray := (List.range (2 ^ b)).map Lz.one ++ [⟨#[]⟩, ⟨#[]⟩]
theorem Lz.start_len (b : Nat) : (Lz.start b).length = 2 ^ b + 2 := by simp [Lz.start]
theorem Lz.one_size (i : Nat) : (Lz.one i).size = 1 := rfl

/-- the next number -/
def Lz.num (s : ByteArray) (wide : Bool) (at_ n : Nat) : Nat := Bg.num (fun i => bitAt s wide (at_ + i)) n wide

/-- what a number stands for -/
def Lz.text (l : List ByteArray) (last : ByteArray) (v : Nat) : ByteArray := if h : v < l.length then l[v] else last ++ last.extract 0 1
/-- what is known behind it -/
def Lz.learn (l : List ByteArray) (last t : ByteArray) : List ByteArray := if 0 < last.size ∧ l.length < 4096 then l ++ [last ++ t.extract 0 1] else l

/-- all numbers, with what each puts out; or a code -/
def Lz.go (s : ByteArray) (b : Nat) (wide : Bool) : Nat → Nat → List ByteArray → ByteArray → Nat → Except Int (List (Nat × ByteArray))
  | 0, _, _, _, _ => .error 2
  | f + 1, p, l, last, left =>
    let n := Lz.width b wide l.length
    let v := Lz.num s wide p n
    if 8 * s.size < p + n then .error 2
    else if v = 2 ^ b then (Lz.go s b wide f (p + n) (Lz.start b) ⟨#[]⟩ left).map ((v, ⟨#[]⟩) :: ·)
    else if v = 2 ^ b + 1 then .ok [(v, ⟨#[]⟩)]
    else if l.length < v ∨ (v = l.length ∧ last.size = 0) then .error 1
    else if left < (Lz.text l last v).size then .error 3
    else (Lz.go s b wide f (p + n) (Lz.learn l last (Lz.text l last v)) (Lz.text l last v) (left - (Lz.text l last v).size)).map ((v, Lz.text l last v) :: ·)

/-- what holds of what is known -/
structure Lz.Good (b : Nat) (l : List ByteArray) (last : ByteArray) : Prop where
  le : 2 ^ b + 2 ≤ l.length
  ge : l.length ≤ 4096
  pre : l.take (2 ^ b + 2) = Lz.start b
  pos : ∀ (i : Nat) (h : i < l.length), i ≠ 2 ^ b → i ≠ 2 ^ b + 1 → 1 ≤ (l[i]).size
  top : ∀ (i : Nat) (h : i < l.length), (l[i]).size ≤ 5001
  last : last.size ≤ 5000

theorem Lz.pow_le {b : Nat} (hb : b ≤ 8) : 2 ^ b ≤ 256 := Nat.le_trans (Nat.pow_le_pow_right (by omega) hb) (by decide)

theorem Lz.good_start {b : Nat} (hb : b ≤ 8) : Lz.Good b (Lz.start b) ⟨#[]⟩ := by
  have hp := Lz.pow_le hb
  have hl := Lz.start_len b
  refine ⟨by omega, by omega, List.take_of_length_le (by omega), fun i h h1 h2 => ?_, fun i h => ?_, by decide⟩
  · have : i < 2 ^ b := by omega
    simp only [Lz.start]
    rw [List.getElem_append_left (by simpa using this), List.getElem_map, Lz.one_size]
    omega
  · by_cases hi : i < 2 ^ b
    · simp only [Lz.start]
      rw [List.getElem_append_left (by simpa using hi), List.getElem_map, Lz.one_size]
      omega
    · simp only [Lz.start]
      rw [List.getElem_append_right (by simpa using hi)]
      rcases (show i - 2 ^ b = 0 ∨ i - 2 ^ b = 1 by omega) with e | e <;> simp [e] <;> decide

theorem Lz.text_pos {b v : Nat} {l : List ByteArray} {last : ByteArray} (g : Lz.Good b l last) (h1 : v ≠ 2 ^ b) (h2 : v ≠ 2 ^ b + 1) (h3 : ¬ (l.length < v ∨ (v = l.length ∧ last.size = 0))) :
    1 ≤ (Lz.text l last v).size ∧ (Lz.text l last v).size ≤ 5001 := by
  unfold Lz.text
  split
  · rename_i h
    exact ⟨g.pos v h h1 h2, g.top v h⟩
  · have hl := g.last
    rw [ByteArray.size_append, ByteArray.size_extract]
    omega

theorem Lz.learn_good {b : Nat} {l : List ByteArray} {last t : ByteArray} (g : Lz.Good b l last) (ht : t.size ≤ 5000) : Lz.Good b (Lz.learn l last t) t := by
  unfold Lz.learn
  have hle := g.le
  have hl := g.last
  split
  · rename_i hc
    refine ⟨by simp; omega, by simp; omega, by rw [List.take_append_of_le_length hle]; exact g.pre, fun i h h1 h2 => ?_, fun i h => ?_, ht⟩
    · by_cases hi : i < l.length
      · rw [List.getElem_append_left hi]; exact g.pos i hi h1 h2
      · rw [List.getElem_append_right (by omega)]
        simp only [List.getElem_singleton]
        rw [ByteArray.size_append]; omega
    · by_cases hi : i < l.length
      · rw [List.getElem_append_left hi]; exact g.top i hi
      · rw [List.getElem_append_right (by omega)]
        simp only [List.getElem_singleton]
        rw [ByteArray.size_append, ByteArray.size_extract]; omega
  · exact ⟨g.le, g.ge, g.pre, g.pos, g.top, ht⟩
theorem Lz.good_cut {b : Nat} {l : List ByteArray} {last : ByteArray} (g : Lz.Good b l last) : l.take (2 ^ b + 2) = Lz.start b := g.pre
end Go.Proofs.Ytjfihmpnbblomaa
