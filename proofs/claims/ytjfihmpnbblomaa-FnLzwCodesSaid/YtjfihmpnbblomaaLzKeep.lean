/- What lzwRead keeps of each number: the numbers, or the texts. -/
import Derived.Test.YtjfihmpnbblomaaLzUnit
import Derived.Test.YtjfihmpnbblomaaOwnText
import Derived.RangeFuncBox
namespace Go.Proofs.Ytjfihmpnbblomaa
open Go.RowKit

/-- only the blocks B, KB, g have turned, and new ones came -/
structure LzF (B KB g : Nat) (w w' : World) : Prop where
  os : w'.os = w.os
  tape : w'.tape = w.tape
  output : w'.output = w.output
  size : w.heap.size ≤ w'.heap.size
  block : ∀ k, k < w.heap.size → k ≠ B → k ≠ KB → k ≠ g → w'.heap[k]? = w.heap[k]?
theorem LzF.refl (B KB g : Nat) (w : World) : LzF B KB g w w := ⟨rfl, rfl, rfl, Nat.le_refl _, fun _ _ _ _ _ => rfl⟩
theorem LzF.box {B KB g k : Nat} {w w' : World} {T : TypeId} {v : Value} (h : LzF B KB g w w') (hb : Boxed w k T v) (h1 : k ≠ B) (h2 : k ≠ KB) (h3 : k ≠ g) : Boxed w' k T v := (h.block k hb.lt h1 h2 h3).trans hb
/-- a step of the reader -/
theorem LzF.take {B KB g0 g : Nat} {tv' : Value} {n cap : Nat} {w a b : World} (h : LzF B KB g0 w a) (hg : LzG B (.slice (some ⟨g, 0, none⟩) n cap) tv' a b) (hgg : g = g0 ∨ w.heap.size ≤ g) : LzF B KB g0 w b :=
  ⟨hg.os.trans h.os, hg.tape.trans h.tape, hg.output.trans h.output, Nat.le_trans h.size hg.size, fun k hk h1 h2 h3 => (hg.block k (Nat.lt_of_lt_of_le hk h.size) h1 (fun e => by
    have e2 : k = g := by cases e; rfl
    omega)).trans (h.block k hk h1 h2 h3)⟩
theorem LzF.below {B KB g0 : Nat} {w a b : World} (h : LzF B KB g0 w a) (hb : Below a.heap.size a b) : LzF B KB g0 w b :=
  ⟨hb.os.trans h.os, hb.tape.trans h.tape, hb.output.trans h.output, Nat.le_trans h.size hb.size, fun k hk h1 h2 h3 => (hb.block k (Nat.lt_of_lt_of_le hk h.size)).trans (h.block k hk h1 h2 h3)⟩
theorem LzF.set {B KB g0 : Nat} {w a : World} (h : LzF B KB g0 w a) (v : Value) : LzF B KB g0 w (a.setCell ⟨KB, 0, none⟩ v) :=
  ⟨h.os, h.tape, h.output, by rw [World.size_setCell]; exact h.size, fun k hk h1 h2 h3 => (Below.heap_setCell a ⟨KB, 0, none⟩ v k h2).trans (h.block k hk h1 h2 h3)⟩

/-- the world behind who keeps: only v's own row has turned, and new blocks came -/
structure GrewV (w0 w' : World) (v : Value) : Prop where
  os : w'.os = w0.os
  tape : w'.tape = w0.tape
  output : w'.output = w0.output
  size : w0.heap.size ≤ w'.heap.size
  block : ∀ k, k < w0.heap.size → some k ≠ v.ownBlock → w'.heap[k]? = w0.heap[k]?
/-- a step of who keeps -/
theorem LzF.keep {B KB g0 : Nat} {kv : Value} {w a b : World} (h : LzF B KB g0 w a) (hg : GrewV a b kv) (hk' : ∀ k, kv.ownBlock = some k → w.heap.size ≤ k) : LzF B KB g0 w b :=
  ⟨hg.os.trans h.os, hg.tape.trans h.tape, hg.output.trans h.output, Nat.le_trans h.size hg.size, fun k hk h1 h2 h3 => (hg.block k (Nat.lt_of_lt_of_le hk h.size) (fun e => by have := hk' k e.symm; omega)).trans (h.block k hk h1 h2 h3)⟩

theorem ownsRow_besides {w w' : World} {B n e z : Nat} {v : Value} {l : List Value} (h : w.ownsRow B e z v n l) (hb : ∀ k, v.ownBlock = some k → w'.heap[k]? = w.heap[k]?) : w'.ownsRow B e z v n l := by
  refine ⟨h.1, ?_⟩
  rcases h.2 with h0 | ⟨g, cap, cur, rfl, hgB, hg, r⟩
  · exact .inl h0
  · exact .inr ⟨g, cap, cur, rfl, hgB, (hb g rfl).trans hg, r⟩

/-- rows of two kinds lie in two blocks -/
theorem rows_apart {w : World} {B B' n n' e e' z z' : Nat} {v v' : Value} {l l' : List Value} (h : w.ownsRow B e z v n l) (h' : w.ownsRow B' e' z' v' n' l') (hne : e ≠ e') (k : Nat) (hk : v.ownBlock = some k) (hk' : v'.ownBlock = some k) : False := by
  rcases h.2 with ⟨rfl, _⟩ | ⟨g, cap, cur, rfl, _, hg, _⟩
  · cases hk
  · rcases h'.2 with ⟨rfl, _⟩ | ⟨g', cap', cur', rfl, _, hg', _⟩
    · cases hk'
    · cases hk; cases hk'
      rw [hg] at hg'
      cases hg'
      exact hne rfl

def codesOf (dn : List (Nat × ByteArray)) : List Int := dn.map fun z => (z.1 : Int)
theorem codesOf_len (dn : List (Nat × ByteArray)) : (codesOf dn).length = dn.length := by simp [codesOf]
theorem codesOf_snoc (dn : List (Nat × ByteArray)) (v : Nat) (t : ByteArray) : codesOf (dn ++ [(v, t)]) = codesOf dn ++ [(v : Int)] := by simp [codesOf]
def textsOf (dn : List (Nat × ByteArray)) : List UInt8 := dn.flatMap fun z => z.2.data.toList
theorem textsOf_snoc (dn : List (Nat × ByteArray)) (v : Nat) (t : ByteArray) : textsOf (dn ++ [(v, t)]) = textsOf dn ++ t.data.toList := by simp [textsOf]
theorem textsOf_more (dn : List (Nat × ByteArray)) (v : Nat) (t : ByteArray) : (textsOf (dn ++ [(v, t)])).length = (textsOf dn).length + t.size := by
  rw [textsOf_snoc, List.length_append]; rfl

/-- the numbers are kept -/
def KpI (w : World) (base : Nat) (kv : Value) (dn : List (Nat × ByteArray)) : Prop := OwnI w base kv dn.length (codesOf dn)
/-- the texts are kept -/
def KpB (w : World) (base : Nat) (kv : Value) (dn : List (Nat × ByteArray)) : Prop := OwnT w base kv (textsOf dn).length (textsOf dn)
theorem KpI.besides {w w' : World} {base : Nat} {kv : Value} {dn : List (Nat × ByteArray)} (h : KpI w base kv dn) (hb : ∀ k, kv.ownBlock = some k → w'.heap[k]? = w.heap[k]?) : KpI w' base kv dn := ownsRow_besides h hb
theorem KpB.besides {w w' : World} {base : Nat} {kv : Value} {dn : List (Nat × ByteArray)} (h : KpB w base kv dn) (hb : ∀ k, kv.ownBlock = some k → w'.heap[k]? = w.heap[k]?) : KpB w' base kv dn := ownsRow_besides h hb
theorem KpI.lt {w : World} {base : Nat} {kv : Value} {dn : List (Nat × ByteArray)} (h : KpI w base kv dn) : ∀ k, kv.ownBlock = some k → base ≤ k ∧ k < w.heap.size := fun k hk => World.ownsRow.lt h k hk
theorem KpB.lt {w : World} {base : Nat} {kv : Value} {dn : List (Nat × ByteArray)} (h : KpB w base kv dn) : ∀ k, kv.ownBlock = some k → base ≤ k ∧ k < w.heap.size := fun k hk => World.ownsRow.lt h k hk
theorem kpI_nil (w : World) (base : Nat) : KpI w base (.slice none 0 0) [] := ownI_nil w base
theorem kpB_nil (w : World) (base : Nat) : KpB w base (.slice none 0 0) [] := ownT_nil w base

theorem KpI.apart {w : World} {base lo g n cap : Nat} {kv : Value} {dn : List (Nat × ByteArray)} {l : List ByteArray} (h : KpI w base kv dn) (ho : OwnL w lo (.slice (some ⟨g, 0, none⟩) n cap) n l) : kv.ownBlock ≠ some g := fun e => rows_apart h ho (by decide) g e rfl
theorem KpB.apart {w : World} {base lo g n cap : Nat} {kv : Value} {dn : List (Nat × ByteArray)} {l : List ByteArray} (h : KpB w base kv dn) (ho : OwnL w lo (.slice (some ⟨g, 0, none⟩) n cap) n l) : kv.ownBlock ≠ some g := fun e => rows_apart h ho (by decide) g e rfl
theorem Lz.step_left {s : ByteArray} {b : Nat} {wide : Bool} {p : Nat} {l : List ByteArray} {last : ByteArray} {left v : Nat} {t : ByteArray} {l2 : List ByteArray} {last2 : ByteArray} {left2 : Nat} (h : Lz.step s b wide p l last left = .ok (v, t, l2, last2, left2)) : left2 + t.size = left := by
  unfold Lz.step at h
  simp only at h
  split at h
  · cases h
  · split at h
    · cases h; rfl
    · split at h
      · cases h; rfl
      · split at h
        · cases h
        · split at h
          · cases h
          · cases h; omega

theorem lzKeepI (base : Nat) (kv : Value) (dn : List (Nat × ByteArray)) (v : Nat) (t : ByteArray) (w : World) (ho : KpI w base kv dn) (hm : dn.length ≤ 1000000) (_hz : (textsOf dn).length + t.size ≤ 5000) (hb : base ≤ w.heap.size) :
    Calls Try.prog 47 #[kv, .int .i64 (v : Int), .string t] w fun e w' => ∃ ao N cap, e = .returned (.slice ao N cap) ∧ KpI w' base (.slice ao N cap) (dn ++ [(v, t)]) ∧ GrewV w w' kv := by
  refine (lzKeep_any base kv dn.length (codesOf dn) (v : Int) t w ho hm hb).mono ?_
  rintro e w' ⟨g, cap, rfl, ho', hg⟩
  refine ⟨some ⟨g, 0, none⟩, dn.length + 1, cap, rfl, ?_, ⟨hg.os, hg.tape, hg.output, hg.size, hg.block⟩⟩
  unfold KpI
  rw [codesOf_snoc, List.length_append]
  exact ho'

theorem lzKeepB (base : Nat) (kv : Value) (dn : List (Nat × ByteArray)) (v : Nat) (t : ByteArray) (w : World) (ho : KpB w base kv dn) (_hm : dn.length ≤ 1000000) (hz : (textsOf dn).length + t.size ≤ 5000) (hb : base ≤ w.heap.size) :
    Calls Try.prog 29 #[kv, .int .i64 (v : Int), .string t] w fun e w' => ∃ ao N cap, e = .returned (.slice ao N cap) ∧ KpB w' base (.slice ao N cap) (dn ++ [(v, t)]) ∧ GrewV w w' kv := by
  obtain ⟨i0, hi0, hz0, hz1, hz2⟩ := info_parts info_u8t
  have HO : Hid (KpB w base kv dn) := ho
  have hml : (textsOf dn).length + t.size ≤ maxLen := by unfold maxLen; omega
  clear ho
  go_enter Try.func29, Try.ntmps29
  go_wp2_with (at_builtin; refine Go.Lib.wpList_append_own_string _ (by rfl) _ _ _ _ (by rfl) base 5 i0 Try.underlying22 Try.underlying9 hi0 hz0 hz1 hz2 kv (textsOf dn).length (u8V (textsOf dn)) (by rfl) HO.out t (by rfl) hml (by omega) hb ?_)
  intro v' w' hown' hg hat
  rw [u8V_str, u8V_append] at hown'
  have hK : KpB w' base v' (dn ++ [(v, t)]) := by
    unfold KpB OwnT
    rw [textsOf_more, textsOf_snoc]
    exact hown'
  obtain ⟨ao, N, cap, rfl⟩ : ∃ ao N cap, v' = .slice ao N cap := by
    rcases hown'.2 with ⟨rfl, _⟩ | ⟨g, cap, cur, rfl, _⟩
    · exact ⟨_, _, _, rfl⟩
    · exact ⟨_, _, _, rfl⟩
  have HF : Hid (KpB w' base (.slice ao N cap) (dn ++ [(v, t)]) ∧ GrewV w w' kv) := ⟨hK, ⟨hg.os, hg.tape, hg.output, hg.size, hg.block⟩⟩
  clear hK hown' hg hat
  go_wp2_with fail
  go_ret
  exact ⟨ao, N, cap, rfl, HF.out⟩
end Go.Proofs.Ytjfihmpnbblomaa
