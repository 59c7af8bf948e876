/- The table of pairs in memory. -/
import Derived.Test.YtjfihmpnbblomaaLqMath
import Derived.Test.YtjfihmpnbblomaaProg
import Derived.Test.YtjfihmpnbblomaaBase
import Derived.Maps.OwnSet
import Derived.DeepKeys4
namespace Go.Proofs.Ytjfihmpnbblomaa
open Go.RowKit Go.Maps

theorem laidOut_ : laidOutB Try.prog = true := by kernel_rfl
theorem row_pair : (69 : TypeId) < Try.prog.types.size := of_decide_eq_true (by kernel_rfl)
set_option maxRecDepth 100000 in
theorem ktype_pair : Try.prog.keyTypeAt 2 69 = true := by kernel_rfl
theorem key_pair : Keyed Try.prog 69 := Keyed.of_law (deep_law_laid laidOut_ (m := 2) (Nat.le_of_ble_eq_true rfl) row_pair ktype_pair (by rw [Try.underlying69]))
def pairV (h c : Nat) : Value := .agg #[.int .i64 (h : Int), .int .u8 (c : Int)]
theorem cells_pair : Try.prog.cellsOf 69 = 2 := by kernel_rfl
theorem cells_i : Try.prog.cellsOf 3 = 1 := by kernel_rfl
theorem cells_b : Try.prog.cellsOf 5 = 1 := by kernel_rfl
set_option maxRecDepth 100000 in
theorem kt_pair : Try.prog.keyType 69 = true := by kernel_rfl
theorem size_pos {n k : Nat} (h : k < n) : ∃ d, n = d + 1 := ⟨n - 1, by omega⟩
def pairKey (h c : Nat) : Lit := .string (keyBytes [.int .i64 (h : Int), .int .u8 (c : Int)])
theorem pairKey_of (h c : Nat) (hh : h ≤ 100000) (hc : c < 256) : keyOf Try.prog 69 (pairV h c) = some (pairKey h c) := by
  have w1 : (Lit.int .i64 (h : Int)).wf = true := WalkArith.wf_i64 (by omega)
  have w2 : (Lit.int .u8 (c : Int)).wf = true := WalkArith.wf_u8 (by omega)
  have hl : Try.prog.keyLits (Try.prog.types.size + 1) 69 (pairV h c).cells.toList = some [.int .i64 (h : Int), .int .u8 (c : Int)] := by
    show Try.prog.keyLits (Try.prog.types.size + 1) 69 [.int .i64 (h : Int), .int .u8 (c : Int)] = _
    obtain ⟨d, hd⟩ := size_pos row_pair
    rw [hd]
    unfold Program.keyLits
    simp only [Try.underlying69]
    have k1 : Try.prog.keyLits (d + 1) 3 [.int .i64 (h : Int)] = some [.int .i64 (h : Int)] := by
      unfold Program.keyLits
      simp only [Try.underlying3]
      rw [if_pos ⟨trivial, w1⟩]
    have k2 : Try.prog.keyLits (d + 1) 5 [.int .u8 (c : Int)] = some [.int .u8 (c : Int)] := by
      unfold Program.keyLits
      simp only [Try.underlying5]
      rw [if_pos ⟨trivial, w2⟩]
    rw [if_pos ⟨by rw [cells_pair]; rfl, by simp⟩]
    simp [cells_i, cells_b, k1, k2]
  have hf : (pairV h c).formed Try.prog 69 = true := by simp [pairV, Value.formed, Try.underlying69, cells_pair]
  unfold keyOf
  simp only [Try.underlying69, kt_pair, hf, hl, Bool.and_self, if_true, Option.map_some]
  rfl

theorem pairKey_inj {h c h' c' : Nat} (hh : h ≤ 100000) (hc : c < 256) (hh' : h' ≤ 100000) (hc' : c' < 256) (e : pairKey h c = pairKey h' c') : h = h' ∧ c = c' := by
  have h1 := pairKey_of h c hh hc
  have h2 := pairKey_of h' c' hh' hc'
  rw [← e] at h2
  have h3 := key_pair.inj h1 h2
  unfold pairV at h3
  injection h3 with h4
  simp at h4
  omega
theorem pairKey_lit (h c : Nat) : WideAt.IsKeyLit (pairKey h c) := trivial

/-- the table tells what is known -/
structure TabIs (D : DataW Unit) (b : Nat) (l : List ByteArray) : Prop where
  isMap : IsMap D
  has_ : ∀ h c : Nat, h ≤ 100000 → c < 256 → has D (pairKey h c) = decide (0 ≤ Lq.look l h c)
  at_ : ∀ h c : Nat, h ≤ 100000 → c < 256 → 0 ≤ Lq.look l h c → ∀ z, D.atKey (pairKey h c) z = .lit (.int .i64 (Lq.look l h c))
  size_ : size D + (2 ^ b + 2) = l.length
theorem tab_start (b : Nat) : TabIs (.map []) b (Lz.start b) :=
  ⟨isMap_empty, fun h c _ _ => by rw [Lq.look_start]; rfl, fun h c _ _ hl => by rw [Lq.look_start] at hl; omega, by rw [Lz.start_len]; show 0 + _ = _; omega⟩
theorem TabIs.more {D : DataW Unit} {b v c : Nat} {l : List ByteArray} {z : ByteArray} (t : TabIs D b l) (ti : Tidy D) (g : Lq.Inv b l) (h : Lp.num l z = (v : Int)) (hz : z.size = 1 → Lp.byte z < 2 ^ b) (hz1 : 1 ≤ z.size) (hn : Lp.find l (z ++ Lz.one c) < 0) (hc : c < 256) (hv : v ≤ 100000) :
    TabIs (D.put (pairKey v c) (.lit (.int .i64 (l.length : Int)))) b (l ++ [z ++ Lz.one c]) := by
  have hlk : Lq.look l v c < 0 := by rw [Lq.look_num c g h hz hz1, Lp.num_two rfl hz1]; exact hn
  have hh0 : has D (pairKey v c) = false := by rw [t.has_ v c hv hc]; exact decide_eq_false (by omega)
  refine ⟨t.isMap.put _ _, fun h' c' hh' hc' => ?_, fun h' c' hh' hc' hl y => ?_, ?_⟩
  · rw [Lq.look_more g h hz hz1 hn hc h' c' hc']
    by_cases e : h' = v ∧ c' = c
    · obtain ⟨rfl, rfl⟩ := e
      rw [if_pos ⟨rfl, rfl⟩, has_put_same t.isMap (pairKey_lit _ _)]
      exact (decide_eq_true (by omega)).symm
    · rw [if_neg e, has_put_other (fun q => e (pairKey_inj hh' hc' hv hc q)), t.has_ h' c' hh' hc']
  · rw [Lq.look_more g h hz hz1 hn hc h' c' hc'] at hl ⊢
    by_cases e : h' = v ∧ c' = c
    · obtain ⟨rfl, rfl⟩ := e
      rw [if_pos ⟨rfl, rfl⟩, atKey_put_same t.isMap (pairKey_lit _ _)]
    · rw [if_neg e] at hl ⊢
      rw [atKey_put_other (fun q => e (pairKey_inj hh' hc' hv hc q)), t.at_ h' c' hh' hc' hl]
  · rw [size_put ti, hh0, List.length_append]
    have := t.size_
    simp
    omega
end Go.Proofs.Ytjfihmpnbblomaa
