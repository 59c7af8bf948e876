/- Pieces, drawn of a code. -/
import Derived.Test.YtgbcjkpmiceddaaDrawWalks
import Derived.Test.YtgbcjkpmiceddaaTextWalks
import Derived.Test.YtgbcjkpmiceddaaChOwn
import Derived.Test.YtgbcjkpmiceddaaBendWalks
import Derived.Test.YtgbcjkpmiceddaaChSpec
namespace Go.Proofs.Ytgbcjkpmiceddaa
open Go.RowKit

set_option maxHeartbeats 400000 in
theorem of_list (B p L n : Nat) (ss : List ByteArray) (w : World) (hr : RdAt w B p) (hp : p ≤ 1000000) (hL : B < L) (hn : ss.length = n) (hn0 : 0 < n) (hn1 : n ≤ 100)
    (hc : ∀ i (h : i < ss.length), w.cell? ⟨L, i, none⟩ = some (.string ss[i])) (hs : ∀ t ∈ ss, t.size ≤ 10) :
    Calls Try.prog 27 #[.pointer (some ⟨B, 0, none⟩), .slice (some ⟨L, 0, none⟩) n n] w fun e w' => (∃ t : ByteArray, e = .returned (.string t) ∧ t.size ≤ 10) ∧ RdAt w' B (p + 1) ∧ Only B w w' := by
  have HP : Hid (Calls Try.prog 15 #[.pointer (some ⟨B, 0, none⟩), .int .i64 (n : Int)] w fun e w' => ∃ v : Nat, e = .returned (.int .i64 (v : Int)) ∧ (v : Int) < n ∧ RdAt w' B (p + 1) ∧ Only B w w' ∧ w'.heap.size = w.heap.size) := pick_named B p (n : Int) w hr (by omega) (by omega) (by omega)
  have HC : Hid (∀ i (h : i < ss.length), w.cell? ⟨L, i, none⟩ = some (.string ss[i])) := hc
  have hLw : 0 < n → L < w.heap.size := fun h => World.block_lt_of_cell? _ _ (hc 0 (by omega))
  clear hc hr
  go_enter Try.func27, Try.ntmps27
  go_wp2_with fail
  refine HP.out.mono ?_
  rintro e w1 ⟨v, rfl, hv, hR, hO, -⟩
  have hvn : v < n := by omega
  have hvs : v < ss.length := by omega
  have hcell : w1.cell? ⟨L, v, none⟩ = some (.string ss[v]) := (hO.cell L v (hLw hn0) (by omega)).trans (HC.out v hvs)
  have HF : Hid (RdAt w1 B (p + 1) ∧ Only B w w1 ∧ (ss[v]).size ≤ 10) := ⟨hR, hO, hs _ (List.getElem_mem hvs)⟩
  generalize ss[v] = t at *
  clear hR hO HC HP hLw hs
  go_wp2_with fail
  go_ret
  exact ⟨⟨t, rfl, HF.out.2.2⟩, HF.out.1, HF.out.2.1⟩

/-- pieces gathered, the reader beside them -/
def Gch (w : World) (B : Nat) (q : Nat) (v : Value) (l : List (ByteArray × ByteArray)) (wr : World) : Prop :=
  OwnC wr w.heap.size v l.length l ∧ RdAt wr B q ∧ Only B w wr ∧ (∀ p ∈ l, p.1.size ≤ 10 ∧ p.2.size ≤ 9001)
theorem Gch.next {w wr w2 : World} {B q q' : Nat} {v : Value} {l : List (ByteArray × ByteArray)} (h : Gch w B q v l wr) (o : Only B wr w2) (hR : RdAt w2 B q') (hB : B < w.heap.size) : Gch w B q' v l w2 := by
  obtain ⟨a1, a2, a3, a4⟩ := h
  exact ⟨a1.same (fun k hk hb => o.rest k hk (by omega)), hR, a3.trans o, a4⟩
theorem Gch.more {w w3 w4 : World} {B q g cap : Nat} {v : Value} {l : List (ByteArray × ByteArray)} {x y : ByteArray} (h : Gch w B q v l w3) (ho : w4.ownsRow w.heap.size 46 2 (.slice (some ⟨g, 0, none⟩) (l.length + 1) cap) (l.length + 1) (chCells l ++ [.string x, .string y])) (hg : w3.grownBy w4 v.ownBlock) (hB : B < w.heap.size) (hx : x.size ≤ 10) (hy : y.size ≤ 9001) :
    Gch w B q (.slice (some ⟨g, 0, none⟩) (l.length + 1) cap) (l ++ [(x, y)]) w4 := by
  obtain ⟨a1, a2, a3, a4⟩ := h
  have hlo : ∀ k, v.ownBlock = some k → w.heap.size ≤ k := fun k hk => (World.ownsRow.lt (show World.ownsRow _ _ _ _ _ _ _ from a1) k hk).1
  have k1 : ∀ k, k < w.heap.size → w4.heap[k]? = w3.heap[k]? := fun k hk => hg.block k (Nat.lt_of_lt_of_le hk a3.below.size) (fun e => by have := hlo k e.symm; omega)
  have hbel : Below (B + 1) w3 w4 := (Below.refl _ _).grown hg (Nat.le_trans hB a3.below.size) (fun k hk => by have := hlo k hk; omega)
  refine ⟨by rw [List.length_append]; exact OwnC.more ho, a2.kept hbel, ⟨a3.below.trans (hbel.mono (by omega)), fun k hk hne => (k1 k hk).trans (a3.rest k hk hne)⟩, ?_⟩
  intro p hp
  rw [List.mem_append] at hp
  rcases hp with hp | hp
  · exact a4 p hp
  · rw [List.mem_singleton] at hp
    subst hp
    exact ⟨hx, hy⟩
/-- how pieces are drawn -/
def ChsDrawn (w : World) (B p : Nat) (e : Ending) (w' : World) : Prop :=
  ∃ (l : List (ByteArray × ByteArray)) (ao : Option Addr) (cap q : Nat), e = .returned (.slice ao l.length cap) ∧ l.length ≤ 4 ∧ q ≤ p + 500 ∧ Gch w B q (.slice ao l.length cap) l w'

set_option maxHeartbeats 2000000 in
set_option maxRecDepth 20000 in
theorem l14Chunks_any (B p : Nat) (w : World) (hr : RdAt w B p) (hp : p ≤ 10000) :
    Calls Try.prog 14 #[.pointer (some ⟨B, 0, none⟩)] w (ChsDrawn w B p) := by
  have hB := hr.lt
  have HE : Hid (OwnC (w.alloc (.cells #[] 46)) w.heap.size (.slice (some ⟨w.heap.size, 0, none⟩) 0 0) 0 []) := ch_own_none w
  have HR0 : Hid (RdAt (w.alloc (.cells #[] 46)) B p) := hr.alloc _
  have HO0 : Hid (Only B w (w.alloc (.cells #[] 46))) := (Only.refl B w).alloc hB _
  have HP : Hid (Calls Try.prog 15 #[.pointer (some ⟨B, 0, none⟩), .int .i64 5] (w.alloc (.cells #[] 46)) fun e w' => ∃ v : Nat, e = .returned (.int .i64 (v : Int)) ∧ (v : Int) < 5 ∧ RdAt w' B (p + 1) ∧ Only B (w.alloc (.cells #[] 46)) w' ∧ w'.heap.size = (w.alloc (.cells #[] 46)).heap.size) := pick_named B p 5 _ HR0.out (by omega) (by omega) (by omega)
  clear hr
  obtain ⟨i0, hi0, hz0, hz1, hz2⟩ := info_parts info_chunk
  go_enter Try.func14, Try.ntmps14
  go_wp2_with fail
  refine HP.out.mono ?_
  rintro e w1 ⟨n, rfl, hn, hR1, hO1, -⟩
  have HG : Hid (Gch w B (p + 1) (.slice (some ⟨w.heap.size, 0, none⟩) 0 0) [] w1) := by
    refine Gch.next (wr := w.alloc (.cells #[] 46)) (q := p) ⟨HE.out, HR0.out, HO0.out, fun p hp => by cases hp⟩ hO1 hR1 hB
  clear hR1 hO1 HE HR0 HO0 HP
  go_wp2_with fail
  go_loopw [3, 4] (fun v i wr => ∃ (k q : Nat) (l : List (ByteArray × ByteArray)) (ao : Option Addr) (cap : Nat), k + l.length ≤ 4 ∧ i = .int .i64 (k : Int) ∧ v = .slice ao l.length cap ∧ q ≤ p + 1 + 110 * l.length ∧ Hid (Gch w B q (.slice ao l.length cap) l wr)) (fun _ i _ => (intOf i).toNat)
  case atStart => exact ⟨n, p + 1, [], _, _, by show n + 0 ≤ 4; omega, rfl, rfl, by omega, HG⟩
  case round =>
    obtain ⟨k, q, l, ao, cap, hk, rfl, rfl, hq, HG1⟩ := hrel
    clear HG
    by_cases hk0 : 0 < k
    · have hk0i : (0 : Int) < (k : Int) := by omega
      have HOF : Hid (Calls Try.prog 27 #[.pointer (some ⟨B, 0, none⟩), .slice (some ⟨wr.heap.size, 0, none⟩) 5 5] (wr.alloc (.cells #[.string ⟨#[73, 72, 68, 82]⟩, .string ⟨#[73, 68, 65, 84]⟩, .string ⟨#[73, 69, 78, 68]⟩, .string ⟨#[116, 69, 88, 116]⟩, .string ⟨#[97, 98, 99, 100]⟩] 9)) fun e w' => (∃ t : ByteArray, e = .returned (.string t) ∧ t.size ≤ 10) ∧ Gch w B (q + 1) (.slice ao l.length cap) l w') := by
        have hG2 : Gch w B q (.slice ao l.length cap) l (wr.alloc (.cells #[.string ⟨#[73, 72, 68, 82]⟩, .string ⟨#[73, 68, 65, 84]⟩, .string ⟨#[73, 69, 78, 68]⟩, .string ⟨#[116, 69, 88, 116]⟩, .string ⟨#[97, 98, 99, 100]⟩] 9)) := HG1.out.next ((Only.refl B wr).alloc HG1.out.2.1.lt _) (HG1.out.2.1.alloc _) hB
        refine (of_list B q wr.heap.size 5 [⟨#[73, 72, 68, 82]⟩, ⟨#[73, 68, 65, 84]⟩, ⟨#[73, 69, 78, 68]⟩, ⟨#[116, 69, 88, 116]⟩, ⟨#[97, 98, 99, 100]⟩] _ hG2.2.1 (by omega) HG1.out.2.1.lt rfl (by omega) (by omega) ?_ ?_).mono ?_
        · intro i hi
          rw [World.cell?_alloc_at _ _ _ _ rfl]
          have h : i = 0 ∨ i = 1 ∨ i = 2 ∨ i = 3 ∨ i = 4 := by simp at hi; omega
          rcases h with rfl | rfl | rfl | rfl | rfl <;> rfl
        · intro t ht
          simp at ht
          rcases ht with rfl | rfl | rfl | rfl | rfl <;> decide
        · rintro e w' ⟨h1, h2, h3⟩
          exact ⟨h1, hG2.next h3 h2 hB⟩
      go_wp2_with fail
      refine HOF.out.mono ?_
      rintro e w2 ⟨⟨x, rfl, hx⟩, hG2⟩
      have HG2 : Hid (Gch w B (q + 1) (.slice ao l.length cap) l w2) := hG2
      have HTX : Hid (Calls Try.prog 30 #[.pointer (some ⟨B, 0, none⟩)] w2 fun e w' => (∃ t : ByteArray, e = .returned (.string t) ∧ t.size ≤ 9001) ∧ ∃ q2, q2 ≤ q + 1 + 100 ∧ Gch w B q2 (.slice ao l.length cap) l w') := by
        refine (text_any B (q + 1) w2 hG2.2.1 (by omega)).mono ?_
        rintro e w' ⟨h1, ⟨q2, h2, h3⟩, h4⟩
        exact ⟨h1, q2, h2, hG2.next h4 h3 hB⟩
      clear hG2 HOF HG1
      go_wp2_with fail
      refine HTX.out.mono ?_
      rintro e w3 ⟨⟨y, rfl, hy⟩, q2, hq2, hG3⟩
      have hown := hG3.1
      have hbs : w.heap.size ≤ w3.heap.size := hG3.2.2.1.below.size
      have HG4 : Hid (Gch w B q2 (.slice ao l.length cap) l (w3.alloc (.cells #[.string x, .string y] 46))) := hG3.next ((Only.refl B w3).alloc hG3.2.1.lt _) (hG3.2.1.alloc _) hB
      have hm63 : l.length + 1 ≤ maxLen := by unfold maxLen; omega
      have hlen : (l.length + 1) * 32 ≤ 140737488355328 := by omega
      have hone : ∀ u ∈ [Value.string x, Value.string y], u.oneCell' = true := by intro u hu; simp at hu; rcases hu with rfl | rfl <;> rfl
      clear hG3 HTX HG2
      go_wp2_with (at_builtin; refine wpList_append_lies _ (by rfl) _ _ _ (by rfl) w.heap.size 46 i0 (.agg #[.string ⟨#[]⟩, .string ⟨#[]⟩]) 2 32 Try.underlying24 hi0 hz0 hz1 hz2 rfl (by decide) _ l.length (chCells l) (by rfl) (World.ownsRow.alloc (show World.ownsRow _ _ _ _ _ _ _ from hown) _) ⟨w3.heap.size, 0, none⟩ 1 1 [.string x, .string y] (by rfl) rfl (World.news_of_block (heap_alloc_new _ _)) hone (by decide) hm63 hlen (by simp; omega) _ rfl ?_)
      intro g cap2 w4 hown4 hgrow hat hlt4
      have HG5 : Hid (Gch w B q2 (.slice (some ⟨g, 0, none⟩) (l.length + 1) cap2) (l ++ [(x, y)]) w4) := HG4.out.more hown4 hgrow hB hx hy
      clear hown4 hgrow hat hlt4 hown HG4 hone hm63 hlen
      go_wp2_with fail
      go_roundw
      case rel => exact ⟨k - 1, q2, l ++ [(x, y)], some ⟨g, 0, none⟩, cap2, by rw [List.length_append]; show k - 1 + (l.length + 1) ≤ 4; omega, by go_num, by rw [List.length_append]; rfl, by rw [List.length_append]; show q2 ≤ p + 1 + 110 * (l.length + 1); omega, by rw [List.length_append]; exact HG5.out⟩
      case measure => simp [intOf]; omega
    · have hk' : k = 0 := by omega
      subst hk'
      go_wp2_with fail
      go_ret
      exact ⟨l, ao, cap, q, rfl, by omega, by omega, HG1.out⟩
end Go.Proofs.Ytgbcjkpmiceddaa
