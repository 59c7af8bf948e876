/- Texts laid together: DrawRows, ConvWalks, BendWalks, DrawRleGet, RlTop, QsTop, RlMore, RwsWalks, WiInts, WiRows, LawRleGet. -/
import Derived.Test.YtlpfedhehfbfeaaDrawRun
import Derived.Test.YtlpfedhehfbfeaaReTop
import Derived.Deep.AppendLies
import Derived.Test.YtlpfedhehfbfeaaStrWalks
import Derived.Laws.IdiomStrings
import Derived.Below
import Derived.Test.YtlpfedhehfbfeaaDrawWalks
import Derived.Test.YtlpfedhehfbfeaaOnlyB
import Derived.Test.YtlpfedhehfbfeaaOwnText
import Derived.Deep.Cut
import Derived.Test.YtlpfedhehfbfeaaRlWork
import Derived.Test.YtlpfedhehfbfeaaRlNew
import Derived.Test.YtlpfedhehfbfeaaQsRows
import Derived.Test.YtlpfedhehfbfeaaInWalks
import Derived.Test.YtlpfedhehfbfeaaRlMath
import Derived.Test.YtlpfedhehfbfeaaMarkFrom
import Derived.Test.YtlpfedhehfbfeaaIntsWalks
/- Rows drawn. -/
namespace Go.Proofs.Ytlpfedhehfbfeaa
open Go.RowKit

theorem info_ints : (Try.prog.info? 26).map (fun i => (i.zero, i.size, i.bytes)) = some (some (.slice none 0 0), 1, 24) := by kernel_rfl

/-- a row: where it lies, how many there is room for, what it is -/
abbrev Rw := Option Addr × Nat × List Int
def Rw.val (r : Rw) : Value := .slice r.1 r.2.2.length r.2.1
/-- rows of a call's own, each for itself -/
def Own2 (w : World) (lo : Nat) (rs : List Rw) : Prop := (∀ r ∈ rs, OwnI w lo (Rw.val r) r.2.2.length r.2.2) ∧ rs.Pairwise (fun r s => (Rw.val r).ownBlock = none ∨ (Rw.val r).ownBlock ≠ (Rw.val s).ownBlock)
def OwnR (w : World) (lo : Nat) (v : Value) (n : Nat) (rs : List Rw) : Prop := w.ownsRow lo 26 1 v n (rs.map Rw.val) ∧ Own2 w lo rs
theorem OwnR.len {w : World} {lo n : Nat} {v : Value} {rs : List Rw} (h : OwnR w lo v n rs) : rs.length = n := by
  have := h.1.1; rw [List.length_map, Nat.mul_one] at this; exact this
theorem OwnR.same {w w' : World} {lo n : Nat} {v : Value} {rs : List Rw} (h : OwnR w lo v n rs) (hk : ∀ k, k < w.heap.size → lo ≤ k → w'.heap[k]? = w.heap[k]?) : OwnR w' lo v n rs := by
  refine ⟨⟨h.1.1, ?_⟩, fun r hr => (h.2.1 r hr).same hk, h.2.2⟩
  rcases h.1.2 with h2 | ⟨g, cap, cur, hv, hg, hh, r⟩
  · exact .inl h2
  · exact .inr ⟨g, cap, cur, hv, hg, (hk g (Array.getElem?_eq_some_iff.1 hh).1 hg).trans hh, r⟩
theorem OwnR.only {w w' : World} {lo C n : Nat} {v : Value} {rs : List Rw} (h : OwnR w lo v n rs) (ho : Only C w w') (hC : C < lo) : OwnR w' lo v n rs := h.same (fun k hk hB => ho.rest k hk (by omega))
theorem OwnR.below {w w' : World} {lo n : Nat} {v : Value} {rs : List Rw} (h : OwnR w lo v n rs) (hb : Below w.heap.size w w') : OwnR w' lo v n rs := h.same (fun k hk _ => hb.block k hk)
theorem OwnR.shape {w : World} {lo n : Nat} {v : Value} {rs : List Rw} (h : OwnR w lo v n rs) : ∃ a c, v = .slice a n c ∧ n ≤ c := by
  rcases h.1.2 with ⟨rfl, rfl⟩ | ⟨g, cap, cur, rfl, _, _, h1, _⟩
  · exact ⟨none, 0, rfl, Nat.le_refl _⟩
  · exact ⟨_, cap, rfl, h1⟩
theorem OwnR.rows {w : World} {lo n c : Nat} {a : Option Addr} {rs : List Rw} (h : OwnR w lo (.slice a n c) n rs) : Rows2 w a (rs.map (fun r => r.2.2)) := by
  have hl := h.len
  rcases h.1.2 with ⟨e, h0⟩ | ⟨g, cap, cur, e, _, hg, _⟩
  · cases e
    left
    rw [List.eq_nil_of_length_eq_zero (hl.trans h0)]; rfl
  · cases e
    refine .inr ⟨g, 0, rfl, (Array.getElem?_eq_some_iff.1 hg).1, fun i hi => ?_⟩
    rw [List.length_map] at hi
    simp only [List.getElem_map]
    have h1 := h.2.1 rs[i] (List.getElem_mem hi)
    refine ⟨rs[i].1, rs[i].2.1, ?_, own_ints h1, h1.cap'⟩
    rw [Nat.zero_add]
    have := World.ownsRow.cells h.1 (g := g) rfl i (Rw.val rs[i]) (by rw [List.getElem?_map, List.getElem?_eq_getElem hi]; rfl)
    rw [show (⟨g, 0, none⟩ : Addr).add i = ⟨g, i, none⟩ by simp [Addr.add]; try omega] at this
    exact this
theorem ownR_none (w : World) : OwnR (w.alloc (.cells #[] 26)) w.heap.size (.slice (some ⟨w.heap.size, 0, none⟩) 0 0) 0 [] :=
  ⟨⟨rfl, .inr ⟨w.heap.size, 0, #[], rfl, Nat.le_refl _, heap_alloc_new w _, Nat.le_refl _, Nat.zero_le _, rfl, rfl⟩⟩, fun _ h => by simp at h, List.Pairwise.nil⟩
/-- a row cut short -/
theorem OwnI.cut {w : World} {lo n c m : Nat} {a : Option Addr} {l : List Int} (h : OwnI w lo (.slice a n c) n l) (hm : m ≤ n) : OwnI w lo (.slice a m c) m (l.take m) := by
  refine ⟨by rw [intsV_len, List.length_take, h.len]; omega, ?_⟩
  rcases h.2 with ⟨e, h0⟩ | ⟨g, cap, cur, e, h1, h2, h3, h4, h5, h6⟩
  · cases e
    obtain rfl : m = 0 := by omega
    exact .inl ⟨rfl, rfl⟩
  · cases e
    refine .inr ⟨g, c, cur, rfl, h1, h2, by omega, h4, h5, ?_⟩
    have : intsV (l.take m) = (intsV l).take m := by unfold intsV; rw [List.map_take]
    rw [this, ← h6, List.take_take, Nat.mul_one, Nat.mul_one, Nat.min_eq_left hm]
/-- a row that is new, behind the others -/
theorem OwnR.more {w w0 w' : World} {lo n m c c0 g cap : Nat} {v : Value} {a : Option Addr} {l : List Int} {rs : List Rw} (h : OwnR w lo v n rs) (hl : OwnI w m (.slice a l.length c) l.length l) (hm : ∀ r ∈ rs, ∀ j, (Rw.val r).ownBlock = some j → j < m) (hlo : lo ≤ m) (hw : w0 = w.alloc (.cells #[.slice a l.length c] 26))
    (hown : w'.ownsRow lo 26 1 (.slice (some ⟨g, 0, none⟩) (n + 1) cap) (n + 1) (rs.map Rw.val ++ [.slice a l.length c])) (hg : w0.grownBy w' v.ownBlock) (_hc : c0 = c) : OwnR w' lo (.slice (some ⟨g, 0, none⟩) (n + 1) cap) (n + 1) (rs ++ [(a, c, l)]) := by
  have hl' : OwnI w lo (.slice a l.length c) l.length l := hl.lower hlo
  have hno : ∀ (u : Value) (z : Nat) (q : List Int), OwnI w lo u z q → u.ownBlock = none ∨ u.ownBlock ≠ v.ownBlock := fun u z q hu => by
    rcases h.1.2 with ⟨rfl, _⟩ | ⟨g1, cap1, cur1, rfl, _, hg1, _⟩
    · by_cases e : u.ownBlock = none
      · exact .inl e
      · exact .inr e
    · rcases hu.2 with ⟨rfl, _⟩ | ⟨g2, cap2, cur2, rfl, _, hg2, _⟩
      · exact .inl rfl
      · refine .inr (fun e => ?_)
        have e' : g2 = g1 := by simpa [Value.ownBlock] using e
        rw [e', hg1] at hg2
        cases hg2
  have hkeep : ∀ (u : Value) (z : Nat) (q : List Int), OwnI w lo u z q → OwnI w' lo u z q := fun u z q hu => by
    have h1 : OwnI w0 lo u z q := by rw [hw]; exact hu.alloc _
    exact World.ownsRow.kept (show World.ownsRow _ _ _ _ _ _ _ from h1) hg (hno u z q hu)
  refine ⟨by rw [List.map_append]; exact hown, fun r hr => ?_, ?_⟩
  · rcases List.mem_append.1 hr with hr | hr
    · exact hkeep _ _ _ (h.2.1 r hr)
    · rw [List.mem_singleton] at hr
      subst hr
      exact hkeep _ _ _ hl'
  · rw [List.pairwise_append]
    refine ⟨h.2.2, List.pairwise_singleton _ _, fun r hr s hs => ?_⟩
    rw [List.mem_singleton] at hs
    subst hs
    by_cases e : (Rw.val r).ownBlock = none
    · exact .inl e
    · refine .inr (fun e2 => ?_)
      obtain ⟨j, hj⟩ := Option.ne_none_iff_exists'.1 e
      have h1 := hm r hr j hj
      have h2 := World.ownsRow.lt (show World.ownsRow _ _ _ _ _ _ _ from hl) j (e2.symm.trans hj)
      omega

theorem wpList_appR {ops : Array Oper} {rest : List Oper} {o : Oper} {ac : Act} {Q : Exit → Act → World → Prop} (w0 : World) (hgd : o.guard = none) (s x : Operand)
    (ho : o.op = .call { callee := .builtin .append, args := #[s, x], argTypes := #[23, 23] })
    (base : Nat) (v : Value) (n m c : Nat) (a : Option Addr) (l : List Int) (rs : List Rw) (hs : ac.eval s = v) (z : Nat) (hz : l.length = z) (hown : OwnR w0 base v n rs) (hl : OwnI w0 m (.slice a z c) z l) (hm : ∀ r ∈ rs, ∀ j, (Rw.val r).ownBlock = some j → j < m) (hlo : base ≤ m)
    (hx : ac.eval x = .slice (some ⟨w0.heap.size, 0, none⟩) 1 1) (hn : n ≤ 2000000) (hb : base ≤ w0.heap.size)
    (h : ∀ g cap w', OwnR w' base (.slice (some ⟨g, 0, none⟩) (n + 1) cap) (n + 1) (rs ++ [(a, c, l)]) → Below base w0 w' → wpList Try.prog ops Q rest (ac.put o.dst (.slice (some ⟨g, 0, none⟩) (n + 1) cap)) w') :
    wpList Try.prog ops Q (o :: rest) ac (w0.alloc (.cells #[.slice a z c] 26)) := by
  subst hz
  obtain ⟨i0, hi0, hz0, hz1, hz2⟩ := info_parts info_ints
  refine wpList_append_lies _ hgd s x _ ho base 26 i0 (.slice none 0 0) 1 24 Try.underlying23 hi0 hz0 hz1 hz2 rfl (by decide) v n (rs.map Rw.val) hs (World.ownsRow.alloc (show World.ownsRow _ _ _ _ _ _ _ from hown.1) _) ⟨w0.heap.size, 0, none⟩ 1 1 [.slice a l.length c] hx rfl (World.news_of_block (heap_alloc_new _ _)) (fun u hu => by simp at hu; subst hu; rfl) (by decide) (by unfold maxLen; omega) (by omega) (Nat.le_trans hb (by simp)) _ rfl ?_
  intro g cap w' hown' hg hat hlt
  refine h g cap w' (OwnR.more (c0 := c) hown hl hm hlo rfl hown' hg rfl) ?_
  exact ((Below.refl _ _).alloc hb _).trans ((Below.refl _ _).grown hg (Nat.le_trans hb (by simp)) (fun j hj => (World.ownsRow.lt hown.1 j hj).1))

theorem OwnR.lo {w : World} {lo n : Nat} {v : Value} {rs : List Rw} (h : OwnR w lo v n rs) : ∀ r ∈ rs, ∀ j, (Rw.val r).ownBlock = some j → j < w.heap.size := fun r hr j hj => (World.ownsRow.lt (show World.ownsRow _ _ _ _ _ _ _ from h.2.1 r hr) j hj).2

def RowsDrawn (B p : Nat) (w : World) (e : Ending) (w' : World) : Prop := (∃ (v : Value) (n W : Nat) (rs : List Rw), e = .returned v ∧ OwnR w' w.heap.size v n rs ∧ n ≤ 4 ∧ W ≤ 6 ∧ ∀ r ∈ rs, r.2.2.length = W) ∧ (∃ q, q ≤ p + 300 ∧ RdAt w' B q) ∧ Only B w w'

set_option maxHeartbeats 4000000 in
set_option maxRecDepth 20000 in
theorem l14Rows_any (B p : Nat) (w : World) (hr : RdAt w B p) (hp : p ≤ 500) :
    Calls Try.prog 21 #[.pointer (some ⟨B, 0, none⟩)] w (RowsDrawn B p w) := by
  obtain ⟨i0, hi0, hz0, hz1, hz2⟩ := info_parts info_ints
  have hlt0 := hr.lt
  have HE : Hid (OwnR _ _ _ 0 []) := ownR_none w
  have HR0 : Hid (RdAt (w.alloc (.cells #[] 26)) B p) := hr.alloc _
  have HO0 : Hid (Only B w (w.alloc (.cells #[] 26))) := (Only.refl B w).alloc hlt0 _
  clear hr
  go_enter Try.func21, Try.ntmps21
  go_wp2_with fail
  refine (pick_named B p _ _ HR0.out (by omega) (by omega) (by omega)).mono ?_
  rintro e w2 ⟨W, rfl, hW, hR2, hO2, hs2⟩
  have HD2 : Hid (OwnR w2 w.heap.size _ 0 []) := HE.out.only hO2 hlt0
  have HR2 : Hid (RdAt w2 B (p + 1)) := hR2
  have HO2 : Hid (Only B w w2) := HO0.out.trans hO2
  have hW6 : W ≤ 6 := by omega
  clear HE HR0 HO0 hO2 hs2 hR2 hW
  go_wp2_with fail
  refine (pick_named B (p + 1) _ _ HR2.out (by omega) (by omega) (by omega)).mono ?_
  rintro e w3 ⟨k0, rfl, hk0, hR3, hO3, hs3⟩
  have HD3 : Hid (OwnR w3 w.heap.size _ 0 []) := HD2.out.only hO3 hlt0
  have HR3 : Hid (RdAt w3 B (p + 1 + 1)) := hR3
  have HO3 : Hid (Only B w w3) := HO2.out.trans hO3
  have hk4 : k0 ≤ 4 := by omega
  clear HD2 HR2 HO2 hO3 hs3 hR3 hk0
  go_wp2_with fail
  go_loopw [3, 5] (fun v i wr => ∃ (k q n : Nat) (rs : List Rw), k ≤ 4 ∧ i = .int .i64 k ∧ n + k ≤ 4 ∧ q + 50 * k ≤ p + 250 ∧ Hid (RdAt wr B q ∧ OwnR wr w.heap.size v n rs ∧ Only B w wr ∧ ∀ r ∈ rs, r.2.2.length = W)) (fun _ i _ => (intOf i).toNat)
  case atStart => exact ⟨k0, p + 1 + 1, 0, [], hk4, rfl, by omega, by omega, HR3.out, HD3.out, HO3.out, fun _ h => by simp at h⟩
  case round =>
    obtain ⟨k, q, n, rs, hk, rfl, hnk, hqk, HA⟩ := hrel
    clear HR3 HD3 HO3
    obtain ⟨a3, c3, e3, hnc⟩ := HA.out.2.1.shape
    subst e3
    by_cases hk0 : 0 < k
    · have hki : (0 : Int) < (k : Int) := by omega
      have hltr : B < wr.heap.size := HA.out.1.lt
      have HN : Hid (Calls Try.prog 40 #[.pointer (some ⟨B, 0, none⟩), .int .i64 5] wr fun e w' => (∃ (v : Value) (n : Nat) (l : List Int), e = .returned v ∧ OwnI w' wr.heap.size v n l ∧ n ≤ 300) ∧ (∃ q', q' ≤ q + 40 ∧ RdAt w' B q') ∧ Only B wr w') := l14Nums_any B q 5 wr HA.out.1 (by omega) (by omega) (by omega)
      go_wp2_with fail
      refine HN.out.mono ?_
      rintro e w4 ⟨⟨v4, n4, l4, rfl, hD4, hn4⟩, ⟨q4, hq4, hR4⟩, hO4⟩
      have HO4 : Hid (Only B wr w4) := hO4
      have HR4 : Hid (RdAt w4 B q4) := hR4
      have HD4 : Hid (OwnI w4 wr.heap.size v4 n4 l4) := hD4
      clear HN hD4 hR4 hO4
      generalize hgw : wr = ow at *
      clear hgw
      go_wp2_with fail
      go_loopw [6] (fun v wr => ∃ (q2 n2 : Nat) (l2 : List Int), n2 ≤ 300 + W ∧ q2 + (W - n2) ≤ q4 + W ∧ Hid (RdAt wr B q2 ∧ OwnI wr ow.heap.size v n2 l2 ∧ Only B ow wr) ∧ (∃ a c, v = .slice a n2 c ∧ n2 ≤ c)) (fun v _ => W - (match v with | .slice _ n _ => n | _ => 0))
      case atStart =>
        obtain ⟨a5, c5, e5, _⟩ := HD4.out.owns
        exact ⟨q4, n4, l4, by omega, by omega, ⟨HR4.out, HD4.out, HO4.out⟩, ⟨a5, c5, e5, by subst e5; exact HD4.out.cap'⟩⟩
      case round =>
        obtain ⟨q2, n2, l2, hn2, hq2, HC, ⟨a5, c5, e5, hcc5⟩⟩ := hrel
        clear HD4 HR4 HO4
        subst e5
        have hsz : ow.heap.size ≤ wr.heap.size := HC.out.2.2.below.size
        by_cases hlt : n2 < W
        · have hni : (n2 : Int) < (W : Int) := by omega
          go_wp2_with fail
          refine (pick_named B q2 _ _ HC.out.1 (by omega) (by omega) (by omega)).mono ?_
          rintro e w5 ⟨x, rfl, hx, hR5, hO5, hs5⟩
          have HC5 : Hid (RdAt w5 B (q2 + 1) ∧ OwnI w5 ow.heap.size (.slice a5 n2 c5) n2 l2 ∧ Only B ow w5) := ⟨hR5, HC.out.2.1.only hO5 hltr, HC.out.2.2.trans hO5⟩
          have hsz5 : ow.heap.size ≤ w5.heap.size := HC5.out.2.2.below.size
          clear HC hR5 hO5 hs5 hsz
          go_wp2_with (at_builtin; refine wpList_app1 w5 (by rfl) _ _ (by rfl) ow.heap.size _ n2 l2 (x : Int) (by rfl) HC5.out.2.1 (by rfl) (by omega) hsz5 ?_)
          intro g cap w6 hown6 hgr
          have hb6 : Below ow.heap.size w5 w6 := hgr.below (Below.refl _ _) (Nat.le_refl _) hsz5
          have H6 : Hid (RdAt w6 B (q2 + 1) ∧ OwnI w6 ow.heap.size (.slice (some ⟨g, 0, none⟩) (n2 + 1) cap) (n2 + 1) (l2 ++ [(x : Int)]) ∧ Only B ow w6) := ⟨HC5.out.1.kept (hb6.mono hltr), hown6, HC5.out.2.2.grown hltr hb6⟩
          have hcp := hown6.cap'
          clear hown6 hgr hb6 HC5 hsz5
          go_wp2_with fail
          go_roundw
          case rel => exact ⟨q2 + 1, n2 + 1, _, by omega, by omega, H6, ⟨_, _, rfl, hcp⟩⟩
          case measure => simp; omega
        · have hni : ¬ (n2 : Int) < (W : Int) := by omega
          have hWc : W ≤ c5 := by omega
          have hWl : (l2.take W).length = W := by rw [List.length_take, HC.out.2.1.len]; omega
          have HRW : Hid (OwnI wr ow.heap.size (.slice a5 W c5) W (l2.take W)) := HC.out.2.1.cut (by omega)
          have HRR : Hid (OwnR wr w.heap.size (.slice a3 n c3) n rs) := HA.out.2.1.only HC.out.2.2 hlt0
          have HLO : Hid (∀ r ∈ rs, ∀ j, (Rw.val r).ownBlock = some j → j < ow.heap.size) := HA.out.2.1.lo
          have hww : w.heap.size ≤ ow.heap.size := HA.out.2.2.1.below.size
          have HWL : Hid ((l2.take W).length = W) := hWl
          clear hWl
          go_wp2_with (at_builtin; refine wpList_appR wr (by rfl) _ _ (by rfl) w.heap.size _ n ow.heap.size c5 a5 (l2.take W) rs (by rfl) W HWL.out HRR.out HRW.out HLO.out hww (by rfl) (by omega) (Nat.le_trans hww hsz) ?_)
          intro g cap w6 hown6 hb6
          have H6 : Hid (RdAt w6 B q2 ∧ OwnR w6 w.heap.size (.slice (some ⟨g, 0, none⟩) (n + 1) cap) (n + 1) (rs ++ [(a5, c5, l2.take W)]) ∧ Only B w w6 ∧ ∀ r ∈ rs ++ [(a5, c5, l2.take W)], r.2.2.length = W) :=
            ⟨HC.out.1.kept (hb6.mono hlt0), hown6, (HA.out.2.2.1.trans HC.out.2.2).grown hlt0 hb6, fun r hr => by
              rcases List.mem_append.1 hr with hr | hr
              · exact HA.out.2.2.2 r hr
              · rw [List.mem_singleton] at hr; subst hr; exact HWL.out⟩
          clear hown6 hb6 HC HA HRW HRR HLO HWL hww
          go_wp2_with fail
          go_roundw
          case rel => exact ⟨k - 1, q2, n + 1, _, by omega, by go_num, by omega, by omega, H6⟩
          case measure => simp [intOf]; omega
    · have hki : ¬ (0 : Int) < (k : Int) := by omega
      go_wp2_with fail
      go_ret
      exact ⟨⟨_, n, W, rs, rfl, HA.out.2.1, by omega, hW6, HA.out.2.2.2⟩, ⟨q, by omega, HA.out.1⟩, HA.out.2.2.1⟩
end Go.Proofs.Ytlpfedhehfbfeaa

/- A text as bytes, and back. -/
namespace Go.Proofs.Ytlpfedhehfbfeaa
open Go.RowKit

/-- the bytes of a text, laid anew -/
theorem conv_bytes (s : ByteArray) (w : World) : ∃ (cap : Nat) (w2 : World), Sem.run Try.prog (convert 9 22 (.string s)) w = .ok (.slice (some ⟨w.heap.size, 0, none⟩) s.size cap) w2 ∧
    (∀ i (h : i < s.size), w2.cell? ⟨w.heap.size, i, none⟩ = some (.int .u8 ((s[i]).toNat : Int)) ∧ w2.frozen? ⟨w.heap.size, i, none⟩ = false) ∧ Below w.heap.size w w2 ∧ w2.heap.size = w.heap.size + 1 := by
  refine ⟨_, _, run_bytes_of_string w 9 22 5 s Try.underlying9 Try.underlying22 Try.underlying5, ?_, ?_, ?_⟩
  · intro i h
    generalize grownCap w s.size 0 5 = cap
    have hg : (w.drew.alloc (.cells (bytesRow s cap) 5 ((bytesRow s cap).size, (bytesRow s cap).size + 1))).heap[w.heap.size]? = some (.cells (bytesRow s cap) 5 ((bytesRow s cap).size, (bytesRow s cap).size + 1)) := heap_alloc_new w.drew _
    refine ⟨?_, ?_⟩
    · rw [cell_of_row _ _ _ _ _ _ hg, bytesRow_at s cap i h]; rfl
    · unfold World.frozen?
      simp only [hg]
      have hsz : s.size ≤ (bytesRow s cap).size := by unfold bytesRow; simp
      simp
      omega
  · exact (Below.refl _ _).drew.alloc (Nat.le_refl _) _
  · simp

theorem text_back (W : World) (L cap n : Nat) (l : List UInt8) (hn : l.length = n) (hc : ∀ j (hj : j < l.length), W.cell? ⟨L, j, none⟩ = some (.int .u8 ((l[j]).toNat : Int))) :
    Sem.run Try.prog (convert 22 9 (.slice (some ⟨L, 0, none⟩) n cap)) W = .ok (.string ⟨l.toArray⟩) W := by
  subst hn
  refine run_convert_bytes_back W 22 9 5 ⟨L, 0, none⟩ cap l Try.underlying22 Try.underlying5 Try.underlying9 ?_
  intro j hj
  rw [show (⟨L, 0, none⟩ : Addr).add j = ⟨L, j, none⟩ from by simp [Addr.add]; try omega]
  exact hc j hj
end Go.Proofs.Ytlpfedhehfbfeaa

/- A text of which a byte is another one. -/
namespace Go.Proofs.Ytlpfedhehfbfeaa
open Go.RowKit

theorem size_of_empty {s : ByteArray} (h : s.toList.isEmpty = true) : s.size = 0 := by
  rw [ByteArray.toList_eq, List.isEmpty_iff] at h
  show s.data.size = 0
  rw [← Array.length_toList, h]; rfl

theorem bent_cells (s : ByteArray) (W : World) (L K v : Nat) (hK : K < s.size) (hv : v < 256) (hc : ∀ i (h : i < s.size), W.cell? ⟨L, i, none⟩ = some (.int .u8 ((s[i]).toNat : Int))) :
    ∃ l : List UInt8, l.length = s.size ∧ ∀ j (hj : j < l.length), (W.setCell ⟨L, K, none⟩ (.int .u8 (v : Int))).cell? ⟨L, j, none⟩ = some (.int .u8 ((l[j]).toNat : Int)) := by
  have hl : (s.data.toList.set K (UInt8.ofNat v)).length = s.size := by rw [List.length_set, Array.length_toList]; rfl
  refine ⟨s.data.toList.set K (UInt8.ofNat v), hl, fun j hj => ?_⟩
  by_cases e : K = j
  · subst e
    rw [World.cell?_setCell_same _ _ _ (hc K hK), List.getElem_set_self]
    simp
    omega
  · rw [World.cell?_setCell_other _ _ _ _ (fun h => e (by have := congrArg Addr.off h; simpa using this)), hc j (by rw [← hl]; exact hj), List.getElem_set_ne e]
    rfl

set_option maxHeartbeats 2000000 in
set_option maxRecDepth 20000 in
theorem l14Bend_any (B p : Nat) (s : ByteArray) (w : World) (hr : RdAt w B p) (hp : p ≤ 100000) (hs : s.size ≤ 100000) :
    Calls Try.prog 33 #[.pointer (some ⟨B, 0, none⟩), .string s] w fun e w' => (∃ t : ByteArray, e = .returned (.string t) ∧ t.size = s.size) ∧ (∃ q, q ≤ p + 2 ∧ RdAt w' B q) ∧ Only B w w' := by
  have hlt0 := hr.lt
  have HR0 : Hid (RdAt w B p) := hr
  clear hr
  by_cases hz : s.size = 0
  · have he : s = ByteArray.empty := by
      have : s.data.size = 0 := hz
      cases s with
      | mk d => simp at this; subst this; rfl
    subst he
    go_enter Try.func33, Try.ntmps33
    go_wp2_with fail
    go_ret
    exact ⟨⟨_, rfl, rfl⟩, ⟨p, by omega, HR0.out⟩, Only.refl _ _⟩
  · obtain ⟨cap, w2, hcv, hcl, belc, hsz2⟩ := conv_bytes s w
    have HCV : Hid (∀ i (h : i < s.size), w2.cell? ⟨w.heap.size, i, none⟩ = some (.int .u8 ((s[i]).toNat : Int)) ∧ w2.frozen? ⟨w.heap.size, i, none⟩ = false) := hcl
    have HR2 : Hid (RdAt w2 B p) := HR0.out.kept (belc.mono hlt0)
    have HO2 : Hid (Only B w w2) := Only.of_below belc hlt0
    have hse : s.toList.isEmpty = false := by
      rcases h : s.toList.isEmpty with _ | _
      · rfl
      · exact absurd (size_of_empty h) hz
    have hG : w.heap.size < w2.heap.size := by omega
    have hGB : w.heap.size ≠ B := by omega
    have hs1 : (1 : Int) ≤ (s.size : Int) := by omega
    clear hcl belc hsz2 HR0
    go_enter Try.func33, Try.ntmps33
    go_wp2_with fail
    clear hcv
    refine (pick_named B p _ _ HR2.out (by omega) (by omega) (by omega)).mono ?_
    rintro e w3 ⟨K, rfl, hK, hR3, hO3, -⟩
    have hKs : K < s.size := by omega
    have HC3 : Hid (∀ i (h : i < s.size), w3.cell? ⟨w.heap.size, i, none⟩ = some (.int .u8 ((s[i]).toNat : Int)) ∧ w3.frozen? ⟨w.heap.size, i, none⟩ = false) := fun i h => ⟨(hO3.cell w.heap.size i hG hGB).trans (HCV.out i h).1, (World.frozen?_of_block (w := w2) (a := ⟨w.heap.size, i, none⟩) (hO3.rest w.heap.size hG hGB)).trans (HCV.out i h).2⟩
    have HR3 : Hid (RdAt w3 B (p + 1)) := hR3
    have HO3 : Hid (Only B w w3) := HO2.out.trans hO3
    have hG3 : w.heap.size < w3.heap.size := Nat.lt_of_lt_of_le hG hO3.below.size
    clear hR3 hO3 HR2 HO2 HCV
    obtain ⟨x, hx⟩ : ∃ x : Nat, x = (s[K]'hKs).toNat := ⟨_, rfl⟩
    have hxb : x < 256 := by rw [hx]; exact UInt8.toNat_lt _
    obtain ⟨ck, fk⟩ := HC3.out K hKs
    rw [← hx] at ck
    have HV : Hid (∀ y : Nat, y < 255 → bits .xor .u8 (x : Int) (IntKind.u8.wrap (IntKind.i64.wrap (1 + (y : Int)))) = ((x ^^^ (1 + y) : Nat) : Int) ∧ x ^^^ (1 + y) < 256) := fun y hy => by
      have e1 : IntKind.i64.wrap (1 + (y : Int)) = ((1 + y : Nat) : Int) := by
        rw [← wrap_i64_nat (1 + y) (by omega)]; congr 1
      refine ⟨?_, Nat.xor_lt_two_pow (n := 8) (by omega) (by omega)⟩
      rw [e1, IntKind.wrap_u8', show ((1 + y : Nat) : Int) % 256 = ((1 + y : Nat) : Int) by omega, u8_xor_nat _ _ hxb (by omega)]
    have HX : Hid (x = (s[K]'hKs).toNat) := hx
    clear hx
    have HRd : Hid (RdAt w3.drew B (p + 1)) := HR3.out.drew
    have hKi : (K : Int) < (s.size : Int) := by omega
    go_wp2_with fail
    go_region_with (go_at_call 22; refine (pick_named B (p + 1) _ _ HRd.out (by omega) (by omega) (by omega)).mono ?_; rintro e w4 ⟨y, rfl, hy, hR4, hO4, -⟩; have HR4 : Hid (RdAt w4 B (p + 2)) := hR4; have HO4 : Hid (Only B w3.drew w4) := hO4; have ck4 : w4.cell? ⟨w.heap.size, K, none⟩ = some (.int .u8 (x : Int)) := (hO4.cell w.heap.size K hG3 hGB).trans ck; have fk4 : w4.frozen? ⟨w.heap.size, K, none⟩ = false := (World.frozen?_of_block (w := w3.drew) (a := ⟨w.heap.size, K, none⟩) (hO4.rest w.heap.size hG3 hGB)).trans fk; clear hR4 hO4)
    all_goals
      have hyn : y < 255 := by omega
      obtain ⟨hv1, hv2⟩ := HV.out y hyn
      rw [hv1]
      have hall : ∀ i (h : i < s.size), w4.cell? ⟨w.heap.size, i, none⟩ = some (.int .u8 ((s[i]).toNat : Int)) := fun i h => (HO4.out.cell w.heap.size i hG3 hGB).trans (HC3.out i h).1
      obtain ⟨l, hl, hlc⟩ := bent_cells s w4 w.heap.size K _ hKs hv2 hall
      have htb := text_back _ w.heap.size cap s.size l hl hlc
      have HF : Hid (RdAt (w4.setCell ⟨w.heap.size, K, none⟩ (.int .u8 ((x ^^^ (1 + y) : Nat) : Int))) B (p + 2) ∧ Only B w (w4.setCell ⟨w.heap.size, K, none⟩ (.int .u8 ((x ^^^ (1 + y) : Nat) : Int)))) :=
        ⟨HR4.out.kept ((Below.refl _ _).setCell (by show B + 1 ≤ w.heap.size; omega) _), ((HO3.out.drewN 1).trans HO4.out).set (Nat.le_refl _) hlt0 K _⟩
      have HL : Hid ((ByteArray.mk l.toArray).size = s.size) := by show l.toArray.size = s.size; rw [List.size_toArray]; exact hl
      clear hall hlc hl HR4 HO4 ck4 fk4 ck fk HRd HR3 HO3 HC3 HX HV hv1 hv2
      go_wp2_with fail
      go_ret
      exact ⟨⟨_, rfl, HL.out⟩, ⟨p + 2, by omega, HF.out.1⟩, HF.out.2⟩
end Go.Proofs.Ytlpfedhehfbfeaa

/- A text of rows, and how wide and high, drawn of a code. -/
namespace Go.Proofs.Ytlpfedhehfbfeaa
open Go.RowKit

/-- what is drawn -/
def RleDrawn (w : World) (e : Ending) (w' : World) : Prop :=
  (∃ (t : ByteArray) (wd hi : Int), e = .returned (.tuple #[.string t, .int .i64 wd, .int .i64 hi]) ∧ t.size ≤ 2000 ∧ -1 ≤ wd ∧ wd ≤ 10 ∧ -1 ≤ hi ∧ hi ≤ 10) ∧ Below w.heap.size w w'
theorem rleDrawn_mk {w w' : World} {e : Ending} (t : ByteArray) (wd hi : Int) (h1 : e = .returned (.tuple #[.string t, .int .i64 wd, .int .i64 hi])) (h2 : t.size ≤ 2000) (h3 : -1 ≤ wd) (h4 : wd ≤ 10) (h5 : -1 ≤ hi) (h6 : hi ≤ 10) (h7 : Below w.heap.size w w') : RleDrawn w e w' := ⟨⟨t, wd, hi, h1, h2, h3, h4, h5, h6⟩, h7⟩

def b14 : List UInt8 := [0, 3, 1, 2, 3, 0, 0, 2, 1, 1, 2, 9, 0, 1]
theorem conv14 (X : World) (H : Nat) (h : X.heap[H]? = some (.cells #[.int .u8 0, .int .u8 3, .int .u8 1, .int .u8 2, .int .u8 3, .int .u8 0, .int .u8 0, .int .u8 2, .int .u8 1, .int .u8 1, .int .u8 2, .int .u8 9, .int .u8 0, .int .u8 1] 5 (0, 0))) :
    Sem.run Try.prog (convert 22 9 (.slice (some ⟨H, 0, none⟩) 14 14)) X = .ok (.string ⟨b14.toArray⟩) X :=
  OwnT.text (B := 0) (n := 14) ⟨rfl, .inr ⟨H, 14, _, rfl, Nat.zero_le _, h, Nat.le_refl _, by unfold maxLen; omega, rfl, rfl⟩⟩
theorem lt_of_at14 {w : World} {k : Nat} {o : Obj} (h : w.heap[k]? = some o) : k < w.heap.size := (Array.getElem?_eq_some_iff.1 h).1
theorem all_small {rs : List Rw} {W : Nat} (h : ∀ r ∈ rs, r.2.2.length = W) (hW : W ≤ 6) (hn : rs.length ≤ 4) : (ByteArray.mk (Re.all (rs.map (fun r : Rw => r.2.2))).toArray).size ≤ 1000 := by
  show (Re.all (rs.map (fun r : Rw => r.2.2))).toArray.size ≤ 1000
  rw [List.size_toArray]
  unfold Re.all
  split
  · have := Re.part_len (rs.map (fun r : Rw => r.2.2)) (fun l hl => by
      obtain ⟨r, hr, rfl⟩ := List.mem_map.1 hl
      have := h r hr; omega)
    rw [List.length_map] at this
    rw [List.length_append]
    simp; omega
  · simp

set_option maxHeartbeats 4000000 in
set_option maxRecDepth 20000 in
theorem drawRleGet_any (a : Option Addr) (len cap : Nat) (w : World) (h : Code8 w a len cap) :
    Calls Try.prog 12 #[.slice a len cap] w (RleDrawn w) := by
  have HOP : Hid (Calls Try.prog 20 #[.slice a len cap] w fun e w' => e = .returned (.pointer (some ⟨w.heap.size, 0, none⟩)) ∧ RdAt w' w.heap.size 0 ∧ Below w.heap.size w w') := open_any a len cap w h
  clear h
  go_enter Try.func12, Try.ntmps12
  go_wp2_with fail
  refine HOP.out.mono ?_
  rintro e w1 ⟨rfl, hR1, b1⟩
  clear HOP
  have HR1 : Hid (RdAt w1 w.heap.size 0) := hR1
  have HB1 : Hid (Below w.heap.size w w1) := b1
  clear hR1 b1
  generalize hBB : w.heap.size = B at *
  go_wp2_with fail
  refine (l14Rows_any B 0 _ HR1.out (by omega)).mono ?_
  rintro e w2 ⟨⟨v, n, W, rs, rfl, hD, hn, hW, hrs⟩, ⟨q, hq, hR2⟩, hO2⟩
  obtain ⟨a2, c2, e2, hnc⟩ := hD.shape
  subst e2
  have HR2 : Hid (RdAt w2 B q) := hR2
  have HB2 : Hid (Below B w w2) := HB1.out.trans hO2.below
  have HD2 : Hid (Rows2 w2 a2 (rs.map (fun r : Rw => r.2.2))) := hD.rows
  have HL : Hid ((rs.map (fun r : Rw => r.2.2)).length = n) := by show _ = _; rw [List.length_map]; exact hD.len
  have HS : Hid (Calls Try.prog 9 #[.slice a2 n c2] w2 fun e w' => e = .returned (.string ⟨(Re.all (rs.map (fun r : Rw => r.2.2))).toArray⟩) ∧ Below w2.heap.size w2 w') := spec_rlePut a2 c2 n _ w2 HD2.out HL.out (by omega) (fun l hl => by
      obtain ⟨r, hr, rfl⟩ := List.mem_map.1 hl
      have := hrs r hr; omega)
  have hts : (ByteArray.mk (Re.all (rs.map (fun r : Rw => r.2.2))).toArray).size ≤ 1000 := all_small hrs hW (by rw [hD.len]; omega)
  have HWD : Hid (∀ (k : Nat) (h : k < (rs.map (fun r : Rw => r.2.2)).length), (rs.map (fun r : Rw => r.2.2))[k].length = W) := fun k h => by
    rw [List.getElem_map]; exact hrs _ (List.getElem_mem _)
  generalize (ByteArray.mk (Re.all (rs.map (fun r : Rw => r.2.2))).toArray) = T at *
  generalize rs.map (fun r : Rw => r.2.2) = ls at *
  have hTi : (T.size : Int) ≤ 1000 := by omega
  clear hD hR2 hO2 HR1 HB1 hrs
  go_wp2_with fail
  refine HS.out.mono ?_
  rintro e w3 ⟨rfl, b3⟩
  have HR3 : Hid (RdAt w3 B q) := HR2.out.kept (b3.mono HR2.out.lt)
  have HB3 : Hid (Below B w w3) := HB2.out.trans (b3.mono (Nat.le_of_lt HR2.out.lt))
  have HD3 : Hid (Rows2 w3 a2 ls) := HD2.out.kept b3
  clear b3 HR2 HB2 HS HD2
  obtain ⟨wd, hwd⟩ : ∃ wd : Nat, wd = if 0 < n then W else 0 := ⟨_, rfl⟩
  have hwd6 : wd ≤ 6 := by rw [hwd]; split <;> omega
  go_upto_if 17 with fail
  go_cut [8, 17] from 18 (fun x _ wc => x = .int .i64 (wd : Int) ∧ wc = w3)
  case first =>
    by_cases hn0 : 0 < n
    · have hni : (0 : Int) < (n : Int) := by omega
      obtain ⟨R, off, a', cap', rfl, hcell, -⟩ := HD3.out.at (k := 0) (by rw [HL.out]; exact hn0)
      rw [HWD.out 0 (by rw [HL.out]; exact hn0), Nat.add_zero] at hcell
      rw [if_pos hn0] at hwd
      subst hwd
      go_wp2_with fail
      go_meet
      case rel => exact ⟨rfl, rfl⟩
    · have hni : ¬ (0 : Int) < (n : Int) := by omega
      rw [if_neg hn0] at hwd
      subst hwd
      go_wp2_with fail
      go_meet
      case rel => exact ⟨rfl, rfl⟩
  case rest =>
    obtain ⟨rfl, hwc⟩ := hcut
    subst hwc
    clear HD3 hwd HWD HL
    go_wp2_with fail
    refine (pick_named B q _ _ HR3.out (by omega) (by omega) (by omega)).mono ?_
    rintro e w4 ⟨x, rfl, hx, hR4, hO4, -⟩
    have HR4 : Hid (RdAt w4 B (q + 1)) := hR4
    have HB4 : Hid (Below B w w4) := HB3.out.trans hO4.below
    clear hR4 hO4 HR3 HB3
    have hBs : Below w.heap.size w w4 := by rw [hBB]; exact HB4.out
    by_cases hx0 : x = 0
    · subst hx0
      clear hBs
      go_wp2_with fail
      refine (l14Bend_any B (q + 1) T w4 HR4.out (by omega) (by omega)).mono ?_
      rintro e w5 ⟨⟨t, rfl, ht⟩, -, hO5⟩
      have htb : t.size ≤ 2000 := by omega
      have HBt : Hid (Below w.heap.size w w5) := by rw [hBB]; exact HB4.out.trans hO5.below
      clear hO5 HR4 HB4 ht
      go_wp2_with fail
      exact bodyPost_ret (v := .tuple #[.string t, .int .i64 (wd : Int), .int .i64 (n : Int)]) (by simp [results, Try.results12, go_sem]) rfl (rleDrawn_mk _ _ _ rfl htb (by omega) (by omega) (by omega) (by omega) HBt.out)
    by_cases hx1 : x = 1
    · subst hx1
      clear hBs
      go_wp2_with fail
      refine (pick_named B (q + 1) _ _ HR4.out (by omega) (by omega) (by omega)).mono ?_
      rintro e w5 ⟨y, rfl, hy, hR5, hO5, -⟩
      have HR5 : Hid (RdAt w5 B (q + 1 + 1)) := hR5
      have HB5 : Hid (Below B w w5) := HB4.out.trans hO5.below
      clear hR5 hO5 HR4 HB4
      go_wp2_with fail
      refine (pick_named B (q + 1 + 1) _ _ HR5.out (by omega) (by omega) (by omega)).mono ?_
      rintro e w6 ⟨z, rfl, hz, hR6, hO6, -⟩
      have HBt : Hid (Below w.heap.size w w6) := by rw [hBB]; exact HB5.out.trans hO6.below
      clear hO6 hR6 HB5 HR5
      go_wp2_with fail
      exact bodyPost_ret (v := .tuple #[.string T, .int .i64 ((wd : Int) + (y : Int) - 1), .int .i64 ((n : Int) + (z : Int) - 1)]) (by simp [results, Try.results12, go_sem]) rfl (rleDrawn_mk _ _ _ rfl (by omega) (by omega) (by omega) (by omega) (by omega) HBt.out)
    by_cases hx2 : x = 2
    · subst hx2
      clear hBs
      have HRd : Hid (RdAt w4.drew B (q + 1)) := HR4.out.drew
      have hWB : w4.heap.size ≠ B := by have := HR4.out.lt; omega
      have hWB' : B ≤ w4.heap.size := Nat.le_of_lt HR4.out.lt
      have hb14 : (ByteArray.mk b14.toArray).size ≤ 2000 := by decide
      have HCA := fun X : World => conv14 (X.alloc (.cells #[.int .u8 0, .int .u8 3, .int .u8 1, .int .u8 2, .int .u8 3, .int .u8 0, .int .u8 0, .int .u8 2, .int .u8 1, .int .u8 1, .int .u8 2, .int .u8 9, .int .u8 0, .int .u8 1] 5)) X.heap.size (heap_alloc_new _ _)
      have HRA : Hid (RdAt (w4.alloc (.cells #[.int .u8 0, .int .u8 3, .int .u8 1, .int .u8 2, .int .u8 3, .int .u8 0, .int .u8 0, .int .u8 2, .int .u8 1, .int .u8 1, .int .u8 2, .int .u8 9, .int .u8 0, .int .u8 1] 5)).drew B (q + 1)) := (HR4.out.alloc _).drew
      have HCD := fun X : World => conv14 (X.alloc (.cells #[.int .u8 0, .int .u8 3, .int .u8 1, .int .u8 2, .int .u8 3, .int .u8 0, .int .u8 0, .int .u8 2, .int .u8 1, .int .u8 1, .int .u8 2, .int .u8 9, .int .u8 0, .int .u8 1] 5)).drew X.heap.size (heap_alloc_new X _)
      go_wp2_with fail
      go_region_with (first
        | (go_at_call 22; refine (pick_named B (q + 2) _ _ hR5.out (by omega) (by omega) (by omega)).mono ?_; rintro e w6 ⟨z, rfl, hz, hR6, hO6, -⟩; have HB6 : Hid (Below B w w6) := HB5.out.trans hO6.below; first | (have c6 := conv14 w6 w4.heap.size ((hO6.rest _ (lt_of_at14 hb5) (by omega)).trans hb5)) | skip)
        | (go_at_call 22; refine (pick_named B (q + 2) _ _ (hR5.out.alloc _) (by omega) (by omega) (by omega)).mono ?_; rintro e w6 ⟨z, rfl, hz, hR6, hO6, -⟩; have HB6 : Hid (Below B w w6) := (HB5.out.alloc (Nat.le_of_lt hR5.out.lt) _).trans hO6.below; have c6 := conv14 w6 w5.heap.size ((hO6.rest _ (by simp) (by have := hR5.out.lt; omega)).trans (heap_alloc_new _ _)))
        | (go_at_call 22; refine (pick_named B (q + 1) _ _ HRA.out (by omega) (by omega) (by omega)).mono ?_; rintro e w5 ⟨y, rfl, hy, hR5', hO5, -⟩; have hR5 : Hid (RdAt w5 B (q + 2)) := hR5'; have HB5 : Hid (Below B w w5) := ((HB4.out.alloc hWB' _).drew).trans hO5.below; have hb5 := (hO5.rest w4.heap.size (show w4.heap.size < (w4.alloc _).heap.size by simp) hWB).trans (heap_alloc_new w4 _); have c5 := conv14 w5 w4.heap.size hb5; clear hR5' hO5)
        | (go_at_call 22; refine (pick_named B (q + 1) _ _ HRd.out (by omega) (by omega) (by omega)).mono ?_; rintro e w5 ⟨y, rfl, hy, hR5', hO5, -⟩; have hR5 : Hid (RdAt w5 B (q + 2)) := hR5'; have HB5 : Hid (Below B w w5) := (HB4.out.drew).trans hO5.below; clear hR5' hO5))
      all_goals
        have hsz6 := hR6.lt
        have f5 : IntKind.i64.wrap (5 + (y : Int)) = 5 + (y : Int) := by simp [IntKind.wrap, IntKind.bits, IntKind.signed]; omega
        have f1 : IntKind.i64.wrap (1 + (z : Int)) = 1 + (z : Int) := by simp [IntKind.wrap, IntKind.bits, IntKind.signed]; omega
        have hyi : (y : Int) < 2 := hy
        have hzi : (z : Int) < 3 := hz
        clear hR6 hR5 HRA HRd HCA HCD HR4 HB4 HB5
        go_wp2_with fail
        refine bodyPost_ret (v := .tuple #[.string ⟨b14.toArray⟩, .int .i64 (5 + (y : Int)), .int .i64 (1 + (z : Int))]) (by simp [results, Try.results12, go_sem, f5, f1]) rfl (rleDrawn_mk _ _ _ rfl hb14 (by omega) (by omega) (by omega) (by omega) ?_)
        rw [hBB]
        first | exact HB6.out | exact HB6.out.alloc (Nat.le_of_lt hsz6) _
    have hxn : ¬ x = 2 := hx2
    by_cases hx3 : x = 3
    · subst hx3
      clear hBs
      obtain ⟨M, hM⟩ : ∃ M : Nat, M = T.size + 1 := ⟨_, rfl⟩
      have eM : (T.size : Int) + 1 = (M : Int) := by omega
      have hMb : (M : Int) ≤ 1001 := by omega
      clear hM
      go_wp2_with fail
      refine (pick_named B (q + 1) _ _ HR4.out (by omega) (by omega) (by omega)).mono ?_
      rintro e w5 ⟨y, rfl, hy, hR5, hO5, -⟩
      have HBt : Hid (Below w.heap.size w w5) := by rw [hBB]; exact HB4.out.trans hO5.below
      have hyT : y ≤ T.size := by omega
      have hyT2 : (y : Int) ≤ (T.size : Int) := by omega
      have HZ : Hid ((T.extract 0 y).size ≤ 2000) := by show _ ≤ _; rw [ByteArray.size_extract]; omega
      clear hR5 hO5 HR4 HB4 hy
      go_wp2_with fail
      exact bodyPost_ret (v := .tuple #[.string (T.extract 0 y), .int .i64 (wd : Int), .int .i64 (n : Int)]) (by simp [results, Try.results12, go_sem]) rfl (rleDrawn_mk _ _ _ rfl HZ.out (by omega) (by omega) (by omega) (by omega) HBt.out)
    · have e0 : decide ((x : Int) = 0) = false := by simp; omega
      have e1 : decide ((x : Int) = 1) = false := by simp; omega
      have e2 : decide ((x : Int) = 2) = false := by simp; omega
      have e3 : decide ((x : Int) = 3) = false := by simp; omega
      have HBt : Hid (Below w.heap.size w w4) := hBs
      clear hBs
      go_wp2_with fail
      exact bodyPost_ret (v := .tuple #[.string T, .int .i64 (wd : Int), .int .i64 (n : Int)]) (by simp [results, Try.results12, go_sem]) rfl (rleDrawn_mk _ _ _ rfl (by omega) (by omega) (by omega) (by omega) (by omega) HBt.out)
end Go.Proofs.Ytlpfedhehfbfeaa

/- RleGet of the program. -/
namespace Go.Proofs.Ytlpfedhehfbfeaa
open Go.RowKit Go.Shelf

/-- so many rows of W numbers, in memory of the call's own -/
def RowsAre (base : Nat) (w : World) (ao : Option Addr) (n W : Nat) (g : Rl.Grid) : Prop :=
  n = 0 ∨ ∃ (R : Nat) (G : List Nat), ao = some ⟨R, 0, none⟩ ∧ G.length = n ∧ base ≤ R ∧ R < w.heap.size ∧ Gd base w R G W g
/-- how RleGet ends -/
def RlAns (w : World) (s : ByteArray) (W H : Int) (e : Ending) (w' : World) : Prop :=
  Below w.heap.size w w' ∧ ((Rl.res s W H = none ∧ ∃ ao cap, e = .returned (.tuple #[.slice ao 0 cap, .bool false])) ∨ ∃ g, Rl.res s W H = some g ∧ ∃ ao cap, e = .returned (.tuple #[.slice ao H.toNat cap, .bool true]) ∧ RowsAre w.heap.size w' ao H.toNat W.toNat g)
theorem rlAns_no {w w' : World} {s : ByteArray} {W H : Int} {e : Ending} {ao : Option Addr} {cap : Nat} (h : Rl.res s W H = none) (h1 : e = .returned (.tuple #[.slice ao 0 cap, .bool false])) (h2 : Below w.heap.size w w') : RlAns w s W H e w' := ⟨h2, .inl ⟨h, ao, cap, h1⟩⟩

/-- the work was done -/
def RwYes (w : World) (W H : Nat) (s : ByteArray) (w' : World) : Prop :=
  (∃ g x y, Rl.get s W H 0 Rl.zero 0 0 = some g ∧ Sh w' (w.heap.size + 3) (.slice (some ⟨w.heap.size + 2, 0, none⟩) H H) x y ∧ Gd (w.heap.size + 2) w' (w.heap.size + 2) (rowsAt (w.heap.size + 2) H) W g) ∧ Boxed w' (w.heap.size + 4 + H) 53 (.pointer (some ⟨w.heap.size + 3, 0, none⟩)) ∧ Below w.heap.size w w' ∧ w.heap.size + 2 < w'.heap.size
/-- it broke off -/
def RwNo (w : World) (W H : Nat) (s : ByteArray) (c : Int) (w' : World) : Prop := c ≠ 0 ∧ Rl.get s W H 0 Rl.zero 0 0 = none ∧ Below w.heap.size w w'
theorem rl_up {w w' : World} {k : Nat} {T : TypeId} {v : Value} (h : Boxed w k T v) (b : Below w.heap.size w w') : Boxed w' k T v := (b.block k (rl_lt h)).trans h

set_option maxHeartbeats 4000000 in
set_option maxRecDepth 20000 in
theorem impl_rleGet (s : ByteArray) (wd hi : Int) (w : World) (hs : s.size ≤ 3000000) :
    Calls Try.prog 10 #[.string s, .int .i64 wd, .int .i64 hi] w (RlAns w s wd hi) := by
  by_cases hv : Rl.Valid s wd hi
  rotate_left
  · have HF : Hid (Rl.res s wd hi = none) := Rl.res_no hv
    unfold Rl.Valid at hv
    by_cases a1 : wd < 0
    · have d1 : decide (wd < 0) = true := decide_eq_true a1
      clear hv
      go_enter Try.func10, Try.ntmps10
      go_wp2_with fail
      exact bodyPost_ret (v := .tuple #[.slice none 0 0, .bool false]) (by simp [results, Try.results10, go_sem]) rfl (rlAns_no HF.out rfl (Below.refl _ _))
    have d1 : decide (wd < 0) = false := decide_eq_false a1
    by_cases a2 : wd > 100
    · have d2 : decide (wd > 100) = true := decide_eq_true a2
      clear hv
      go_enter Try.func10, Try.ntmps10
      go_wp2_with fail
      exact bodyPost_ret (v := .tuple #[.slice none 0 0, .bool false]) (by simp [results, Try.results10, go_sem]) rfl (rlAns_no HF.out rfl (Below.refl _ _))
    have d2 : decide (wd > 100) = false := decide_eq_false a2
    by_cases a3 : hi < 0
    · have d3 : decide (hi < 0) = true := decide_eq_true a3
      clear hv
      go_enter Try.func10, Try.ntmps10
      go_wp2_with fail
      exact bodyPost_ret (v := .tuple #[.slice none 0 0, .bool false]) (by simp [results, Try.results10, go_sem]) rfl (rlAns_no HF.out rfl (Below.refl _ _))
    have d3 : decide (hi < 0) = false := decide_eq_false a3
    by_cases a4 : hi > 100
    · have d4 : decide (hi > 100) = true := decide_eq_true a4
      clear hv
      go_enter Try.func10, Try.ntmps10
      go_wp2_with fail
      exact bodyPost_ret (v := .tuple #[.slice none 0 0, .bool false]) (by simp [results, Try.results10, go_sem]) rfl (rlAns_no HF.out rfl (Below.refl _ _))
    have d4 : decide (hi > 100) = false := decide_eq_false a4
    have d5 : decide ((s.size : Int) > 9000) = true := decide_eq_true (by omega)
    have a5 : (9000 : Int) < (s.size : Int) := by omega
    clear hv
    go_enter Try.func10, Try.ntmps10
    go_wp2_with fail
    exact bodyPost_ret (v := .tuple #[.slice none 0 0, .bool false]) (by simp [results, Try.results10, go_sem]) rfl (rlAns_no HF.out rfl (Below.refl _ _))
  have hv' := hv
  obtain ⟨v1, v2, v3, v4, v5⟩ := hv'
  obtain ⟨W, rfl⟩ := Int.eq_ofNat_of_zero_le v2
  obtain ⟨H, rfl⟩ := Int.eq_ofNat_of_zero_le v4
  have HRES : Hid (Rl.res s (W : Int) (H : Int) = Rl.get s W H 0 Rl.zero 0 0) := Rl.res_ok hv
  have hW : W ≤ 100 := by omega
  have hH : H ≤ 100 := by omega
  have dn : ¬ (9000 : Int) < (s.size : Int) := by omega
  obtain ⟨W2, hW2⟩ : ∃ W2, W2 = (w.alloc (.cells #[.string s, .int .i64 0] 52)).alloc (.cells #[.pointer (some ⟨w.heap.size, 0, none⟩)] 50) := ⟨_, rfl⟩
  have hs2 : W2.heap.size = w.heap.size + 2 := by rw [hW2]; simp
  have HX2 : Hid (Br W2 w.heap.size s 0 ∧ Boxed W2 (w.heap.size + 1) 50 (.pointer (some ⟨w.heap.size, 0, none⟩)) ∧ Below w.heap.size w W2) := by
    rw [hW2]
    refine ⟨(Below.heap_alloc _ _ _ (by simp)).trans (World.alloc_heap_new w _), ?_, ((Below.refl _ _).alloc (Nat.le_refl _) _).alloc (by simp) _⟩
    have := World.alloc_heap_new (w.alloc (.cells #[.string s, .int .i64 0] 52)) (.cells #[.pointer (some ⟨w.heap.size, 0, none⟩)] 50)
    unfold Boxed
    simpa using this
  have hW2' : (w.alloc (.cells #[.string s, .int .i64 0] 52)).alloc (.cells #[.pointer (some ⟨w.heap.size, 0, none⟩)] 50) = W2 := hW2.symm
  have HNS : Hid (Calls Try.prog 27 #[.int .i64 (W : Int), .int .i64 (H : Int)] W2 fun e w' => e = .returned (.pointer (some ⟨w.heap.size + 3, 0, none⟩)) ∧ Ns W2 (w.heap.size + 2) W H H w') := by
    have h := newSheet_any W H W2 hW hH
    rw [hs2] at h
    exact h
  have hmf : ∀ (fn : Fn) (first cap : Array Value) (w : World), (Instr.makeFunc fn first cap).run Try.prog w = .ok (.func fn first cap) w := fun _ _ _ _ => rfl
  have f1 : ¬ (W : Int) < 0 := by omega
  have f2 : ¬ (100 : Int) < (W : Int) := by omega
  have f3 : ¬ (H : Int) < 0 := by omega
  have f4 : ¬ (100 : Int) < (H : Int) := by omega
  clear hW2 hv
  go_enter Try.func10, Try.ntmps10
  go_wp2_with fail
  refine HNS.out.mono ?_
  rintro e w3 ⟨rfl, hns⟩
  have hz3 := hns.size
  obtain ⟨W4, hW4⟩ : ∃ W4, W4 = w3.alloc (.cells #[.pointer (some ⟨w.heap.size + 3, 0, none⟩)] 53) := ⟨_, rfl⟩
  have hW4' : w3.alloc (.cells #[.pointer (some ⟨w.heap.size + 3, 0, none⟩)] 53) = W4 := hW4.symm
  have hz4 : W4.heap.size = w.heap.size + 5 + H := by rw [hW4, World.size_alloc, hz3]; omega
  have HWK : Hid (Calls Try.prog 29 #[.pointer (some ⟨w.heap.size + 4 + H, 0, none⟩), .pointer (some ⟨w.heap.size + 1, 0, none⟩)] (W4.alloc (.cells #[.int .i64 0] 3)) fun e w' => Boxed w' W4.heap.size 3 (.int .i64 0) ∧ ((∃ v, e = .returned v) ∧ RwYes w W H s w' ∨ ∃ c, e = fault c ∧ RwNo w W H s c w')) := by
    obtain ⟨x0, x1, x2⟩ := HX2.out
    have b3 : Below (w.heap.size + 2) W2 w3 := hns.below
    have b4 : Below w3.heap.size w3 W4 := by rw [hW4]; exact (Below.refl _ _).alloc (Nat.le_refl _) _
    have b5 : Below W4.heap.size W4 (W4.alloc (.cells #[.int .i64 0] 3)) := (Below.refl _ _).alloc (Nat.le_refl _) _
    obtain ⟨W5, hW5⟩ : ∃ W5, W5 = W4.alloc (.cells #[.int .i64 0] 3) := ⟨_, rfl⟩
    rw [← hW5] at b5 ⊢
    have hz5 : W5.heap.size = w.heap.size + 6 + H := by rw [hW5, World.size_alloc, hz4]; omega
    have bw : Below w.heap.size w W5 := ((x2.trans (b3.mono (by omega))).trans (b4.mono (by omega))).trans (b5.mono (by omega))
    have hBr : Br W5 w.heap.size s 0 := ((b5.block _ (by omega)).trans ((b4.block _ (by omega)).trans ((b3.block _ (by omega)).trans x0)))
    have hIB : Boxed W5 (w.heap.size + 1) 50 (.pointer (some ⟨w.heap.size, 0, none⟩)) := ((b5.block _ (by omega)).trans ((b4.block _ (by omega)).trans ((b3.block _ (by omega)).trans x1)))
    have hSB4 : Boxed W4 (w.heap.size + 4 + H) 53 (.pointer (some ⟨w.heap.size + 3, 0, none⟩)) := by
      have := World.alloc_heap_new w3 (.cells #[.pointer (some ⟨w.heap.size + 3, 0, none⟩)] 53)
      rw [hz3, ← hW4, show w.heap.size + 2 + 2 + H = w.heap.size + 4 + H by omega] at this
      exact this
    have hSB : Boxed W5 (w.heap.size + 4 + H) 53 (.pointer (some ⟨w.heap.size + 3, 0, none⟩)) := rl_up hSB4 b5
    have k35 : ∀ k, k < w3.heap.size → W5.heap[k]? = w3.heap[k]? := fun k hk => (b5.block k (by omega)).trans (b4.block k hk)
    have hSh : Sh W5 (w.heap.size + 3) (.slice (some ⟨w.heap.size + 2, 0, none⟩) (rowsAt (w.heap.size + 2) H).length H) 0 0 := by rw [rowsAt_len]; exact (k35 _ (by omega)).trans hns.sheet
    have hGd : Gd (w.heap.size + 2) W5 (w.heap.size + 2) (rowsAt (w.heap.size + 2) H) W Rl.zero := hns.gd.same (by omega) (fun _ => k35 _ (by omega)) (fun b hb => k35 _ (hns.gd.low b hb).2)
    have ap : Apart w.heap.size (w.heap.size + 3) (w.heap.size + 2) (rowsAt (w.heap.size + 2) H) (some ⟨w.heap.size + 2, 0, none⟩) :=
      ⟨by omega, fun h => by have := rowsAt_mem h; omega, fun h => by have := rowsAt_mem h; omega, by omega, by omega, .inr rfl⟩
    refine (rleWork_any (w.heap.size + 2) W5 (w.heap.size + 4 + H) (w.heap.size + 1) w.heap.size (w.heap.size + 3) (w.heap.size + 2) (rowsAt (w.heap.size + 2) H) W (some ⟨w.heap.size + 2, 0, none⟩) H s hSB hIB ⟨hBr, hSh, hGd, Tn.refl _ _ _ _⟩ ap v1 (by omega) (by omega) (fun h => by have := rowsAt_mem h; omega) (by omega) (by omega) (fun h => by have := rowsAt_mem h; omega)).mono ?_
    rintro e w' ⟨ht, h⟩
    have hbel : Below w.heap.size w w' := bw.trans ⟨ht.os, ht.tape, ht.output, by rw [ht.size]; exact Nat.le_refl _, fun k hk => ht.rest k (by omega) (by omega) (fun h => by have := rowsAt_mem h; omega)⟩
    have hcode : Boxed W5 W4.heap.size 3 (.int .i64 0) := by rw [hW5]; exact Boxed.new W4 3 (.int .i64 0)
    refine ⟨ht.box hcode (by omega) (by omega) (fun h => by have := rowsAt_mem h; omega), ?_⟩
    rw [rowsAt_len] at h
    rcases h with ⟨hv, g, x, y, g1, g2, g3⟩ | ⟨c, g1, g2, g3⟩
    · exact .inl ⟨⟨_, hv⟩, ⟨g, x, y, g1, g2, g3⟩, ht.box hSB (by omega) (by omega) (fun h => by have := rowsAt_mem h; omega), hbel, by rw [ht.size]; omega⟩
    · exact .inr ⟨c, g1, g2, g3, hbel⟩
  have HFI : Hid (Calls Try.prog 28 #[.func (.func 29) #[] #[.pointer (some ⟨w.heap.size + 4 + H, 0, none⟩), .pointer (some ⟨w.heap.size + 1, 0, none⟩)]] W4 (FaultOut W4 (RwYes w W H s) (RwNo w W H s))) :=
    faultIn_any 29 _ (enters_of Try.func29 (by kernel_rfl) rfl) _ _ W4 HWK.out
  have e3 : w3.heap.size = w.heap.size + 4 + H := by omega
  clear HWK HX2 hW4 hns hz3 HNS hW2'
  go_wp2_with fail
  refine HFI.out.mono ?_
  rintro e w7 ⟨w6, hb6, (⟨rfl, ⟨⟨g, x, y, g1, g2, g3⟩, g4, g5, g6⟩, ht⟩ | ⟨c, rfl, ⟨hc0, hno, g5⟩, ht⟩)⟩
  · have HANS : Hid (Rl.res s (W : Int) (H : Int) = some g) := HRES.out.trans g1
    have hne : ∀ k, k < w.heap.size + 5 + H → k ≠ W4.heap.size := fun k hk => by omega
    have hsame : ∀ k, k < w.heap.size + 5 + H → w7.heap[k]? = w6.heap[k]? := fun k hk => by rw [ht]; exact Below.heap_setCell w6 ⟨W4.heap.size, 0, none⟩ _ _ (hne k hk)
    have hb7 : Boxed w7 (w.heap.size + 4 + H) 53 (.pointer (some ⟨w.heap.size + 3, 0, none⟩)) := (hsame _ (by omega)).trans g4
    have ho7 : Sh w7 (w.heap.size + 3) (.slice (some ⟨w.heap.size + 2, 0, none⟩) H H) x y := (hsame _ (by omega)).trans g2
    have hz7 : w7.heap.size = w6.heap.size := by rw [ht]; simp
    have hG7 : Gd w.heap.size w7 (w.heap.size + 2) (rowsAt (w.heap.size + 2) H) W g := (g3.same (by omega) (fun _ => hsame _ (by omega)) (fun b hb => hsame b (by have := rowsAt_mem hb; omega))).base (by omega)
    have HF : Hid (RlAns w s (W : Int) (H : Int) (.returned (.tuple #[.slice (some ⟨w.heap.size + 2, 0, none⟩) H H, .bool true])) w7) := by
      refine ⟨by show Below _ _ _; rw [ht]; exact g5.setCell (by show w.heap.size ≤ W4.heap.size; omega) _, .inr ⟨g, HANS.out, some ⟨w.heap.size + 2, 0, none⟩, H, by rw [Int.toNat_natCast], ?_⟩⟩
      rw [Int.toNat_natCast, Int.toNat_natCast]
      exact .inr ⟨w.heap.size + 2, rowsAt (w.heap.size + 2) H, rfl, rowsAt_len _ _, by omega, by omega, hG7⟩
    have k1 := hb7.cell
    obtain ⟨k2, -, -, -, -⟩ := ho7.cells
    clear hb7 ho7 hG7 g1 g2 g3 g4 g5 g6 ht hb6 HFI hsame hne hz7
    go_wp2_with fail
    exact bodyPost_ret (v := .tuple #[.slice (some ⟨w.heap.size + 2, 0, none⟩) H H, .bool true]) (by simp [results, Try.results10, go_sem]) rfl HF.out
  · have HF : Hid (RlAns w s (W : Int) (H : Int) (.returned (.tuple #[.slice none 0 0, .bool false])) w7) := rlAns_no (HRES.out.trans hno) rfl (by show Below _ _ _; rw [ht]; exact g5.setCell (by show w.heap.size ≤ W4.heap.size; omega) _)
    have hcb : (c != 0) = true := by rw [bne_iff_ne]; exact hc0
    clear hno g5 ht hb6 HFI HRES
    go_wp2_with fail
    exact bodyPost_ret (v := .tuple #[.slice none 0 0, .bool false]) (by simp [results, Try.results10, go_sem]) rfl HF.out
end Go.Proofs.Ytlpfedhehfbfeaa

/- RleGet of the specification. -/
namespace Go.Proofs.Ytlpfedhehfbfeaa
open Go.RowKit

set_option maxHeartbeats 4000000 in
set_option maxRecDepth 20000 in
theorem spec_rleGet (s : ByteArray) (wd hi : Int) (w : World) (hs : s.size ≤ 1048576) :
    Calls Try.prog 13 #[.string s, .int .i64 wd, .int .i64 hi] w (RlAns w s wd hi) := by
  by_cases h2 : (s.size : Int) > 9000
  · have d2 : decide ((s.size : Int) > 9000) = true := decide_eq_true h2
    have HF : Hid (Rl.res s wd hi = none) := Rl.res_no (fun h => by unfold Rl.Valid at h; omega)
    go_enter Try.func13, Try.ntmps13
    go_wp2_with fail
    exact bodyPost_ret (v := .tuple #[.slice (some ⟨w.heap.size, 0, none⟩) 0 0, .bool false]) (by simp [results, Try.results13, go_sem]) rfl (rlAns_no HF.out rfl ((Below.refl _ _).alloc (Nat.le_refl _) _))
  have d2 : decide ((s.size : Int) > 9000) = false := decide_eq_false h2
  by_cases h0 : 0 ≤ wd ∧ wd ≤ 100
  rotate_left
  · have HI0 : Hid (∀ w : World, Calls Try.prog 25 #[.int .i64 wd, .int .i64 0, .int .i64 100] w fun e w' => e = .returned (.bool false) ∧ w' = w) := fun w => l1In_no _ _ _ w h0
    have HF : Hid (Rl.res s wd hi = none) := Rl.res_no (fun h => by unfold Rl.Valid at h; omega)
    go_enter Try.func13, Try.ntmps13
    go_wp2_with fail
    refine (HI0.out _).mono ?_
    rintro e v0 ⟨rfl, hv0⟩
    replace hv0 := hv0.symm
    subst hv0
    go_wp2_with fail
    exact bodyPost_ret (v := .tuple #[.slice (some ⟨w.heap.size, 0, none⟩) 0 0, .bool false]) (by simp [results, Try.results13, go_sem]) rfl (rlAns_no HF.out rfl ((Below.refl _ _).alloc (Nat.le_refl _) _))
  have HI0 : Hid (∀ w : World, Calls Try.prog 25 #[.int .i64 wd, .int .i64 0, .int .i64 100] w fun e w' => e = .returned (.bool true) ∧ w' = w) := fun w => l1In_yes _ _ _ w h0.1 h0.2
  by_cases h1 : 0 ≤ hi ∧ hi ≤ 100
  rotate_left
  · have HI1 : Hid (∀ w : World, Calls Try.prog 25 #[.int .i64 hi, .int .i64 0, .int .i64 100] w fun e w' => e = .returned (.bool false) ∧ w' = w) := fun w => l1In_no _ _ _ w h1
    have HF : Hid (Rl.res s wd hi = none) := Rl.res_no (fun h => by unfold Rl.Valid at h; omega)
    go_enter Try.func13, Try.ntmps13
    go_wp2_with fail
    refine (HI0.out _).mono ?_
    rintro e v0 ⟨rfl, hv0⟩
    replace hv0 := hv0.symm
    subst hv0
    go_wp2_with fail
    refine (HI1.out _).mono ?_
    rintro e v1 ⟨rfl, hv1⟩
    replace hv1 := hv1.symm
    subst hv1
    go_wp2_with fail
    exact bodyPost_ret (v := .tuple #[.slice (some ⟨w.heap.size, 0, none⟩) 0 0, .bool false]) (by simp [results, Try.results13, go_sem]) rfl (rlAns_no HF.out rfl ((Below.refl _ _).alloc (Nat.le_refl _) _))
  have HI1 : Hid (∀ w : World, Calls Try.prog 25 #[.int .i64 hi, .int .i64 0, .int .i64 100] w fun e w' => e = .returned (.bool true) ∧ w' = w) := fun w => l1In_yes _ _ _ w h1.1 h1.2
  obtain ⟨W, rfl⟩ := Int.eq_ofNat_of_zero_le h0.1
  obtain ⟨H, rfl⟩ := Int.eq_ofNat_of_zero_le h1.1
  have HRES : Hid (Rl.res s W H = Rl.get s W H 0 Rl.zero 0 0) := Rl.res_ok (by unfold Rl.Valid; omega)
  have HLR : Hid (∀ w : World, Calls Try.prog 34 #[.string s, .int .i64 (W : Int), .int .i64 (H : Int)] w (LrEnd w s W H)) := fun w => l7Rows_any s W H w (by omega) (by omega) (by omega)
  go_enter Try.func13, Try.ntmps13
  go_wp2_with fail
  refine (HI0.out _).mono ?_
  rintro e v0 ⟨rfl, hv0⟩
  replace hv0 := hv0.symm
  subst hv0
  go_wp2_with fail
  refine (HI1.out _).mono ?_
  rintro e v1 ⟨rfl, hv1⟩
  replace hv1 := hv1.symm
  subst hv1
  clear HI0 HI1
  go_wp2_with fail
  refine (HLR.out _).mono ?_
  rintro e w2 ⟨hb, ao, cap, (⟨hno, rfl⟩ | ⟨g, hyes, rfl, hrows⟩)⟩
  · have HF : Hid (Rl.res s W H = none) := HRES.out.trans hno
    have HBW : Hid (Below w.heap.size w w2) := hb
    clear hno hb HLR HRES
    go_wp2_with fail
    exact bodyPost_ret (v := .tuple #[.slice (some ⟨w2.heap.size, 0, none⟩) 0 0, .bool false]) (by simp [results, Try.results13, go_sem]) rfl (rlAns_no HF.out rfl (HBW.out.alloc HBW.out.size _))
  · have HF : Hid (RlAns w s W H (.returned (.tuple #[.slice ao H cap, .bool true])) w2) := by
      refine ⟨hb, .inr ⟨g, HRES.out.trans hyes, ao, cap, by rw [Int.toNat_natCast], ?_⟩⟩
      rw [Int.toNat_natCast, Int.toNat_natCast]
      exact hrows
    clear hyes hb hrows HLR HRES
    go_wp2_with fail
    exact bodyPost_ret (v := .tuple #[.slice ao H cap, .bool true]) (by simp [results, Try.results13, go_sem]) rfl HF.out
end Go.Proofs.Ytlpfedhehfbfeaa

/- With more room, all that was there is there. -/
namespace Go.Proofs.Ytlpfedhehfbfeaa
namespace Rl

theorem puts_room {W H W' H' : Nat} (hW : W ≤ W') (hH : H ≤ H') : ∀ {l : List Int} {g : Grid} {x y : Nat} {r : Grid × Nat}, puts W H l g x y = some r → puts W' H' l g x y = some r
  | [], g, x, y, r, h => h
  | b :: l, g, x, y, r, h => by
    by_cases hc : y < H ∧ x < W
    · rw [puts_yes hc] at h
      rw [puts_yes ⟨by omega, by omega⟩]
      exact puts_room hW hH h
    · rw [puts_no hc] at h; cases h
theorem map_room {W H W' H' : Nat} (hW : W ≤ W') (hH : H ≤ H') {l : List Int} {g : Grid} {x y : Nat} {f : Grid × Nat → Out} {o : Out} (h : (puts W H l g x y).map f = some o) : (puts W' H' l g x y).map f = some o := by
  rcases hp : puts W H l g x y with _ | r
  · rw [hp] at h; cases h
  · rw [hp] at h
    rw [puts_room hW hH hp]
    exact h
theorem step_room {W H W' H' : Nat} (hW : W ≤ W') (hH : H ≤ H') {s : ByteArray} {A : Nat} {g : Grid} {x y : Nat} {o : Out} (h : step s W H A g x y = some o) : step s W' H' A g x y = some o := by
  unfold step at h ⊢
  by_cases h1 : A + 2 ≤ s.size
  · rw [if_pos h1] at h ⊢
    by_cases h2 : 0 < byteAt s A
    · rw [if_pos h2] at h ⊢; exact map_room hW hH h
    · rw [if_neg h2] at h ⊢
      by_cases h3 : byteAt s (A + 1) = 0
      · rw [if_pos h3] at h ⊢; exact h
      · rw [if_neg h3] at h ⊢
        by_cases h4 : byteAt s (A + 1) = 1
        · rw [if_pos h4] at h ⊢; exact h
        · rw [if_neg h4] at h ⊢
          by_cases h5 : byteAt s (A + 1) = 2
          · rw [if_pos h5] at h ⊢; exact h
          · rw [if_neg h5] at h ⊢
            by_cases h6 : A + 2 + byteAt s (A + 1) + byteAt s (A + 1) % 2 ≤ s.size
            · rw [if_pos h6] at h ⊢; exact map_room hW hH h
            · rw [if_neg h6] at h; cases h
  · rw [if_neg h1] at h; cases h
theorem get_room {W H W' H' : Nat} (hW : W ≤ W') (hH : H ≤ H') {s : ByteArray} : ∀ (n : Nat) {A : Nat} {g : Grid} {x y : Nat} {g1 : Grid}, s.size - A ≤ n → get s W H A g x y = some g1 → get s W' H' A g x y = some g1 := by
  intro n
  induction n with
  | zero =>
    intro A g x y g1 hn h
    rcases hs : step s W H A g x y with _ | o
    · rw [get_none hs] at h; cases h
    · have := step_le hs; omega
  | succ n ih =>
    intro A g x y g1 hn h
    rcases hs : step s W H A g x y with _ | ⟨t, A', g', x', y'⟩
    · rw [get_none hs] at h; cases h
    · have hle := step_le hs
      simp only at hle
      cases t
      · rw [get_end hs] at h
        rw [get_end (step_room hW hH hs)]; exact h
      · rw [get_more hs] at h
        rw [get_more (step_room hW hH hs)]
        exact ih (by omega) h
/-- more room, the same answer -/
theorem res_room {s : ByteArray} {W H : Nat} {g : Grid} (h : res s W H = some g) (hW : W < 100) (hH : H < 100) : res s ((W + 1 : Nat) : Int) ((H + 1 : Nat) : Int) = some g := by
  have hv : Valid s W H := by
    unfold res at h
    split at h
    · assumption
    · cases h
  rw [res_ok hv] at h
  rw [res_ok (by unfold Valid at hv ⊢; omega)]
  exact get_room (by omega) (by omega) s.size (by omega) h
end Rl
end Go.Proofs.Ytlpfedhehfbfeaa

/- Rows of numbers: held against others, marked, found again. -/
namespace Go.Proofs.Ytlpfedhehfbfeaa
open Go.RowKit

theorem RowsAre.kept {base : Nat} {w w' : World} {a : Option Addr} {n W : Nat} {g : Rl.Grid} (h : RowsAre base w a n W g) (b : Below w.heap.size w w') : RowsAre base w' a n W g := by
  rcases h with e | ⟨R, G, e, hG, hR, hRl, hg⟩
  · exact .inl e
  · exact .inr ⟨R, G, e, hG, hR, Nat.lt_of_lt_of_le hRl b.size, hg.same b.size (fun _ => b.block R hRl) (fun c hc => b.block c (hg.low c hc).2)⟩

/-- a row's numbers -/
def rowL (g : Rl.Grid) (y W : Nat) : List Int := (List.range W).map fun x => g y x
theorem rowL_len (g : Rl.Grid) (y W : Nat) : (rowL g y W).length = W := by simp [rowL]
theorem Gd.ints {base : Nat} {w : World} {R W : Nat} {G : List Nat} {g : Rl.Grid} (h : Gd base w R G W g) {y : Nat} (hy : y < G.length) : Ints w (some ⟨G[y], 0, none⟩) (rowL g y W) := by
  refine .inr ⟨G[y], 0, rfl, (h.low _ (List.getElem_mem hy)).2, fun i hi => ?_⟩
  have hi' : i < W := by rw [rowL_len] at hi; exact hi
  rw [Nat.zero_add, (h.num y hy i hi').1]
  simp [rowL]
theorem Gd.drewN {base : Nat} {w : World} {R W : Nat} {G : List Nat} {g : Rl.Grid} (h : Gd base w R G W g) (q : Nat) : Gd base (w.drewN q) R G W g := h.same (Nat.le_refl _) (fun _ => rfl) (fun _ _ => rfl)

set_option maxHeartbeats 1000000 in
theorem eqRows_same (base base' : Nat) (a : Option Addr) (cap : Nat) (b : Option Addr) (cap' n W : Nat) (g : Rl.Grid) (w : World) (h1 : RowsAre base w a n W g) (h2 : RowsAre base' w b n W g) (hn : n ≤ 100) (hW : W ≤ 100) :
    Calls Try.prog 17 #[.slice a n cap, .slice b n cap'] w fun e w' => e = .returned (.bool true) ∧ ∃ m, w' = w.drewN m := by
  have H1 : Hid (RowsAre base w a n W g) := h1
  have H2 : Hid (RowsAre base' w b n W g) := h2
  clear h1 h2
  go_enter Try.func17, Try.ntmps17
  go_wp2_with fail
  go_loopw [5] (fun i wr => ∃ k m : Nat, k ≤ n ∧ i = .int .i64 k ∧ wr = w.drewN m) (fun i _ => n - (intOf i).toNat)
  case atStart => exact ⟨0, 0, Nat.zero_le _, rfl, rfl⟩
  case round =>
    obtain ⟨k, m, hk, rfl, hwr⟩ := hrel
    have HW : Hid (wr = w.drewN m) := hwr
    clear hwr
    by_cases hlt : k < n
    · have hki : (k : Int) < (n : Int) := by omega
      rcases H1.out with e | ⟨R1, G1, rfl, hG1, -, -, g1⟩
      · omega
      rcases H2.out with e | ⟨R2, G2, rfl, hG2, -, -, g2⟩
      · omega
      have hk1 : k < G1.length := by omega
      have hk2 : k < G2.length := by omega
      have e1 : wr.cell? ⟨R1, k, none⟩ = some (.slice (some ⟨G1[k], 0, none⟩) W W) := by rw [HW.out]; exact (g1.drewN m).row k hk1
      have e2 : wr.cell? ⟨R2, k, none⟩ = some (.slice (some ⟨G2[k], 0, none⟩) W W) := by rw [HW.out]; exact (g2.drewN m).row k hk2
      have HEQ : Hid (∀ q, Calls Try.prog 37 #[.slice (some ⟨G1[k], 0, none⟩) W W, .slice (some ⟨G2[k], 0, none⟩) W W] (wr.drewN q) fun e w' => e = .returned (.bool true) ∧ ∃ m', w' = (wr.drewN q).drewN m') := fun q => by rw [HW.out]; exact eqInts_same _ _ _ _ W (rowL g k W) ((w.drewN m).drewN q) (((g1.drewN m).drewN q).ints hk1) (((g2.drewN m).drewN q).ints hk2) (rowL_len _ _ _) (by omega)
      generalize G1[k] = b1 at *
      generalize G2[k] = b2 at *
      clear hG1 hG2 g1 g2 H1 H2 hk1 hk2
      go_wp2_with fail
      go_quiet ((go_at_call 37; exact Calls.quiet_of (HEQ.out _)))
      all_goals go_wp2_with fail
      all_goals
        go_roundw
        case rel => exact ⟨k + 1, _, by omega, by go_num, by rw [HW.out, World.drewN_drewN]⟩
        case measure => simp [intOf]; omega
    · have hki : ¬ (k : Int) < (n : Int) := by omega
      go_wp2_with fail
      go_ret
      exact ⟨rfl, m, HW.out⟩

/-- marks, row by row -/
def mkG (W : Nat) : Rl.Grid := fun y x => ((1 + y * W + x : Nat) : Int)
def mixG (g : Rl.Grid) (W k : Nat) : Rl.Grid := fun y x => if y < k then ((1 + y * W + x : Nat) : Int) else g y x
theorem Gd.mark {base : Nat} {w w' : World} {R W k t : Nat} {G : List Nat} {g : Rl.Grid} (h : Gd base w R G W (mixG g W k)) (hk : k < G.length) (ht : t = 1 + k * W) (ho : Own w' G[k] W (fun i => ((t + i : Nat) : Int))) (hT : Turned G[k] w w') : Gd base w' R G W (mixG g W (k + 1)) := by
  refine ⟨h.nodup, h.apart, fun b hb => ⟨(h.low b hb).1, by rw [hT.size]; exact (h.low b hb).2⟩, fun y hy => ?_, fun y hy x hx => ?_⟩
  · exact (cellAt_same (hT.rest R (fun e => h.apart _ (List.getElem_mem hk) e.symm)) y).1.trans (h.row y hy)
  · by_cases e : y = k
    · subst e
      have := ho.2 x hx
      unfold mixG
      rw [if_pos (by omega), ← ht]
      exact this
    · have hs := cellAt_same (hT.rest G[y] (h.nodup y k hy hk e)) x
      have := h.num y hy x hx
      have hm : mixG g W (k + 1) y x = mixG g W k y x := by
        unfold mixG
        by_cases hyk : y < k
        · rw [if_pos hyk, if_pos (by omega)]
        · rw [if_neg hyk, if_neg (by omega)]
      rw [hm]
      exact ⟨hs.1.trans this.1, hs.2.trans this.2⟩
theorem Gd.fun {base : Nat} {w : World} {R W : Nat} {G : List Nat} {g g' : Rl.Grid} (h : Gd base w R G W g) (he : ∀ y, y < G.length → ∀ x, g' y x = g y x) : Gd base w R G W g' :=
  ⟨h.nodup, h.apart, h.low, h.row, fun y hy x hx => by rw [he y hy x]; exact h.num y hy x hx⟩
theorem Gd.own {base : Nat} {w : World} {R W : Nat} {G : List Nat} {g : Rl.Grid} (h : Gd base w R G W g) {y : Nat} (hy : y < G.length) : Own w G[y] W (fun x => g y x) := ⟨(h.low _ (List.getElem_mem hy)).2, fun i hi => h.num y hy i hi⟩

theorem mul_bound {k n W : Nat} (hk : k ≤ n) (hn : n ≤ 100) (hW : W ≤ 100) : k * W ≤ 10000 := Nat.le_trans (Nat.mul_le_mul (Nat.le_trans hk hn) hW) (by decide)

set_option maxHeartbeats 1000000 in
theorem markRows_some (base R W cap : Nat) (G : List Nat) (n : Nat) (g : Rl.Grid) (w : World) (h : Gd base w R G W g) (hG : G.length = n) (hn : n ≤ 100) (hW : W ≤ 100) :
    Calls Try.prog 18 #[.slice (some ⟨R, 0, none⟩) n cap, .int .i64 1] w fun e w' => e = .returned (.int .i64 ((1 + n * W : Nat) : Int)) ∧ Gd base w' R G W (mkG W) ∧ Below base w w' := by
  have H0 : Hid (Gd base w R G W g) := h
  have HGn : Hid (G.length = n) := hG
  clear h hG
  go_enter Try.func18, Try.ntmps18
  go_wp2_with fail
  go_loopw [1, 5] (fun x i wr => ∃ k t : Nat, k ≤ n ∧ i = .int .i64 k ∧ Hid (t = 1 + k * W) ∧ x = .int .i64 (t : Int) ∧ Hid (Gd base wr R G W (mixG g W k) ∧ Below base w wr)) (fun _ i _ => n - (intOf i).toNat)
  case atStart => exact ⟨0, 1, Nat.zero_le _, rfl, by show _ = _; rw [Nat.zero_mul], rfl, H0.out.fun (fun y _ x => by unfold mixG; rw [if_neg (by omega)]), Below.refl _ _⟩
  case round =>
    obtain ⟨k, t, hk, rfl, HT, rfl, HS⟩ := hrel
    clear H0
    have htb : t ≤ 10001 := by have := HT.out; have := mul_bound hk hn hW; omega
    by_cases hlt : k < n
    · have hki : (k : Int) < (n : Int) := by omega
      have hkG : k < G.length := by rw [HGn.out]; exact hlt
      have e1 := HS.out.1.row k hkG
      have HMK : Hid (Calls Try.prog 38 #[.slice (some ⟨G[k], 0, none⟩) W W, .int .i64 (t : Int)] wr fun e w' => e = .returned (.int .i64 ((t + W : Nat) : Int)) ∧ Gd base w' R G W (mixG g W (k + 1)) ∧ Below base w w') := by
        refine (mark_ownS t G[k] W W _ wr (HS.out.1.own hkG) (by omega) (by omega)).mono ?_
        rintro e w' ⟨h1, h2, h3⟩
        exact ⟨h1, HS.out.1.mark hkG HT.out h2 h3, HS.out.2.trans (h3.below (HS.out.1.low _ (List.getElem_mem hkG)).1)⟩
      have HT2 : Hid (t + W = 1 + (k + 1) * W) := by show _ = _; rw [HT.out, Nat.succ_mul]; omega
      generalize G[k] = b1 at *
      clear HS HT hkG
      go_wp2_with fail
      refine HMK.out.mono ?_
      rintro e w2 ⟨rfl, h2, h3⟩
      have HS2 : Hid (Gd base w2 R G W (mixG g W (k + 1)) ∧ Below base w w2) := ⟨h2, h3⟩
      obtain ⟨t2, ht2⟩ : ∃ t2, t2 = t + W := ⟨_, rfl⟩
      rw [← ht2] at HT2
      rw [← ht2]
      clear h2 h3 HMK e1 ht2
      go_wp2_with fail
      go_roundw
      case rel => exact ⟨k + 1, t2, by omega, by go_num, HT2, rfl, HS2⟩
      case measure => simp [intOf]; omega
    · have hki : ¬ (k : Int) < (n : Int) := by omega
      have hk' : k = n := by omega
      subst hk'
      have HF : Hid (Gd base wr R G W (mkG W) ∧ Below base w wr) := ⟨HS.out.1.fun (fun y hy x => by unfold mixG mkG; rw [if_pos (by rw [← HGn.out]; exact hy)]), HS.out.2⟩
      clear HS
      go_wp2_with fail
      go_ret
      exact ⟨ret_int (by rw [HT.out]; simp), HF.out⟩

set_option maxHeartbeats 1000000 in
theorem heldRows_some (base R W cap : Nat) (G : List Nat) (n : Nat) (w : World) (h : Gd base w R G W (mkG W)) (hG : G.length = n) (hn : n ≤ 100) (hW : W ≤ 100) :
    Calls Try.prog 19 #[.slice (some ⟨R, 0, none⟩) n cap, .int .i64 1] w fun e w' => e = .returned (.int .i64 ((1 + n * W : Nat) : Int)) ∧ w' = w := by
  have H0 : Hid (Gd base w R G W (mkG W)) := h
  have HGn : Hid (G.length = n) := hG
  clear h hG
  go_enter Try.func19, Try.ntmps19
  go_wp2_with fail
  go_loop [1, 5] (fun x i => ∃ k t : Nat, k ≤ n ∧ i = .int .i64 k ∧ Hid (t = 1 + k * W) ∧ x = .int .i64 (t : Int)) (fun _ i => n - (intOf i).toNat)
  case atStart => exact ⟨0, 1, Nat.zero_le _, rfl, by show _ = _; rw [Nat.zero_mul], rfl⟩
  case round =>
    obtain ⟨k, t, hk, rfl, HT, rfl⟩ := hrel
    have htb : t ≤ 10001 := by have := HT.out; have := mul_bound hk hn hW; omega
    by_cases hlt : k < n
    · have hki : (k : Int) < (n : Int) := by omega
      have hkG : k < G.length := by rw [HGn.out]; exact hlt
      have e1 := H0.out.row k hkG
      have HMK : Hid (Calls Try.prog 39 #[.slice (some ⟨G[k], 0, none⟩) W W, .int .i64 (t : Int)] w fun e w' => e = .returned (.int .i64 ((t + W : Nat) : Int)) ∧ w' = w) := by
        refine held_ownS t G[k] W W w ?_ (by omega) (by omega)
        have h1 := H0.out.own hkG
        have h2 : (fun x => mkG W k x) = (fun i => ((t + i : Nat) : Int)) := by funext i; unfold mkG; rw [HT.out]
        rw [h2] at h1
        exact h1
      have HT2 : Hid (t + W = 1 + (k + 1) * W) := by show _ = _; rw [HT.out, Nat.succ_mul]; omega
      generalize G[k] = b1 at *
      clear HT hkG
      go_wp2_with fail
      refine HMK.out.mono ?_
      rintro e w2 ⟨rfl, hw2⟩
      replace hw2 := hw2.symm
      subst hw2
      obtain ⟨t2, ht2⟩ : ∃ t2, t2 = t + W := ⟨_, rfl⟩
      rw [← ht2] at HT2
      rw [← ht2]
      have hneg : ¬ (t2 : Int) < 0 := by omega
      clear HMK e1 ht2
      go_wp2_with fail
      go_round
      case rel => exact ⟨k + 1, t2, by omega, by go_num, HT2, rfl⟩
      case measure => simp [intOf]; omega
    · have hki : ¬ (k : Int) < (n : Int) := by omega
      have hk' : k = n := by omega
      subst hk'
      go_wp2_with fail
      go_ret
      exact ⟨ret_int (by rw [HT.out]; simp), rfl⟩

set_option maxHeartbeats 400000 in
theorem markRows_nil (a : Option Addr) (c : Nat) (w : World) :
    Calls Try.prog 18 #[.slice a 0 c, .int .i64 1] w fun e w' => e = .returned (.int .i64 1) ∧ w' = w := by
  go_enter Try.func18, Try.ntmps18
  go_wp2_with fail
  go_loop [1, 5] (fun x i => i = .int .i64 0 ∧ x = .int .i64 1) (fun _ _ => 0)
  case atStart => exact ⟨rfl, rfl⟩
  case round =>
    obtain ⟨rfl, rfl⟩ := hrel
    go_wp2_with fail
    go_ret
    exact ⟨rfl, rfl⟩
set_option maxHeartbeats 400000 in
theorem heldRows_nil (a : Option Addr) (c : Nat) (w : World) :
    Calls Try.prog 19 #[.slice a 0 c, .int .i64 1] w fun e w' => e = .returned (.int .i64 1) ∧ w' = w := by
  go_enter Try.func19, Try.ntmps19
  go_wp2_with fail
  go_loop [1, 5] (fun x i => i = .int .i64 0 ∧ x = .int .i64 1) (fun _ _ => 0)
  case atStart => exact ⟨rfl, rfl⟩
  case round =>
    obtain ⟨rfl, rfl⟩ := hrel
    go_wp2_with fail
    go_ret
    exact ⟨rfl, rfl⟩

theorem markRows_any (base : Nat) (a : Option Addr) (n W cap : Nat) (g : Rl.Grid) (w : World) (h : RowsAre base w a n W g) (hn : n ≤ 100) (hW : W ≤ 100) :
    Calls Try.prog 18 #[.slice a n cap, .int .i64 1] w fun e w' => e = .returned (.int .i64 ((1 + n * W : Nat) : Int)) ∧ RowsAre base w' a n W (mkG W) ∧ Below base w w' := by
  rcases h with rfl | ⟨R, G, rfl, hG, hR, hRl, hg⟩
  · refine (markRows_nil a cap w).mono ?_
    rintro e w' ⟨rfl, rfl⟩
    exact ⟨by rw [Nat.zero_mul]; rfl, .inl rfl, Below.refl _ _⟩
  · refine (markRows_some base R W cap G n g w hg hG hn hW).mono ?_
    rintro e w' ⟨h1, h2, h3⟩
    exact ⟨h1, .inr ⟨R, G, rfl, hG, hR, Nat.lt_of_lt_of_le hRl h3.size, h2⟩, h3⟩
theorem heldRows_any (base : Nat) (a : Option Addr) (n W cap : Nat) (w : World) (h : RowsAre base w a n W (mkG W)) (hn : n ≤ 100) (hW : W ≤ 100) :
    Calls Try.prog 19 #[.slice a n cap, .int .i64 1] w fun e w' => e = .returned (.int .i64 ((1 + n * W : Nat) : Int)) ∧ w' = w := by
  rcases h with rfl | ⟨R, G, rfl, hG, hR, hRl, hg⟩
  · refine (heldRows_nil a cap w).mono ?_
    rintro e w' ⟨rfl, rfl⟩
    exact ⟨by rw [Nat.zero_mul]; rfl, rfl⟩
  · exact heldRows_some base R W cap G n w hg hG hn hW
end Go.Proofs.Ytlpfedhehfbfeaa

/- Two lists of ints held against each other by the laws. -/
namespace Go.Proofs.Ytlpfedhehfbfeaa
open Go.RowKit

set_option maxHeartbeats 400000 in
theorem wiInts_same (a : Option Addr) (cap : Nat) (b : Option Addr) (cap' n : Nat) (zs : List Int) (w : World) (h : Ints w a zs) (g : Ints w b zs) (hn : zs.length = n) (hl : n ≤ 2000000) :
    Calls Try.prog 14 #[.slice a n cap, .slice b n cap'] w fun e w' => e = .returned (.bool true) ∧ ∃ m, w' = w.drewN m := by
  have HI : Hid (Ints w a zs) := h
  have HG : Hid (Ints w b zs) := g
  clear h g
  have hzg : n ≤ zs.length := by omega
  clear hn
  go_enter Try.func14, Try.ntmps14
  go_wp2_with fail
  go_loopw [5] (fun i wr => ∃ k m : Nat, k ≤ n ∧ i = .int .i64 k ∧ wr = w.drewN m) (fun i _ => n - (intOf i).toNat)
  case atStart => exact ⟨0, 0, Nat.zero_le _, rfl, rfl⟩
  case round =>
    obtain ⟨k, m, hk, rfl, rfl⟩ := hrel
    by_cases hlt : k < n
    · have hkz : k < zs.length := by omega
      rcases HI.out with h | ⟨b1, off1, rfl, hb1, hc1⟩
      · rw [h] at hkz; simp at hkz
      · rcases HG.out with h | ⟨b2, off2, rfl, hb2, hc2⟩
        · rw [h] at hkz; simp at hkz
        · have e1 := hc1 k hkz
          have e2 := hc2 k hkz
          have hki : (k : Int) < (n : Int) := by omega
          clear hc1 hc2
          generalize zs[k] = x at *
          go_wp2_with fail
          go_region
          all_goals go_wp2_with fail
          all_goals
            go_roundw
            case rel => exact ⟨k + 1, m + 1, by omega, by go_num, rfl⟩
            case measure => simp [intOf]; omega
    · go_wp2_with fail
      go_ret
      exact ⟨rfl, m, rfl⟩
end Go.Proofs.Ytlpfedhehfbfeaa

/- Rows held against rows, by the laws' own text. -/
namespace Go.Proofs.Ytlpfedhehfbfeaa
open Go.RowKit

set_option maxHeartbeats 1000000 in
theorem wiRows_same (base base' : Nat) (a : Option Addr) (cap : Nat) (b : Option Addr) (cap' n W : Nat) (g : Rl.Grid) (w : World) (h1 : RowsAre base w a n W g) (h2 : RowsAre base' w b n W g) (hn : n ≤ 100) (hW : W ≤ 100) :
    Calls Try.prog 11 #[.slice a n cap, .slice b n cap'] w fun e w' => e = .returned (.bool true) ∧ ∃ m, w' = w.drewN m := by
  have H1 : Hid (RowsAre base w a n W g) := h1
  have H2 : Hid (RowsAre base' w b n W g) := h2
  clear h1 h2
  go_enter Try.func11, Try.ntmps11
  go_wp2_with fail
  go_loopw [5] (fun i wr => ∃ k m : Nat, k ≤ n ∧ i = .int .i64 k ∧ wr = w.drewN m) (fun i _ => n - (intOf i).toNat)
  case atStart => exact ⟨0, 0, Nat.zero_le _, rfl, rfl⟩
  case round =>
    obtain ⟨k, m, hk, rfl, hwr⟩ := hrel
    have HW : Hid (wr = w.drewN m) := hwr
    clear hwr
    by_cases hlt : k < n
    · have hki : (k : Int) < (n : Int) := by omega
      rcases H1.out with e | ⟨R1, G1, rfl, hG1, -, -, g1⟩
      · omega
      rcases H2.out with e | ⟨R2, G2, rfl, hG2, -, -, g2⟩
      · omega
      have hk1 : k < G1.length := by omega
      have hk2 : k < G2.length := by omega
      have e1 : wr.cell? ⟨R1, k, none⟩ = some (.slice (some ⟨G1[k], 0, none⟩) W W) := by rw [HW.out]; exact (g1.drewN m).row k hk1
      have e2 : wr.cell? ⟨R2, k, none⟩ = some (.slice (some ⟨G2[k], 0, none⟩) W W) := by rw [HW.out]; exact (g2.drewN m).row k hk2
      have HEQ : Hid (∀ q, Calls Try.prog 14 #[.slice (some ⟨G1[k], 0, none⟩) W W, .slice (some ⟨G2[k], 0, none⟩) W W] (wr.drewN q) fun e w' => e = .returned (.bool true) ∧ ∃ m', w' = (wr.drewN q).drewN m') := fun q => by rw [HW.out]; exact wiInts_same _ _ _ _ W (rowL g k W) ((w.drewN m).drewN q) (((g1.drewN m).drewN q).ints hk1) (((g2.drewN m).drewN q).ints hk2) (rowL_len _ _ _) (by omega)
      generalize G1[k] = b1 at *
      generalize G2[k] = b2 at *
      clear hG1 hG2 g1 g2 H1 H2 hk1 hk2
      go_wp2_with fail
      go_quiet ((go_at_call 14; exact Calls.quiet_of (HEQ.out _)))
      all_goals go_wp2_with fail
      all_goals
        go_roundw
        case rel => exact ⟨k + 1, _, by omega, by go_num, by rw [HW.out, World.drewN_drewN]⟩
        case measure => simp [intOf]; omega
    · have hki : ¬ (k : Int) < (n : Int) := by omega
      go_wp2_with fail
      go_ret
      exact ⟨rfl, m, HW.out⟩

set_option maxHeartbeats 1000000 in
theorem wiRows2_same (a : Option Addr) (cap : Nat) (b : Option Addr) (cap' n : Nat) (ls : List (List Int)) (w : World) (h1 : Rows2 w a ls) (h2 : Rows2 w b ls) (hl : ls.length = n) (hn : n ≤ 2000000) (hm : ∀ l ∈ ls, l.length ≤ 2000000) :
    Calls Try.prog 11 #[.slice a n cap, .slice b n cap'] w fun e w' => e = .returned (.bool true) ∧ ∃ m, w' = w.drewN m := by
  have H1 : Hid (Rows2 w a ls) := h1
  have H2 : Hid (Rows2 w b ls) := h2
  have HL : Hid (ls.length = n) := hl
  have HM : Hid (∀ l ∈ ls, l.length ≤ 2000000) := hm
  clear h1 h2 hl hm
  go_enter Try.func11, Try.ntmps11
  go_wp2_with fail
  go_loopw [5] (fun i wr => ∃ k m : Nat, k ≤ n ∧ i = .int .i64 k ∧ wr = w.drewN m) (fun i _ => n - (intOf i).toNat)
  case atStart => exact ⟨0, 0, Nat.zero_le _, rfl, rfl⟩
  case round =>
    obtain ⟨k, m, hk, rfl, hwr⟩ := hrel
    have HW : Hid (wr = w.drewN m) := hwr
    have hbw : Below w.heap.size w wr := by rw [hwr]; exact ⟨rfl, rfl, rfl, Nat.le_refl _, fun _ _ => rfl⟩
    clear hwr
    by_cases hlt : k < n
    · have hki : (k : Int) < (n : Int) := by omega
      have hkl : k < ls.length := by rw [HL.out]; exact hlt
      obtain ⟨R1, o1, a1, c1, rfl, e1, i1⟩ := (H1.out.kept hbw).at hkl
      obtain ⟨R2, o2, a2, c2, rfl, e2, i2⟩ := (H2.out.kept hbw).at hkl
      have HEQ : Hid (∀ q, Calls Try.prog 14 #[.slice a1 ls[k].length c1, .slice a2 ls[k].length c2] (wr.drewN q) fun e w' => e = .returned (.bool true) ∧ ∃ m', w' = (wr.drewN q).drewN m') := fun q => wiInts_same _ _ _ _ ls[k].length ls[k] (wr.drewN q) (i1.kept ⟨rfl, rfl, rfl, Nat.le_refl _, fun _ _ => rfl⟩) (i2.kept ⟨rfl, rfl, rfl, Nat.le_refl _, fun _ _ => rfl⟩) rfl (HM.out _ (List.getElem_mem hkl))
      generalize ls[k].length = z at *
      clear i1 i2 hkl hbw
      go_wp2_with fail
      go_quiet ((go_at_call 14; exact Calls.quiet_of (HEQ.out _)))
      all_goals go_wp2_with fail
      all_goals
        go_roundw
        case rel => exact ⟨k + 1, _, by omega, by go_num, by rw [HW.out, World.drewN_drewN]⟩
        case measure => simp [intOf]; omega
    · have hki : ¬ (k : Int) < (n : Int) := by omega
      go_wp2_with fail
      go_ret
      exact ⟨rfl, m, HW.out⟩
end Go.Proofs.Ytlpfedhehfbfeaa

/- The law on rows that are read: rows are as many and as wide as asked for; with more room all that was there is there. -/
namespace Go.Proofs.Ytlpfedhehfbfeaa
open Go.RowKit

theorem rlGet_no {w : World} {s : ByteArray} {wd hi : Int} (hr : Rl.res s wd hi = none) (f : FuncId) (h : Calls Try.prog f #[.string s, .int .i64 wd, .int .i64 hi] w (RlAns w s wd hi)) :
    Calls Try.prog f #[.string s, .int .i64 wd, .int .i64 hi] w fun e w' => ∃ ao cap, e = .returned (.tuple #[.slice ao 0 cap, .bool false]) ∧ Below w.heap.size w w' := by
  refine h.mono fun e w' hh => ?_
  rcases hh with ⟨hb, (⟨-, ao, cap, he⟩ | ⟨g, hg, -⟩)⟩
  · exact ⟨ao, cap, he, hb⟩
  · rw [hr] at hg; simp at hg
theorem rlGet_yes {w : World} {s : ByteArray} {W H : Nat} {g : Rl.Grid} (hr : Rl.res s (W : Int) (H : Int) = some g) (f : FuncId) (h : Calls Try.prog f #[.string s, .int .i64 (W : Int), .int .i64 (H : Int)] w (RlAns w s (W : Int) (H : Int))) :
    Calls Try.prog f #[.string s, .int .i64 (W : Int), .int .i64 (H : Int)] w fun e w' => ∃ ao cap, e = .returned (.tuple #[.slice ao H cap, .bool true]) ∧ RowsAre w.heap.size w' ao H W g ∧ Below w.heap.size w w' := by
  refine h.mono fun e w' hh => ?_
  rcases hh with ⟨hb, (⟨hn, -⟩ | ⟨g', hg, ao, cap, he, hrows⟩)⟩
  · rw [hr] at hn; simp at hn
  · rw [hr] at hg
    cases hg
    exact ⟨ao, cap, he, hrows, hb⟩
theorem RowsAre.drewN {base : Nat} {w : World} {a : Option Addr} {n W : Nat} {g : Rl.Grid} (h : RowsAre base w a n W g) (m : Nat) : RowsAre base (w.drewN m) a n W g := h.kept ⟨rfl, rfl, rfl, Nat.le_refl _, fun _ _ => rfl⟩
theorem RowsAre.at {base : Nat} {w : World} {a : Option Addr} {n W : Nat} {g : Rl.Grid} (h : RowsAre base w a n W g) {k : Nat} (hk : k < n) : ∃ R b, a = some ⟨R, 0, none⟩ ∧ w.cell? ⟨R, k, none⟩ = some (.slice (some ⟨b, 0, none⟩) W W) ∧ Ints w (some ⟨b, 0, none⟩) (rowL g k W) := by
  rcases h with e | ⟨R, G, rfl, hG, -, -, hg⟩
  · omega
  · exact ⟨R, G[k]'(by omega), rfl, hg.row k (by omega), hg.ints (by omega)⟩
theorem rowL_take (g : Rl.Grid) (y W : Nat) : (rowL g y (W + 1)).take W = rowL g y W := by
  unfold rowL
  rw [← List.map_take, List.take_range, Nat.min_eq_left (by omega)]
theorem Ints.cut {w : World} {a : Option Addr} {l : List Int} (h : Ints w a l) (n : Nat) : Ints w a (l.take n) := by
  rcases h with rfl | ⟨b, off, rfl, h1, h2⟩
  · exact .inl (by simp)
  · exact .inr ⟨b, off, rfl, h1, fun i hi => by
      have hl : i < l.length := by rw [List.length_take] at hi; omega
      rw [List.getElem_take]; exact h2 i hl⟩

set_option maxHeartbeats 4000000 in
set_option maxRecDepth 20000 in
theorem lawRleGet (a : Option Addr) (len cap : Nat) (w : World) (h : Code8 w a len cap) :
    Calls Try.prog 4 #[.slice a len cap] w fun e w' => e = .returned (.bool true) ∧ Below w.heap.size w w' := by
  by_cases hbig : 1048576 < len
  · have hbi : (1048576 : Int) < (len : Int) := by omega
    clear h
    go_enter Try.func4, Try.ntmps4
    go_wp2_with fail
    go_ret
    exact ⟨rfl, Below.refl _ _⟩
  have hbi : ¬ (1048576 : Int) < (len : Int) := by omega
  have HDR : Hid (Calls Try.prog 12 #[.slice a len cap] w (RleDrawn w)) := drawRleGet_any a len cap w h
  clear h
  go_enter Try.func4, Try.ntmps4
  go_wp2_with fail
  refine HDR.out.mono ?_
  rintro e w1 ⟨⟨t, wd, hi, rfl, ht, hw1, hw2, hh1, hh2⟩, b1⟩
  have HB1 : Hid (Below w.heap.size w w1) := b1
  clear b1 HDR
  rcases hr : Rl.res t wd hi with _ | g
  · have HIM : Hid (∀ w : World, Calls Try.prog 10 #[.string t, .int .i64 wd, .int .i64 hi] w fun e w' => ∃ ao cap, e = .returned (.tuple #[.slice ao 0 cap, .bool false]) ∧ Below w.heap.size w w') := fun w => rlGet_no hr _ (impl_rleGet t wd hi w (by omega))
    have HSP : Hid (∀ w : World, Calls Try.prog 13 #[.string t, .int .i64 wd, .int .i64 hi] w fun e w' => ∃ ao cap, e = .returned (.tuple #[.slice ao 0 cap, .bool false]) ∧ Below w.heap.size w w') := fun w => rlGet_no hr _ (spec_rleGet t wd hi w (by omega))
    clear hr
    go_wp2_with fail
    refine (HIM.out _).mono ?_
    rintro e w2 ⟨x, c1, rfl, b2⟩
    have HB2 : Hid (Below w.heap.size w w2) := HB1.out.trans (b2.mono HB1.out.size)
    clear b2 HB1
    go_wp2_with fail
    refine (HSP.out _).mono ?_
    rintro e w3 ⟨y, c2, rfl, b3⟩
    have HB3 : Hid (Below w.heap.size w w3) := HB2.out.trans (b3.mono HB2.out.size)
    clear b3 HB2
    go_wp2_with fail
    refine (wiRows_same 0 0 x c1 y c2 0 0 Rl.zero w3 (.inl rfl) (.inl rfl) (by omega) (by omega)).mono ?_
    rintro e w4 ⟨rfl, m4, hw4⟩
    have HB4 : Hid (Below w.heap.size w w4) := by rw [hw4]; exact HB3.out.trans ⟨rfl, rfl, rfl, Nat.le_refl _, fun _ _ => rfl⟩
    clear hw4 HB3
    go_wp2_with fail
    go_ret
    exact ⟨rfl, HB4.out⟩
  · have hv : Rl.Valid t wd hi := by
      unfold Rl.res at hr
      split at hr
      · assumption
      · simp at hr
    unfold Rl.Valid at hv
    obtain ⟨W, rfl⟩ : ∃ W : Nat, wd = (W : Int) := ⟨wd.toNat, by omega⟩
    obtain ⟨H, rfl⟩ : ∃ H : Nat, hi = (H : Int) := ⟨hi.toNat, by omega⟩
    have hr2 := Rl.res_room hr (by omega) (by omega)
    obtain ⟨W1, hW1⟩ : ∃ W1, W1 = W + 1 := ⟨_, rfl⟩
    obtain ⟨H1, hH1⟩ : ∃ H1, H1 = H + 1 := ⟨_, rfl⟩
    rw [← hW1, ← hH1] at hr2
    have eW : (W : Int) + 1 = (W1 : Int) := by omega
    have eH : (H : Int) + 1 = (H1 : Int) := by omega
    have HIM : Hid (∀ w : World, Calls Try.prog 10 #[.string t, .int .i64 (W : Int), .int .i64 (H : Int)] w fun e w' => ∃ ao cap, e = .returned (.tuple #[.slice ao H cap, .bool true]) ∧ RowsAre w.heap.size w' ao H W g ∧ Below w.heap.size w w') := fun w => rlGet_yes hr _ (impl_rleGet t _ _ w (by omega))
    have HSP : Hid (∀ w : World, Calls Try.prog 13 #[.string t, .int .i64 (W : Int), .int .i64 (H : Int)] w fun e w' => ∃ ao cap, e = .returned (.tuple #[.slice ao H cap, .bool true]) ∧ RowsAre w.heap.size w' ao H W g ∧ Below w.heap.size w w') := fun w => rlGet_yes hr _ (spec_rleGet t _ _ w (by omega))
    have HI2 : Hid (∀ w : World, Calls Try.prog 10 #[.string t, .int .i64 (W1 : Int), .int .i64 (H1 : Int)] w fun e w' => ∃ ao cap, e = .returned (.tuple #[.slice ao H1 cap, .bool true]) ∧ RowsAre w.heap.size w' ao H1 W1 g ∧ Below w.heap.size w w') := fun w => rlGet_yes hr2 _ (impl_rleGet t _ _ w (by omega))
    have hWb : W ≤ 10 := by omega
    have hHb : H ≤ 10 := by omega
    have HW1 : Hid (W1 = W + 1) := hW1
    have hWW : W ≤ W1 := by omega
    have hHH : H < H1 := by omega
    clear hr hr2 hv hW1 hH1 hw1 hw2 hh1 hh2
    go_wp2_with fail
    refine (HIM.out _).mono ?_
    rintro e w2 ⟨x, c1, rfl, G2, b2⟩
    have HB2 : Hid (Below w.heap.size w w2) := HB1.out.trans (b2.mono HB1.out.size)
    have HG2 : Hid (∃ base, RowsAre base w2 x H W g) := ⟨_, G2⟩
    clear b2 HB1 G2 HIM
    go_wp2_with fail
    refine (HSP.out _).mono ?_
    rintro e w3 ⟨y, c2, rfl, G3, b3⟩
    have HB3 : Hid (Below w.heap.size w w3) := HB2.out.trans (b3.mono HB2.out.size)
    obtain ⟨bx, gx⟩ := HG2.out
    have HG3 : Hid (RowsAre bx w3 x H W g) := gx.kept b3
    have HGy : Hid (∃ base, RowsAre base w3 y H W g) := ⟨_, G3⟩
    clear b3 HB2 G3 HSP HG2 gx
    obtain ⟨by_, gy⟩ := HGy.out
    go_wp2_with fail
    refine (wiRows_same bx by_ x c1 y c2 H W g w3 HG3.out gy (by omega) (by omega)).mono ?_
    rintro e w4 ⟨rfl, m4, hw4⟩
    have HB4 : Hid (Below w.heap.size w w4) := by rw [hw4]; exact HB3.out.trans ⟨rfl, rfl, rfl, Nat.le_refl _, fun _ _ => rfl⟩
    have HG4 : Hid (RowsAre bx w4 x H W g) := by rw [hw4]; exact HG3.out.drewN m4
    clear hw4 HB3 HG3 HGy gy
    go_wp2_with fail
    refine (HI2.out _).mono ?_
    rintro e w5 ⟨z, c3, rfl, G5, b5⟩
    have HB5 : Hid (Below w.heap.size w w5) := HB4.out.trans (b5.mono HB4.out.size)
    have HG5 : Hid (RowsAre bx w5 x H W g) := HG4.out.kept b5
    have HM5 : Hid (RowsAre w4.heap.size w5 z H1 W1 g) := G5
    clear b5 HB4 G5 HI2 HG4
    go_wp2_with fail
    go_loopw [12] (fun i wr => ∃ k m : Nat, k ≤ H ∧ i = .int .i64 k ∧ Hid (wr = w5.drewN m)) (fun i _ => H - (intOf i).toNat)
    case atStart => exact ⟨0, 0, Nat.zero_le _, rfl, rfl⟩
    case round =>
      obtain ⟨k, m, hk, rfl, HW⟩ := hrel
      by_cases hlt : k < H
      · have hki : (k : Int) < (H : Int) := by omega
        obtain ⟨R1, b1, rfl, e1, i1⟩ := (HG5.out.drewN m).at hlt
        obtain ⟨R2, b2, rfl, e2, i2⟩ := (HM5.out.drewN m).at (show k < H1 by omega)
        have j2 : Ints (w5.drewN m) (some ⟨b2, 0, none⟩) (rowL g k W) := by
          have := i2.cut W
          rw [HW1.out, rowL_take] at this
          exact this
        have HEQ : Hid (∀ q, Calls Try.prog 14 #[.slice (some ⟨b2, 0, none⟩) W W1, .slice (some ⟨b1, 0, none⟩) W W] (wr.drewN q) fun e w' => e = .returned (.bool true) ∧ ∃ m', w' = (wr.drewN q).drewN m') := fun q => by
          rw [HW.out]
          exact wiInts_same _ _ _ _ W (rowL g k W) ((w5.drewN m).drewN q) (j2.kept ⟨rfl, rfl, rfl, Nat.le_refl _, fun _ _ => rfl⟩) (i1.kept ⟨rfl, rfl, rfl, Nat.le_refl _, fun _ _ => rfl⟩) (rowL_len _ _ _) (by omega)
        rw [← HW.out] at e1 e2
        have hkH1 : k < H1 := by omega
        clear i1 i2 j2 HG5 HM5
        go_wp2_with fail
        go_quiet ((go_at_call 14; exact Calls.quiet_of (HEQ.out _)))
        all_goals go_wp2_with fail
        all_goals
          go_roundw
          case rel => exact ⟨k + 1, _, by omega, by go_num, by show _ = _; rw [HW.out, World.drewN_drewN]⟩
          case measure => simp [intOf]; omega
      · have hki : ¬ (k : Int) < (H : Int) := by omega
        have HB : Hid (Below w.heap.size w wr) := by rw [HW.out]; exact HB5.out.trans ⟨rfl, rfl, rfl, Nat.le_refl _, fun _ _ => rfl⟩
        clear HW HB5 HG5 HM5
        go_wp2_with fail
        go_ret
        exact ⟨rfl, HB.out⟩
end Go.Proofs.Ytlpfedhehfbfeaa
