/- Texts laid together: DrawRows, DrawRlePut, RlBack, RnIterP, RpMem, ReImpl, ReImplTop, RlTop, RwsWalks, WiInts, WiRows, LawRle. -/
import Derived.Test.YtlpfedhehfbfeaaDrawRun
import Derived.Test.YtlpfedhehfbfeaaReTop
import Derived.Deep.AppendLies
import Derived.Test.YtlpfedhehfbfeaaRlMath
import Derived.Test.YtlpfedhehfbfeaaReMath
import Derived.Test.YtlpfedhehfbfeaaRnIterI
import Derived.Test.YtlpfedhehfbfeaaRtImpl
import Derived.Sort.CutIn
import Derived.Maps.OwnIn
import Derived.Test.YtlpfedhehfbfeaaRlWork
import Derived.Test.YtlpfedhehfbfeaaRlNew
import Derived.Test.YtlpfedhehfbfeaaMarkFrom
import Derived.Test.YtlpfedhehfbfeaaIntsWalks
import Derived.Test.YtlpfedhehfbfeaaRowCode
/- Rows drawn. -/
namespace Go.Proofs.Ytlpfedhehfbfeaa
open Go.RowKit

theorem info_ints : (Try.prog.info? 26).map (fun i => (i.zero, i.size, i.bytes)) = some (some (.slice none 0 0), 1, 24) := by kernel_rfl

/-- a row: where it lies, how many there is room for, what it is -/
abbrev Rw := Option Addr × Nat × List Int
def Rw.val (r : Rw) : Value := .slice r.1 r.2.2.length r.2.1
/-- rows of a call's own, each for itself -/
def Own2 (w : World) (lo : Nat) (rs : List Rw) : Prop := (∀ r ∈ rs, OwnI w lo (Rw.val r) r.2.2.length r.2.2) ∧ rs.Pairwise (fun r s => (Rw.val r).ownBlock = none ∨ (Rw.val r).ownBlock ≠ (Rw.val s).ownBlock)
def OwnR (w : World) (lo : Nat) (v : Value) (n : Nat) (rs : List Rw) : Prop := w.ownsRow lo 26 1 v n (rs.map Rw.val) ∧ Own2 w lo rs
theorem OwnR.len {w : World} {lo n : Nat} {v : Value} {rs : List Rw} (h : OwnR w lo v n rs) : rs.length = n := by
  have := h.1.1; rw [List.length_map, Nat.mul_one] at this; exact this
theorem OwnR.same {w w' : World} {lo n : Nat} {v : Value} {rs : List Rw} (h : OwnR w lo v n rs) (hk : ∀ k, k < w.heap.size → lo ≤ k → w'.heap[k]? = w.heap[k]?) : OwnR w' lo v n rs := by
  refine ⟨⟨h.1.1, ?_⟩, fun r hr => (h.2.1 r hr).same hk, h.2.2⟩
  rcases h.1.2 with h2 | ⟨g, cap, cur, hv, hg, hh, r⟩
  · exact .inl h2
  · exact .inr ⟨g, cap, cur, hv, hg, (hk g (Array.getElem?_eq_some_iff.1 hh).1 hg).trans hh, r⟩
theorem OwnR.only {w w' : World} {lo C n : Nat} {v : Value} {rs : List Rw} (h : OwnR w lo v n rs) (ho : Only C w w') (hC : C < lo) : OwnR w' lo v n rs := h.same (fun k hk hB => ho.rest k hk (by omega))
theorem OwnR.below {w w' : World} {lo n : Nat} {v : Value} {rs : List Rw} (h : OwnR w lo v n rs) (hb : Below w.heap.size w w') : OwnR w' lo v n rs := h.same (fun k hk _ => hb.block k hk)
theorem OwnR.shape {w : World} {lo n : Nat} {v : Value} {rs : List Rw} (h : OwnR w lo v n rs) : ∃ a c, v = .slice a n c ∧ n ≤ c := by
  rcases h.1.2 with ⟨rfl, rfl⟩ | ⟨g, cap, cur, rfl, _, _, h1, _⟩
  · exact ⟨none, 0, rfl, Nat.le_refl _⟩
  · exact ⟨_, cap, rfl, h1⟩
theorem OwnR.rows {w : World} {lo n c : Nat} {a : Option Addr} {rs : List Rw} (h : OwnR w lo (.slice a n c) n rs) : Rows2 w a (rs.map (fun r => r.2.2)) := by
  have hl := h.len
  rcases h.1.2 with ⟨e, h0⟩ | ⟨g, cap, cur, e, _, hg, _⟩
  · cases e
    left
    rw [List.eq_nil_of_length_eq_zero (hl.trans h0)]; rfl
  · cases e
    refine .inr ⟨g, 0, rfl, (Array.getElem?_eq_some_iff.1 hg).1, fun i hi => ?_⟩
    rw [List.length_map] at hi
    simp only [List.getElem_map]
    have h1 := h.2.1 rs[i] (List.getElem_mem hi)
    refine ⟨rs[i].1, rs[i].2.1, ?_, own_ints h1, h1.cap'⟩
    rw [Nat.zero_add]
    have := World.ownsRow.cells h.1 (g := g) rfl i (Rw.val rs[i]) (by rw [List.getElem?_map, List.getElem?_eq_getElem hi]; rfl)
    rw [show (⟨g, 0, none⟩ : Addr).add i = ⟨g, i, none⟩ by simp [Addr.add]; try omega] at this
    exact this
theorem ownR_none (w : World) : OwnR (w.alloc (.cells #[] 26)) w.heap.size (.slice (some ⟨w.heap.size, 0, none⟩) 0 0) 0 [] :=
  ⟨⟨rfl, .inr ⟨w.heap.size, 0, #[], rfl, Nat.le_refl _, heap_alloc_new w _, Nat.le_refl _, Nat.zero_le _, rfl, rfl⟩⟩, fun _ h => by simp at h, List.Pairwise.nil⟩
/-- a row cut short -/
theorem OwnI.cut {w : World} {lo n c m : Nat} {a : Option Addr} {l : List Int} (h : OwnI w lo (.slice a n c) n l) (hm : m ≤ n) : OwnI w lo (.slice a m c) m (l.take m) := by
  refine ⟨by rw [intsV_len, List.length_take, h.len]; omega, ?_⟩
  rcases h.2 with ⟨e, h0⟩ | ⟨g, cap, cur, e, h1, h2, h3, h4, h5, h6⟩
  · cases e
    obtain rfl : m = 0 := by omega
    exact .inl ⟨rfl, rfl⟩
  · cases e
    refine .inr ⟨g, c, cur, rfl, h1, h2, by omega, h4, h5, ?_⟩
    have : intsV (l.take m) = (intsV l).take m := by unfold intsV; rw [List.map_take]
    rw [this, ← h6, List.take_take, Nat.mul_one, Nat.mul_one, Nat.min_eq_left hm]
/-- a row that is new, behind the others -/
theorem OwnR.more {w w0 w' : World} {lo n m c c0 g cap : Nat} {v : Value} {a : Option Addr} {l : List Int} {rs : List Rw} (h : OwnR w lo v n rs) (hl : OwnI w m (.slice a l.length c) l.length l) (hm : ∀ r ∈ rs, ∀ j, (Rw.val r).ownBlock = some j → j < m) (hlo : lo ≤ m) (hw : w0 = w.alloc (.cells #[.slice a l.length c] 26))
    (hown : w'.ownsRow lo 26 1 (.slice (some ⟨g, 0, none⟩) (n + 1) cap) (n + 1) (rs.map Rw.val ++ [.slice a l.length c])) (hg : w0.grownBy w' v.ownBlock) (_hc : c0 = c) : OwnR w' lo (.slice (some ⟨g, 0, none⟩) (n + 1) cap) (n + 1) (rs ++ [(a, c, l)]) := by
  have hl' : OwnI w lo (.slice a l.length c) l.length l := hl.lower hlo
  have hno : ∀ (u : Value) (z : Nat) (q : List Int), OwnI w lo u z q → u.ownBlock = none ∨ u.ownBlock ≠ v.ownBlock := fun u z q hu => by
    rcases h.1.2 with ⟨rfl, _⟩ | ⟨g1, cap1, cur1, rfl, _, hg1, _⟩
    · by_cases e : u.ownBlock = none
      · exact .inl e
      · exact .inr e
    · rcases hu.2 with ⟨rfl, _⟩ | ⟨g2, cap2, cur2, rfl, _, hg2, _⟩
      · exact .inl rfl
      · refine .inr (fun e => ?_)
        have e' : g2 = g1 := by simpa [Value.ownBlock] using e
        rw [e', hg1] at hg2
        cases hg2
  have hkeep : ∀ (u : Value) (z : Nat) (q : List Int), OwnI w lo u z q → OwnI w' lo u z q := fun u z q hu => by
    have h1 : OwnI w0 lo u z q := by rw [hw]; exact hu.alloc _
    exact World.ownsRow.kept (show World.ownsRow _ _ _ _ _ _ _ from h1) hg (hno u z q hu)
  refine ⟨by rw [List.map_append]; exact hown, fun r hr => ?_, ?_⟩
  · rcases List.mem_append.1 hr with hr | hr
    · exact hkeep _ _ _ (h.2.1 r hr)
    · rw [List.mem_singleton] at hr
      subst hr
      exact hkeep _ _ _ hl'
  · rw [List.pairwise_append]
    refine ⟨h.2.2, List.pairwise_singleton _ _, fun r hr s hs => ?_⟩
    rw [List.mem_singleton] at hs
    subst hs
    by_cases e : (Rw.val r).ownBlock = none
    · exact .inl e
    · refine .inr (fun e2 => ?_)
      obtain ⟨j, hj⟩ := Option.ne_none_iff_exists'.1 e
      have h1 := hm r hr j hj
      have h2 := World.ownsRow.lt (show World.ownsRow _ _ _ _ _ _ _ from hl) j (e2.symm.trans hj)
      omega

theorem wpList_appR {ops : Array Oper} {rest : List Oper} {o : Oper} {ac : Act} {Q : Exit → Act → World → Prop} (w0 : World) (hgd : o.guard = none) (s x : Operand)
    (ho : o.op = .call { callee := .builtin .append, args := #[s, x], argTypes := #[23, 23] })
    (base : Nat) (v : Value) (n m c : Nat) (a : Option Addr) (l : List Int) (rs : List Rw) (hs : ac.eval s = v) (z : Nat) (hz : l.length = z) (hown : OwnR w0 base v n rs) (hl : OwnI w0 m (.slice a z c) z l) (hm : ∀ r ∈ rs, ∀ j, (Rw.val r).ownBlock = some j → j < m) (hlo : base ≤ m)
    (hx : ac.eval x = .slice (some ⟨w0.heap.size, 0, none⟩) 1 1) (hn : n ≤ 2000000) (hb : base ≤ w0.heap.size)
    (h : ∀ g cap w', OwnR w' base (.slice (some ⟨g, 0, none⟩) (n + 1) cap) (n + 1) (rs ++ [(a, c, l)]) → Below base w0 w' → wpList Try.prog ops Q rest (ac.put o.dst (.slice (some ⟨g, 0, none⟩) (n + 1) cap)) w') :
    wpList Try.prog ops Q (o :: rest) ac (w0.alloc (.cells #[.slice a z c] 26)) := by
  subst hz
  obtain ⟨i0, hi0, hz0, hz1, hz2⟩ := info_parts info_ints
  refine wpList_append_lies _ hgd s x _ ho base 26 i0 (.slice none 0 0) 1 24 Try.underlying23 hi0 hz0 hz1 hz2 rfl (by decide) v n (rs.map Rw.val) hs (World.ownsRow.alloc (show World.ownsRow _ _ _ _ _ _ _ from hown.1) _) ⟨w0.heap.size, 0, none⟩ 1 1 [.slice a l.length c] hx rfl (World.news_of_block (heap_alloc_new _ _)) (fun u hu => by simp at hu; subst hu; rfl) (by decide) (by unfold maxLen; omega) (by omega) (Nat.le_trans hb (by simp)) _ rfl ?_
  intro g cap w' hown' hg hat hlt
  refine h g cap w' (OwnR.more (c0 := c) hown hl hm hlo rfl hown' hg rfl) ?_
  exact ((Below.refl _ _).alloc hb _).trans ((Below.refl _ _).grown hg (Nat.le_trans hb (by simp)) (fun j hj => (World.ownsRow.lt hown.1 j hj).1))

theorem OwnR.lo {w : World} {lo n : Nat} {v : Value} {rs : List Rw} (h : OwnR w lo v n rs) : ∀ r ∈ rs, ∀ j, (Rw.val r).ownBlock = some j → j < w.heap.size := fun r hr j hj => (World.ownsRow.lt (show World.ownsRow _ _ _ _ _ _ _ from h.2.1 r hr) j hj).2

def RowsDrawn (B p : Nat) (w : World) (e : Ending) (w' : World) : Prop := (∃ (v : Value) (n W : Nat) (rs : List Rw), e = .returned v ∧ OwnR w' w.heap.size v n rs ∧ n ≤ 4 ∧ W ≤ 6 ∧ ∀ r ∈ rs, r.2.2.length = W) ∧ (∃ q, q ≤ p + 300 ∧ RdAt w' B q) ∧ Only B w w'

set_option maxHeartbeats 4000000 in
set_option maxRecDepth 20000 in
theorem l14Rows_any (B p : Nat) (w : World) (hr : RdAt w B p) (hp : p ≤ 500) :
    Calls Try.prog 21 #[.pointer (some ⟨B, 0, none⟩)] w (RowsDrawn B p w) := by
  obtain ⟨i0, hi0, hz0, hz1, hz2⟩ := info_parts info_ints
  have hlt0 := hr.lt
  have HE : Hid (OwnR _ _ _ 0 []) := ownR_none w
  have HR0 : Hid (RdAt (w.alloc (.cells #[] 26)) B p) := hr.alloc _
  have HO0 : Hid (Only B w (w.alloc (.cells #[] 26))) := (Only.refl B w).alloc hlt0 _
  clear hr
  go_enter Try.func21, Try.ntmps21
  go_wp2_with fail
  refine (pick_named B p _ _ HR0.out (by omega) (by omega) (by omega)).mono ?_
  rintro e w2 ⟨W, rfl, hW, hR2, hO2, hs2⟩
  have HD2 : Hid (OwnR w2 w.heap.size _ 0 []) := HE.out.only hO2 hlt0
  have HR2 : Hid (RdAt w2 B (p + 1)) := hR2
  have HO2 : Hid (Only B w w2) := HO0.out.trans hO2
  have hW6 : W ≤ 6 := by omega
  clear HE HR0 HO0 hO2 hs2 hR2 hW
  go_wp2_with fail
  refine (pick_named B (p + 1) _ _ HR2.out (by omega) (by omega) (by omega)).mono ?_
  rintro e w3 ⟨k0, rfl, hk0, hR3, hO3, hs3⟩
  have HD3 : Hid (OwnR w3 w.heap.size _ 0 []) := HD2.out.only hO3 hlt0
  have HR3 : Hid (RdAt w3 B (p + 1 + 1)) := hR3
  have HO3 : Hid (Only B w w3) := HO2.out.trans hO3
  have hk4 : k0 ≤ 4 := by omega
  clear HD2 HR2 HO2 hO3 hs3 hR3 hk0
  go_wp2_with fail
  go_loopw [3, 5] (fun v i wr => ∃ (k q n : Nat) (rs : List Rw), k ≤ 4 ∧ i = .int .i64 k ∧ n + k ≤ 4 ∧ q + 50 * k ≤ p + 250 ∧ Hid (RdAt wr B q ∧ OwnR wr w.heap.size v n rs ∧ Only B w wr ∧ ∀ r ∈ rs, r.2.2.length = W)) (fun _ i _ => (intOf i).toNat)
  case atStart => exact ⟨k0, p + 1 + 1, 0, [], hk4, rfl, by omega, by omega, HR3.out, HD3.out, HO3.out, fun _ h => by simp at h⟩
  case round =>
    obtain ⟨k, q, n, rs, hk, rfl, hnk, hqk, HA⟩ := hrel
    clear HR3 HD3 HO3
    obtain ⟨a3, c3, e3, hnc⟩ := HA.out.2.1.shape
    subst e3
    by_cases hk0 : 0 < k
    · have hki : (0 : Int) < (k : Int) := by omega
      have hltr : B < wr.heap.size := HA.out.1.lt
      have HN : Hid (Calls Try.prog 40 #[.pointer (some ⟨B, 0, none⟩), .int .i64 5] wr fun e w' => (∃ (v : Value) (n : Nat) (l : List Int), e = .returned v ∧ OwnI w' wr.heap.size v n l ∧ n ≤ 300) ∧ (∃ q', q' ≤ q + 40 ∧ RdAt w' B q') ∧ Only B wr w') := l14Nums_any B q 5 wr HA.out.1 (by omega) (by omega) (by omega)
      go_wp2_with fail
      refine HN.out.mono ?_
      rintro e w4 ⟨⟨v4, n4, l4, rfl, hD4, hn4⟩, ⟨q4, hq4, hR4⟩, hO4⟩
      have HO4 : Hid (Only B wr w4) := hO4
      have HR4 : Hid (RdAt w4 B q4) := hR4
      have HD4 : Hid (OwnI w4 wr.heap.size v4 n4 l4) := hD4
      clear HN hD4 hR4 hO4
      generalize hgw : wr = ow at *
      clear hgw
      go_wp2_with fail
      go_loopw [6] (fun v wr => ∃ (q2 n2 : Nat) (l2 : List Int), n2 ≤ 300 + W ∧ q2 + (W - n2) ≤ q4 + W ∧ Hid (RdAt wr B q2 ∧ OwnI wr ow.heap.size v n2 l2 ∧ Only B ow wr) ∧ (∃ a c, v = .slice a n2 c ∧ n2 ≤ c)) (fun v _ => W - (match v with | .slice _ n _ => n | _ => 0))
      case atStart =>
        obtain ⟨a5, c5, e5, _⟩ := HD4.out.owns
        exact ⟨q4, n4, l4, by omega, by omega, ⟨HR4.out, HD4.out, HO4.out⟩, ⟨a5, c5, e5, by subst e5; exact HD4.out.cap'⟩⟩
      case round =>
        obtain ⟨q2, n2, l2, hn2, hq2, HC, ⟨a5, c5, e5, hcc5⟩⟩ := hrel
        clear HD4 HR4 HO4
        subst e5
        have hsz : ow.heap.size ≤ wr.heap.size := HC.out.2.2.below.size
        by_cases hlt : n2 < W
        · have hni : (n2 : Int) < (W : Int) := by omega
          go_wp2_with fail
          refine (pick_named B q2 _ _ HC.out.1 (by omega) (by omega) (by omega)).mono ?_
          rintro e w5 ⟨x, rfl, hx, hR5, hO5, hs5⟩
          have HC5 : Hid (RdAt w5 B (q2 + 1) ∧ OwnI w5 ow.heap.size (.slice a5 n2 c5) n2 l2 ∧ Only B ow w5) := ⟨hR5, HC.out.2.1.only hO5 hltr, HC.out.2.2.trans hO5⟩
          have hsz5 : ow.heap.size ≤ w5.heap.size := HC5.out.2.2.below.size
          clear HC hR5 hO5 hs5 hsz
          go_wp2_with (at_builtin; refine wpList_app1 w5 (by rfl) _ _ (by rfl) ow.heap.size _ n2 l2 (x : Int) (by rfl) HC5.out.2.1 (by rfl) (by omega) hsz5 ?_)
          intro g cap w6 hown6 hgr
          have hb6 : Below ow.heap.size w5 w6 := hgr.below (Below.refl _ _) (Nat.le_refl _) hsz5
          have H6 : Hid (RdAt w6 B (q2 + 1) ∧ OwnI w6 ow.heap.size (.slice (some ⟨g, 0, none⟩) (n2 + 1) cap) (n2 + 1) (l2 ++ [(x : Int)]) ∧ Only B ow w6) := ⟨HC5.out.1.kept (hb6.mono hltr), hown6, HC5.out.2.2.grown hltr hb6⟩
          have hcp := hown6.cap'
          clear hown6 hgr hb6 HC5 hsz5
          go_wp2_with fail
          go_roundw
          case rel => exact ⟨q2 + 1, n2 + 1, _, by omega, by omega, H6, ⟨_, _, rfl, hcp⟩⟩
          case measure => simp; omega
        · have hni : ¬ (n2 : Int) < (W : Int) := by omega
          have hWc : W ≤ c5 := by omega
          have hWl : (l2.take W).length = W := by rw [List.length_take, HC.out.2.1.len]; omega
          have HRW : Hid (OwnI wr ow.heap.size (.slice a5 W c5) W (l2.take W)) := HC.out.2.1.cut (by omega)
          have HRR : Hid (OwnR wr w.heap.size (.slice a3 n c3) n rs) := HA.out.2.1.only HC.out.2.2 hlt0
          have HLO : Hid (∀ r ∈ rs, ∀ j, (Rw.val r).ownBlock = some j → j < ow.heap.size) := HA.out.2.1.lo
          have hww : w.heap.size ≤ ow.heap.size := HA.out.2.2.1.below.size
          have HWL : Hid ((l2.take W).length = W) := hWl
          clear hWl
          go_wp2_with (at_builtin; refine wpList_appR wr (by rfl) _ _ (by rfl) w.heap.size _ n ow.heap.size c5 a5 (l2.take W) rs (by rfl) W HWL.out HRR.out HRW.out HLO.out hww (by rfl) (by omega) (Nat.le_trans hww hsz) ?_)
          intro g cap w6 hown6 hb6
          have H6 : Hid (RdAt w6 B q2 ∧ OwnR w6 w.heap.size (.slice (some ⟨g, 0, none⟩) (n + 1) cap) (n + 1) (rs ++ [(a5, c5, l2.take W)]) ∧ Only B w w6 ∧ ∀ r ∈ rs ++ [(a5, c5, l2.take W)], r.2.2.length = W) :=
            ⟨HC.out.1.kept (hb6.mono hlt0), hown6, (HA.out.2.2.1.trans HC.out.2.2).grown hlt0 hb6, fun r hr => by
              rcases List.mem_append.1 hr with hr | hr
              · exact HA.out.2.2.2 r hr
              · rw [List.mem_singleton] at hr; subst hr; exact HWL.out⟩
          clear hown6 hb6 HC HA HRW HRR HLO HWL hww
          go_wp2_with fail
          go_roundw
          case rel => exact ⟨k - 1, q2, n + 1, _, by omega, by go_num, by omega, by omega, H6⟩
          case measure => simp [intOf]; omega
    · have hki : ¬ (0 : Int) < (k : Int) := by omega
      go_wp2_with fail
      go_ret
      exact ⟨⟨_, n, W, rs, rfl, HA.out.2.1, by omega, hW6, HA.out.2.2.2⟩, ⟨q, by omega, HA.out.1⟩, HA.out.2.2.1⟩
end Go.Proofs.Ytlpfedhehfbfeaa

/- Rows drawn of a code. -/
namespace Go.Proofs.Ytlpfedhehfbfeaa
open Go.RowKit

/-- what is drawn: rows of one width, if they are right -/
def RowsOut (w : World) (e : Ending) (w' : World) : Prop :=
  (∃ (a : Option Addr) (n c W : Nat) (ls : List (List Int)), e = .returned (.slice a n c) ∧ Rows2 w' a ls ∧ ls.length = n ∧ n ≤ 4 ∧ W ≤ 6 ∧ (∀ l ∈ ls, l.length ≤ 7) ∧ (Re.ok ls = true → ∀ l ∈ ls, l.length = W)) ∧ Below w.heap.size w w'
theorem rowsOut_mk {w w' : World} {e : Ending} (a : Option Addr) (n c W : Nat) (ls : List (List Int)) (h1 : e = .returned (.slice a n c)) (h2 : Rows2 w' a ls) (h3 : ls.length = n) (h4 : n ≤ 4) (h5 : W ≤ 6) (h6 : ∀ l ∈ ls, l.length ≤ 7) (h7 : Re.ok ls = true → ∀ l ∈ ls, l.length = W) (h8 : Below w.heap.size w w') : RowsOut w e w' := ⟨⟨a, n, c, W, ls, h1, h2, h3, h4, h5, h6, h7⟩, h8⟩

theorem ok_256 (l : List Int) (ls : List (List Int)) : Re.ok ((l ++ [256]) :: ls) = true → False := by
  intro h
  unfold Re.ok at h
  simp only [Bool.and_eq_true, List.all_eq_true] at h
  have h1 := h.2 _ (List.mem_cons_self)
  rw [Re.okRow_no l.length (by simp) (by simp)] at h1
  exact absurd h1 (by decide)

theorem OwnR.opened {w : World} {lo n c : Nat} {a : Option Addr} {rs : List Rw} (h : OwnR w lo (.slice a n c) n rs) (hn : 0 < n) : ∃ R r0 rs', rs = r0 :: rs' ∧ a = some ⟨R, 0, none⟩ ∧ lo ≤ R ∧ w.cell? ⟨R, 0, none⟩ = some (Rw.val r0) ∧ OwnI w lo (Rw.val r0) r0.2.2.length r0.2.2 := by
  have hl := h.len
  match rs, h with
  | [], h => simp at hl; omega
  | r0 :: rs', h =>
    rcases h.1.2 with ⟨e, h0⟩ | ⟨R, cap, cur, e, hR, hg, _⟩
    · omega
    · cases e
      refine ⟨R, r0, rs', rfl, rfl, hR, ?_, h.2.1 r0 (by simp)⟩
      have := World.ownsRow.cells h.1 (g := R) rfl 0 (Rw.val r0) (by simp)
      simpa [Addr.add] using this
theorem OwnR.first {w w6 : World} {lo n c R g cap : Nat} {r0 : Rw} {rs : List Rw} (h : OwnR w lo (.slice (some ⟨R, 0, none⟩) n c) n (r0 :: rs)) (hg : Grew lo w w6 (Rw.val r0) g) (hown : OwnI w6 lo (.slice (some ⟨g, 0, none⟩) (r0.2.2.length + 1) cap) (r0.2.2.length + 1) (r0.2.2 ++ [256])) :
    w6.cell? ⟨R, 0, none⟩ = some (Rw.val r0) ∧ w6.frozen? ⟨R, 0, none⟩ = false ∧ Rows2 (w6.setCell ⟨R, 0, none⟩ (.slice (some ⟨g, 0, none⟩) (r0.2.2.length + 1) cap)) (some ⟨R, 0, none⟩) ((r0.2.2 ++ [256]) :: rs.map (fun r : Rw => r.2.2)) := by
  have hl := h.len
  rcases h.1.2 with ⟨e, h0⟩ | ⟨R', cap', cur, e, hR, hh, _⟩
  · cases e
  cases e
  have hRlt : R < w.heap.size := (Array.getElem?_eq_some_iff.1 hh).1
  have hno : ∀ (W : World) (u : Value) (z : Nat) (q : List Int), W.heap[R]? = some (.cells cur 26 (0, 0)) → OwnI W lo u z q → u.ownBlock ≠ some R := fun W u z q hW hu => by
    rcases hu.2 with ⟨rfl, _⟩ | ⟨g2, cap2, cur2, rfl, _, hg2, _⟩
    · simp [Value.ownBlock]
    · intro e
      have e' : g2 = R := by simpa [Value.ownBlock] using e
      rw [e', hW] at hg2
      cases hg2
  have hR6 : w6.heap[R]? = some (.cells cur 26 (0, 0)) := (hg.block R hRlt (fun e => hno w _ _ _ hh (h.2.1 r0 (by simp)) e.symm)).trans hh
  have hRlt6 : R < w6.heap.size := (Array.getElem?_eq_some_iff.1 hR6).1
  have hcell : ∀ i, w6.cell? ⟨R, i, none⟩ = w.cell? ⟨R, i, none⟩ := fun i => World.cell?_of_block (w := w) (a := ⟨R, i, none⟩) (hR6.trans hh.symm)
  have hvals : ∀ i (hi : i < (r0 :: rs).length), w.cell? ⟨R, i, none⟩ = some (Rw.val (r0 :: rs)[i]) := fun i hi => by
    have := World.ownsRow.cells h.1 (g := R) rfl i (Rw.val (r0 :: rs)[i]) (by rw [List.getElem?_map, List.getElem?_eq_getElem hi]; rfl)
    rw [show (⟨R, 0, none⟩ : Addr).add i = ⟨R, i, none⟩ by simp [Addr.add]; try omega] at this
    exact this
  refine ⟨(hcell 0).trans (hvals 0 (by simp)), by simp [World.frozen?, hR6], ?_⟩
  have hset : ∀ (u : Value) (z : Nat) (q : List Int), OwnI w6 lo u z q → OwnI (w6.setCell ⟨R, 0, none⟩ (.slice (some ⟨g, 0, none⟩) (r0.2.2.length + 1) cap)) lo u z q := fun u z q hu =>
    World.ownsRow.kept (show World.ownsRow _ _ _ _ _ _ _ from hu) (grownBy_setCell' w6 R _) (.inr (hno w6 u z q hR6 hu))
  refine .inr ⟨R, 0, rfl, by rw [World.size_setCell]; exact hRlt6, fun i hi => ?_⟩
  rw [Nat.zero_add]
  match i, hi with
  | 0, _ =>
    have h1 := hset _ _ _ hown
    refine ⟨some ⟨g, 0, none⟩, cap, ?_, own_ints h1, ?_⟩
    · rw [World.cell?_setCell_same _ _ _ ((hcell 0).trans (hvals 0 (by simp)))]
      simp
    · simp; exact h1.cap'
  | i + 1, hi =>
    have hi' : i < rs.length := by simpa using hi
    have hr : rs[i] ∈ r0 :: rs := List.mem_cons_of_mem _ (List.getElem_mem hi')
    have h1 := h.2.1 _ hr
    have hap := (List.pairwise_cons.1 h.2.2).1 rs[i] (List.getElem_mem hi')
    have h2 : OwnI w6 lo (Rw.val rs[i]) rs[i].2.2.length rs[i].2.2 := by
      refine ⟨h1.1, ?_⟩
      rcases h1.2 with h3 | ⟨g3, cap3, cur3, e3, hlo3, hg3, r3⟩
      · exact .inl h3
      · refine .inr ⟨g3, cap3, cur3, e3, hlo3, (hg.block g3 (Array.getElem?_eq_some_iff.1 hg3).1 (fun e => ?_)).trans hg3, r3⟩
        rcases hap with hap | hap
        · rw [hap] at e; cases e
        · apply hap
          rw [← e, e3]; rfl
    have h4 := hset _ _ _ h2
    refine ⟨rs[i].1, rs[i].2.1, ?_, ?_, ?_⟩
    · rw [World.cell?_setCell_other _ _ _ _ (fun e => by have := congrArg Addr.off e; simp at this), hcell, hvals (i + 1) (by simpa using hi)]
      simp [Rw.val]
    · simpa using own_ints h4
    · simpa using h4.cap'

set_option maxHeartbeats 4000000 in
set_option maxRecDepth 20000 in
theorem drawRlePut_any (a : Option Addr) (len cap : Nat) (w : World) (h : Code8 w a len cap) :
    Calls Try.prog 7 #[.slice a len cap] w (RowsOut w) := by
  have HOP : Hid (Calls Try.prog 20 #[.slice a len cap] w fun e w' => e = .returned (.pointer (some ⟨w.heap.size, 0, none⟩)) ∧ RdAt w' w.heap.size 0 ∧ Below w.heap.size w w') := open_any a len cap w h
  clear h
  go_enter Try.func7, Try.ntmps7
  go_wp2_with fail
  refine HOP.out.mono ?_
  rintro e w1 ⟨rfl, hR1, b1⟩
  clear HOP
  have HR1 : Hid (RdAt w1 w.heap.size 0) := hR1
  have HB1 : Hid (Below w.heap.size w w1) := b1
  clear hR1 b1
  generalize hBB : w.heap.size = B at *
  go_wp2_with fail
  refine (l14Rows_any B 0 _ HR1.out (by omega)).mono ?_
  rintro e w2 ⟨⟨v, n, W, rs, rfl, hD, hn, hW, hrs⟩, ⟨q, hq, hR2⟩, hO2⟩
  obtain ⟨a2, c2, e2, hnc⟩ := hD.shape
  subst e2
  have hlt1 : B < w1.heap.size := HR1.out.lt
  have HR2 : Hid (RdAt w2 B q) := hR2
  have HB2 : Hid (Below B w w2) := HB1.out.trans hO2.below
  have HD2 : Hid (OwnR w2 w1.heap.size (.slice a2 n c2) n rs) := hD
  have HRS : Hid (∀ r ∈ rs, r.2.2.length = W) := hrs
  have hlt2 : w1.heap.size ≤ w2.heap.size := hO2.below.size
  clear hD hR2 hO2 HR1 HB1 hrs
  have hend : ∀ w' : World, OwnR w' w1.heap.size (.slice a2 n c2) n rs → Below w.heap.size w w' → RowsOut w (.returned (.slice a2 n c2)) w' := fun w' h1 h2 =>
    rowsOut_mk a2 n c2 W (rs.map (fun r : Rw => r.2.2)) rfl h1.rows (by rw [List.length_map]; exact h1.len) hn hW (fun l hl => by
      obtain ⟨r, hr, rfl⟩ := List.mem_map.1 hl
      have := HRS.out r hr; omega) (fun _ l hl => by
      obtain ⟨r, hr, rfl⟩ := List.mem_map.1 hl
      exact HRS.out r hr) h2
  have HEND : Hid (∀ w' : World, OwnR w' w1.heap.size (.slice a2 n c2) n rs → Below w.heap.size w w' → RowsOut w (.returned (.slice a2 n c2)) w') := hend
  clear hend
  by_cases hn0 : 0 < n
  · have hni : (0 : Int) < (n : Int) := by omega
    go_wp2_with fail
    refine (pick_named B q _ _ HR2.out (by omega) (by omega) (by omega)).mono ?_
    rintro e w4 ⟨x, rfl, hx, hR4, hO4, -⟩
    have HB4 : Hid (Below w.heap.size w w4) := by rw [hBB]; exact HB2.out.trans hO4.below
    have HD4 : Hid (OwnR w4 w1.heap.size (.slice a2 n c2) n rs) := HD2.out.only hO4 hlt1
    have hlt4 : w1.heap.size ≤ w4.heap.size := Nat.le_trans hlt2 hO4.below.size
    clear hR4 hO4 HR2 HB2 HD2
    by_cases hx0 : x = 0
    · subst hx0
      obtain ⟨R, r0, rs', hrs', rfl, hRlo, hcell, hown⟩ := HD4.out.opened hn0
      obtain ⟨a0, c0, l0⟩ := r0
      have hl0 : l0.length = W := HRS.out (a0, c0, l0) (by rw [hrs']; simp)
      have hcell' : w4.cell? ⟨R, 0, none⟩ = some (.slice a0 W c0) := by rw [hcell]; show some (Value.slice a0 l0.length c0) = _; rw [hl0]
      have HOW : Hid (OwnI w4 w1.heap.size (.slice a0 W c0) W l0) := by
        have h1 : OwnI w4 w1.heap.size (.slice a0 l0.length c0) l0.length l0 := hown
        rw [hl0] at h1; exact h1
      have HL0 : Hid (l0.length = W) := hl0
      have HRR : Hid (rs = (a0, c0, l0) :: rs') := hrs'
      have hRB : R ≠ B := by omega
      have hRltW : R < w4.heap.size := World.block_lt_of_cell? _ _ hcell
      clear hcell hown hl0 hrs' HEND
      go_wp2_with (at_builtin; refine wpList_app1 w4 (by rfl) _ _ (by rfl) w1.heap.size _ W l0 256 (by rfl) HOW.out (by rfl) (by omega) hlt4 ?_)
      intro g cap w6 hown6 hgr
      have hfi := OwnR.first (w6 := w6) (g := g) (cap := cap) (r0 := (a0, c0, l0)) (rs := rs') (by rw [← HRR.out]; exact HD4.out) (by show Grew _ _ _ (.slice a0 l0.length c0) _; rw [HL0.out]; exact hgr) (by show OwnI _ _ (.slice _ (l0.length + 1) _) (l0.length + 1) (l0 ++ [256]); rw [HL0.out]; exact hown6)
      obtain ⟨f1, f2, f3⟩ := hfi
      have f1' : w6.cell? ⟨R, 0, none⟩ = some (.slice a0 W c0) := by rw [f1]; show some (Value.slice a0 l0.length c0) = _; rw [HL0.out]
      have HRW : Hid (Rows2 (w6.setCell ⟨R, 0, none⟩ (.slice (some ⟨g, 0, none⟩) (W + 1) cap)) (some ⟨R, 0, none⟩) ((l0 ++ [256]) :: rs'.map (fun r : Rw => r.2.2))) := by
        have h1 : Rows2 (w6.setCell ⟨R, 0, none⟩ (.slice (some ⟨g, 0, none⟩) (l0.length + 1) cap)) (some ⟨R, 0, none⟩) ((l0 ++ [256]) :: rs'.map (fun r : Rw => r.2.2)) := f3
        rw [HL0.out] at h1; exact h1
      have hBw : B ≤ w1.heap.size := Nat.le_of_lt hlt1
      have HB6 : Hid (Below w.heap.size w (w6.setCell ⟨R, 0, none⟩ (.slice (some ⟨g, 0, none⟩) (W + 1) cap))) := by
        rw [hBB] at HB4 ⊢
        exact (hgr.below HB4.out hBw (by omega)).setCell (p := ⟨R, 0, none⟩) (by show B ≤ R; omega) _
      have HLN : Hid (((l0 ++ [256]) :: rs'.map (fun r : Rw => r.2.2)).length = n) := by
        show _ = _
        have := HD4.out.len
        rw [HRR.out] at this
        simpa using this
      have HLL : Hid (∀ l ∈ (l0 ++ [256]) :: rs'.map (fun r : Rw => r.2.2), l.length ≤ 7) := fun l hl => by
        rcases List.mem_cons.1 hl with rfl | hl
        · rw [List.length_append, HL0.out]; simp; omega
        · obtain ⟨r, hr, rfl⟩ := List.mem_map.1 hl
          have := HRS.out r (by rw [HRR.out]; simp [hr]); omega
      clear f1 f3 hgr hown6 HOW hcell'
      go_wp2_with fail
      go_ret
      exact rowsOut_mk _ n c2 W _ rfl HRW.out HLN.out hn hW HLL.out (fun h => (ok_256 _ _ h).elim) HB6.out
    · have hxi : ¬ (x : Int) = 0 := by omega
      go_wp2_with fail
      go_ret
      exact HEND.out _ HD4.out HB4.out
  · have hni : ¬ (0 : Int) < (n : Int) := by omega
    have hHB : Below w.heap.size w w2 := by rw [hBB]; exact HB2.out
    have HHB : Hid (Below w.heap.size w w2) := hHB
    clear hHB
    go_wp2_with fail
    go_ret
    exact HEND.out _ HD2.out HHB.out
end Go.Proofs.Ytlpfedhehfbfeaa

/- Rows that were packed come out as they went in (mathematics). -/
namespace Go.Proofs.Ytlpfedhehfbfeaa
namespace Rl

theorem byteAt_list (L : List UInt8) (i : Nat) (h : i < L.length) : byteAt ⟨L.toArray⟩ i = L[i].toNat := by
  unfold byteAt
  simp [h]
theorem size_list (L : List UInt8) : (ByteArray.mk L.toArray).size = L.length := by show L.toArray.size = _; simp
theorem drop_get {L R : List UInt8} {A : Nat} {c d : UInt8} (h : L.drop A = c :: d :: R) : A + 2 ≤ L.length ∧ byteAt ⟨L.toArray⟩ A = c.toNat ∧ byteAt ⟨L.toArray⟩ (A + 1) = d.toNat ∧ L.drop (A + 2) = R := by
  have hl := congrArg List.length h
  rw [List.length_drop] at hl
  simp at hl
  have h0 : L[A]? = some c := by have := congrArg (·[0]?) h; simpa using this
  have h1 : L[A + 1]? = some d := by have := congrArg (·[1]?) h; simpa using this
  have hA : A < L.length := by omega
  have hA1 : A + 1 < L.length := by omega
  refine ⟨by omega, ?_, ?_, ?_⟩
  · rw [byteAt_list L A hA]
    rw [List.getElem?_eq_getElem hA] at h0
    rw [Option.some.inj h0]
  · rw [byteAt_list L (A + 1) hA1]
    rw [List.getElem?_eq_getElem hA1] at h1
    rw [Option.some.inj h1]
  · have := congrArg (List.drop 2) h
    rw [List.drop_drop] at this
    simpa using this

def fillG (g : Grid) (y x z : Nat) (b : Int) : Grid := fun y' x' => if y' = y ∧ x ≤ x' ∧ x' < x + z then b else g y' x'
theorem puts_rep {W H : Nat} (b : Int) : ∀ (z : Nat) (g : Grid) (x y : Nat), y < H → x + z ≤ W → puts W H (List.replicate z b) g x y = some (fillG g y x z b, x + z)
  | 0, g, x, y, _, _ => by
    rw [List.replicate_zero, puts_nil]
    congr 2
    funext y' x'
    unfold fillG
    rw [if_neg (by omega)]
  | z + 1, g, x, y, hy, hx => by
    rw [List.replicate_succ, puts_yes ⟨hy, by omega⟩, puts_rep b z _ _ _ hy (by omega)]
    congr 2
    · funext y' x'
      unfold fillG upd
      by_cases h1 : y' = y ∧ x + 1 ≤ x' ∧ x' < x + 1 + z
      · rw [if_pos h1, if_pos (by omega)]
      · rw [if_neg h1]
        by_cases h2 : y' = y ∧ x' = x
        · rw [if_pos h2, if_pos (by omega)]
        · rw [if_neg h2, if_neg (by omega)]
    · omega

theorem step_run {L R : List UInt8} {W H A : Nat} {c d : UInt8} {g : Grid} {x y : Nat} (h : L.drop A = c :: d :: R) (hc : 0 < c.toNat) (hy : y < H) (hx : x + c.toNat ≤ W) : step ⟨L.toArray⟩ W H A g x y = some (true, A + 2, fillG g y x c.toNat ((d.toNat : Nat) : Int), x + c.toNat, y) := by
  obtain ⟨h1, h2, h3, _⟩ := drop_get h
  unfold step
  rw [size_list, if_pos h1, h2, h3, if_pos hc, puts_rep _ _ _ _ _ hy hx]
  rfl
theorem step_next {L R : List UInt8} {W H A : Nat} {g : Grid} {x y : Nat} (h : L.drop A = 0 :: 0 :: R) : step ⟨L.toArray⟩ W H A g x y = some (true, A + 2, g, 0, y + 1) := by
  obtain ⟨h1, h2, h3, _⟩ := drop_get h
  unfold step
  rw [size_list, if_pos h1, h2, h3, if_neg (by decide), if_pos (by decide)]
theorem step_fin {L : List UInt8} {W H A : Nat} {g : Grid} {x y : Nat} (h : L.drop A = [0, 1]) : get ⟨L.toArray⟩ W H A g x y = some g := by
  obtain ⟨h1, h2, h3, h4⟩ := drop_get h
  have hs : step ⟨L.toArray⟩ W H A g x y = some (false, A + 2, g, x, y) := by
    unfold step
    rw [size_list, if_pos h1, h2, h3, if_neg (by decide), if_neg (by decide), if_pos (by decide)]
  rw [get_end hs, size_list, if_pos]
  have := congrArg List.length h
  rw [List.length_drop] at this
  simp at this
  omega

/-- a row from the place k on -/
def setRow (g : Grid) (y k : Nat) (l : List Int) : Grid := fun y' x' => if y' = y ∧ k ≤ x' ∧ x' < l.length then l.getD x' 0 else g y' x'
theorem row_get {L : List UInt8} {W H y : Nat} {l : List Int} (hl : l.length ≤ W) (_ : l.length ≤ 255) (hy : y < H) (hf : ∀ i (h : i < l.length), 0 ≤ l[i] ∧ l[i] ≤ 255) : ∀ (n k A : Nat) (g : Grid) (R : List UInt8), l.length - k ≤ n → k ≤ l.length → L.drop A = Re.flat l (Rn.from_ 1 255 l k) ++ R →
    ∃ A', L.drop A' = R ∧ get ⟨L.toArray⟩ W H A g k y = get ⟨L.toArray⟩ W H A' (setRow g y k l) l.length y := by
  intro n
  induction n with
  | zero =>
    intro k A g R hn hk h
    obtain rfl : k = l.length := by omega
    rw [Rn.from_end (Nat.le_refl _)] at h
    refine ⟨A, h, ?_⟩
    congr 1
    funext y' x'
    unfold setRow
    rw [if_neg (by omega)]
  | succ n ih =>
    intro k A g R hn hk h
    by_cases hkl : k < l.length
    · have hd0 : 0 < (l.drop k).length := by rw [List.length_drop]; omega
      have hsz := Rn.size_ends (l := l.drop k) (least := 1) (m := 255) hd0 (by omega)
      rw [Rn.from_step (by omega) hkl] at h
      rw [Re.size_same hd0, List.length_drop] at hsz
      rw [Re.size_same hd0] at h
      have hsame := (Rn.same_ends (l.drop k) 255).2.2
      generalize Rn.same (l.drop k) 255 = z at *
      have hlk : l.getD k 0 = l[k] := by rw [List.getD_eq_getElem?_getD, List.getElem?_eq_getElem hkl]; rfl
      have hfk := hf k hkl
      obtain ⟨b, hb⟩ : ∃ b : Nat, l[k] = (b : Int) := ⟨l[k].toNat, by omega⟩
      have hb2 : b < 256 := by omega
      have h' : L.drop A = UInt8.ofNat z :: UInt8.ofNat b :: (Re.flat l (Rn.from_ 1 255 l (k + z)) ++ R) := by
        rw [h]
        show (Re.piece l (k, z, _) ++ Re.flat l _) ++ R = _
        unfold Re.piece
        simp only [hlk, hb, Int.toNat_natCast, List.cons_append, List.nil_append]
      have hzn : (UInt8.ofNat z).toNat = z := by simp; omega
      have hbn : (UInt8.ofNat b).toNat = b := by simp; omega
      have hst := step_run (W := W) (H := H) (g := g) (x := k) (y := y) h' (by rw [hzn]; omega) hy (by rw [hzn]; omega)
      obtain ⟨_, _, _, hdr⟩ := drop_get h'
      rw [hzn, hbn] at hst
      obtain ⟨A', hA', hg⟩ := ih (k + z) (A + 2) (fillG g y k z (b : Int)) R (by omega) (by omega) hdr
      refine ⟨A', hA', ?_⟩
      rw [get_more hst, hg]
      congr 1
      funext y' x'
      unfold setRow fillG
      by_cases h1 : y' = y ∧ k + z ≤ x' ∧ x' < l.length
      · rw [if_pos h1, if_pos (by omega)]
      · rw [if_neg h1]
        by_cases h2 : y' = y ∧ k ≤ x' ∧ x' < k + z
        · rw [if_pos h2, if_pos (by omega)]
          have h3 := hsame (x' - k) (by omega)
          unfold Rn.sameP at h3
          simp only [Bool.and_eq_true, decide_eq_true_eq] at h3
          have h4 := h3.2
          rw [List.getElem?_drop, List.getElem?_drop, show k + (x' - k) = x' by omega, Nat.add_zero] at h4
          rw [List.getD_eq_getElem?_getD, h4, List.getElem?_eq_getElem hkl, hb]
          rfl
        · rw [if_neg h2, if_neg (by omega)]
    · exact ih k A g R (by omega) hk h

def setRows : Grid → Nat → List (List Int) → Grid
  | g, _, [] => g
  | g, y, l :: ls => setRows (setRow g y 0 l) (y + 1) ls
theorem setRows_up : ∀ (ls : List (List Int)) (g : Grid) (y y' x' : Nat), y' < y → setRows g y ls y' x' = g y' x'
  | [], _, _, _, _, _ => rfl
  | l :: ls, g, y, y', x', h => by
    rw [setRows, setRows_up ls _ _ _ _ (by omega)]
    unfold setRow
    rw [if_neg (by omega)]
theorem setRows_at : ∀ (ls : List (List Int)) (g : Grid) (y i x' : Nat) (hi : i < ls.length), x' < ls[i].length → setRows g y ls (y + i) x' = ls[i].getD x' 0
  | l :: ls, g, y, 0, x', hi, hx => by
    rw [setRows, setRows_up ls _ _ _ _ (by omega)]
    unfold setRow
    rw [if_pos ⟨by omega, by omega, hx⟩]
    rfl
  | l :: ls, g, y, i + 1, x', hi, hx => by
    have h1 : i < ls.length := by simpa using hi
    have := setRows_at ls (setRow g y 0 l) (y + 1) i x' h1 hx
    rw [setRows, show y + (i + 1) = y + 1 + i by omega, this]
    rfl

theorem rows_get {L : List UInt8} {W H : Nat} : ∀ (ls : List (List Int)) (A y : Nat) (g : Grid) (x : Nat), (∀ l ∈ ls, l.length ≤ W ∧ l.length ≤ 255 ∧ ∀ i (h : i < l.length), 0 ≤ l[i] ∧ l[i] ≤ 255) → y + ls.length = H → (ls ≠ [] → x = 0) → L.drop A = Re.part ls ++ [0, 1] → get ⟨L.toArray⟩ W H A g x y = some (setRows g y ls)
  | [], A, y, g, x, _, _, _, h => step_fin h
  | [l], A, y, g, x, hls, hH, hx, h => by
    obtain rfl := hx (by simp)
    obtain ⟨h1, h2, h3⟩ := hls l (by simp)
    have hyH : y < H := by simp at hH; omega
    obtain ⟨A', hA', hg⟩ := row_get (L := L) (W := W) (H := H) (y := y) h1 h2 hyH h3 l.length 0 A g [0, 1] (by omega) (Nat.zero_le _) h
    rw [hg, step_fin hA']
    rfl
  | l :: m :: ls, A, y, g, x, hls, hH, hx, h => by
    obtain rfl := hx (by simp)
    obtain ⟨h1, h2, h3⟩ := hls l (by simp)
    have hyH : y < H := by simp at hH; omega
    rw [Re.part, List.append_assoc, List.append_assoc] at h
    obtain ⟨A', hA', hg⟩ := row_get (L := L) (W := W) (H := H) (y := y) h1 h2 hyH h3 l.length 0 A g _ (by omega) (Nat.zero_le _) h
    have hst := step_next (W := W) (H := H) (g := setRow g y 0 l) (x := l.length) (y := y) hA'
    obtain ⟨_, _, _, hdr⟩ := drop_get hA'
    rw [hg, get_more hst, rows_get (m :: ls) (A' + 2) (y + 1) _ 0 (fun r hr => hls r (by simp at hr ⊢; exact .inr hr)) (by simp at hH ⊢; omega) (fun _ => rfl) hdr]
    rfl

/-- what was packed comes out -/
theorem res_all {ls : List (List Int)} {W : Nat} (hok : Re.ok ls = true) (hw : ∀ l ∈ ls, l.length = W) (hW : W ≤ 100) (hs : (Re.all ls).length ≤ 9000) :
    ∃ g, res ⟨(Re.all ls).toArray⟩ (W : Int) (ls.length : Int) = some g ∧ ∀ y (hy : y < ls.length), ∀ x, x < W → g y x = ls[y].getD x 0 := by
  have hn : ls.length ≤ 100 := by
    unfold Re.ok at hok
    simp only [Bool.and_eq_true, decide_eq_true_eq] at hok
    exact hok.1
  have hrow : ∀ l ∈ ls, Re.okRow l = true := by
    unfold Re.ok at hok
    simp only [Bool.and_eq_true, List.all_eq_true] at hok
    exact hok.2
  have hall := Re.all_good hn hrow
  refine ⟨setRows zero 0 ls, ?_, fun y hy x hx => ?_⟩
  · rw [res_ok (by unfold Valid; rw [size_list]; omega)]
    refine rows_get ls 0 0 zero 0 (fun l hl => ⟨by rw [hw l hl]; exact Nat.le_refl _, by rw [hw l hl]; omega, fun i hi => ?_⟩) (by omega) (fun _ => rfl) (by rw [List.drop_zero]; exact hall)
    have := Rt.fit_at (Re.okRow_fit (hrow l hl)) i hi
    have e : ((256 ^ 1 : Nat) : Int) = 256 := by decide
    rw [e] at this
    omega
  · have := setRows_at ls zero 0 y x hy (by rw [hw _ (List.getElem_mem hy)]; exact hx)
    rw [Nat.zero_add] at this
    exact this
end Rl
end Go.Proofs.Ytlpfedhehfbfeaa

/- The iterator over the stretches of a list (ints), where some blocks may turn. -/
namespace Go.Proofs.Ytlpfedhehfbfeaa
open Go.RowKit Go.Shelf

/-- what lies below n₀ is as it was, but for some blocks -/
def BsP (P : Nat → Prop) (n₀ : Nat) (W W' : World) : Prop := W.heap.size ≤ W'.heap.size ∧ ∀ k, k < n₀ → ¬ P k → W'.heap[k]? = W.heap[k]?
theorem BsP.trans {P : Nat → Prop} {n₀ : Nat} {A B C : World} (h : BsP P n₀ A B) (k : BsP P n₀ B C) : BsP P n₀ A C := ⟨Nat.le_trans h.1 k.1, fun i hi ho => (k.2 i hi ho).trans (h.2 i hi ho)⟩
theorem BsP.of {P : Nat → Prop} {n₀ : Nat} {A B : World} (h : Below n₀ A B) : BsP P n₀ A B := ⟨h.size, fun i hi _ => h.block i hi⟩
theorem BsP.book {P : Nat → Prop} {n₀ : Nat} {w : World} (hn : n₀ ≤ w.heap.size) (W : World) (l : Nat) (x x' : Obj) (hl : w.heap.size ≤ l) (h : W.heap[l]? = some x) (h1 : x.isCells = false) (h2 : x.isWalk = false) : BsP P n₀ W (W.putObj l x') := .of (belowK_b hn W l x x' hl h h1 h2)
namespace RI

attribute [local go_sem] Oper.semAt_some

theorem Held.keptP {W W' : World} {a : Option Addr} {Bl Bm Bt b off cap N least m n₀ : Nat} {P : Nat → Prop} {L : List Int} (h : Held W a Bl Bm Bt b off cap N least m L) (hb : BsP P n₀ W W') (h1 : Bl < n₀) (h2 : Bm < n₀) (h3 : Bt < n₀) (h4 : b < n₀) (o1 : ¬ P Bl) (o2 : ¬ P Bm) (o3 : ¬ P Bt) (o4 : ¬ P b) : Held W' a Bl Bm Bt b off cap N least m L :=
  ⟨(World.cell?_of_block (w := W) (a := ⟨Bl, 0, none⟩) (hb.2 _ h1 o1)).trans h.hl, (World.cell?_of_block (w := W) (a := ⟨Bm, 0, none⟩) (hb.2 _ h2 o2)).trans h.hm, (World.cell?_of_block (w := W) (a := ⟨Bt, 0, none⟩) (hb.2 _ h3 o3)).trans h.ht,
   Nat.lt_of_lt_of_le h.lies.1 hb.1, fun i hi => (World.cell?_of_block (w := W) (a := ⟨b, off + i, none⟩) (hb.2 _ h4 o4)).trans (h.lies.2 i hi)⟩

set_option maxRecDepth 100000 in
set_option maxHeartbeats 4000000 in
theorem stretchesP1_in (n : Nat) (hn : 1 ≤ n) (a : Option Addr) (l Bl Bm Bt b off cap N least m n₀ : Nat) (P : Nat → Prop) (L : List Int) (h1 : Bl < n₀) (h2 : Bm < n₀) (h3 : Bt < n₀) (h4 : b < n₀) (o1 : ¬ P Bl) (o2 : ¬ P Bm) (o3 : ¬ P Bt) (o4 : ¬ P b)
    (hN : L.length = N) (hNb : N ≤ 100000) (hlb : least ≤ 1000) (hmb : m ≤ 1000) (hm0 : 0 < m) (hcap : N ≤ cap) (ha : N = 0 ∨ a = some ⟨b, off, none⟩) (J Jx : List (Nat × Nat × Bool) → World → Prop)
    (W : World) (hJ : AbidesFrom W.heap.size J)
    (hY : ∀ pre x W, x.1 + x.2.1 ≤ N ∧ 1 ≤ x.2.1 ∧ x.2.1 ≤ m → J pre W → pre.length < (Rn.from_ least m L 0).length → YieldAt Fence.wide (n - 1) Try.prog l (enc b off cap x) W fun e W' =>
      (e = .returned (.bool true) ∧ J (pre ++ [x]) W' ∧ BsP P n₀ W W') ∨ (e = .returned (.bool false) ∧ Jx (pre ++ [x]) W'))
    (hH : Held W a Bl Bm Bt b off cap N least m L) (h0 : J [] W) :
    CallsIn Fence.wide n Try.prog 41 #[.func (.yield l) #[] #[], .pointer (some ⟨Bl, 0, none⟩), .pointer (some ⟨Bm, 0, none⟩), .pointer (some ⟨Bt, 0, none⟩)] W fun e W' => (∃ v, e = .returned v) ∧
      ((∃ ys, ys = Rn.from_ least m L 0 ∧ J ys W') ∨ (∃ pre, pre <+: Rn.from_ least m L 0 ∧ Jx pre W')) := by
  have hro : Fence.wide.round = none := rfl
  have HN : Hid (L.length = N) := hN
  clear hN
  have HY : Hid (∀ (pre : List (Nat × Nat × Bool)) (x : Nat × Nat × Bool) (W : World), x.1 + x.2.1 ≤ N ∧ 1 ≤ x.2.1 ∧ x.2.1 ≤ m → J pre W → pre.length < (Rn.from_ least m L 0).length → YieldAt Fence.wide (n - 1) Try.prog l (enc b off cap x) W fun e W' =>
      (e = .returned (.bool true) ∧ J (pre ++ [x]) W' ∧ BsP P n₀ W W') ∨ (e = .returned (.bool false) ∧ Jx (pre ++ [x]) W')) := hY
  have HJ : Hid (AbidesFrom W.heap.size J) := hJ
  clear hY hJ
  refine callsIn_of_wp Try.func41 rfl trivial ?_ hro
  simp only [Try.ntmps41, List.size_toArray, List.length_cons, List.length_nil, Nat.reduceAdd, Nat.reduceSub, Array.replicate_succ, Array.replicate_zero, List.push_toArray, List.append_toArray, List.nil_append, List.cons_append]
  gi_wp2
  gi_loopw [5] (fun i wr => ∃ (k : Nat) (pre : List (Nat × Nat × Bool)), k ≤ N ∧ i = .int .i64 (k : Int) ∧ Hid (Rn.from_ least m L 0 = pre ++ Rn.from_ least m L k) ∧ J pre wr ∧ Held wr a Bl Bm Bt b off cap N least m L)
    (fun i _ => N - (intOf i).toNat)
  case atStart => exact ⟨0, [], Nat.zero_le _, rfl, rfl, h0, hH⟩
  case round =>
    obtain ⟨k, pre, hk, rfl, HX, hJk, hHk⟩ := hrel
    obtain ⟨c1, c2, c3, hL⟩ := id hHk
    by_cases hlt : k < N
    · obtain rfl : a = some ⟨b, off, none⟩ := by
        rcases ha with h | h
        · omega
        · exact h
      have hkl : k < L.length := by rw [HN.out]; exact hlt
      have hkc : k < cap := by omega
      have hdl : 0 < (L.drop k).length := by rw [List.length_drop]; omega
      have hdn : (L.drop k).length = N - k := by rw [List.length_drop, HN.out]
      have HS : Hid (Calls Try.prog 42 #[.slice (some ⟨b, off + k, none⟩) (N - k) (cap - k), .int .i64 (m : Int)] wr fun e w' => e = .returned (.int .i64 ((Rn.same (L.drop k) m : Nat) : Int)) ∧ ∃ q, w' = wr.drewN q) :=
        sameAhead_any b (off + k) (cap - k) (N - k) m (L.drop k) wr hdn (by omega) hmb (hL.drop k)
      have HU : Hid (∀ q, Calls Try.prog 43 #[.slice (some ⟨b, off + k, none⟩) (N - k) (cap - k), .int .i64 (least : Int), .int .i64 (m : Int)] (wr.drewN q) fun e w' => e = .returned (.int .i64 ((Rn.fresh (L.drop k) least m : Nat) : Int)) ∧ ∃ q', w' = (wr.drewN q).drewN q') :=
        fun q => upToSame_any b (off + k) (cap - k) (N - k) least m (L.drop k) _ hdn (by omega) hlb hmb ((hL.drop k).drewN q) (by omega)
      have hsz := Rn.size_ends (l := L.drop k) (least := least) (m := m) hdl hm0
      have HF := Rn.from_step (least := least) (m := m) (l := L) hm0 hkl
      have hszd : Rn.size least m (L.drop k) = if least ≤ Rn.same (L.drop k) m then Rn.same (L.drop k) m else Rn.fresh (L.drop k) least m := rfl
      have hagd : Rn.again least m (L.drop k) = decide (least ≤ Rn.same (L.drop k) m) := rfl
      rw [hdn] at hsz
      have hlen : pre.length < (Rn.from_ least m L 0).length := by rw [HX.out, HF]; simp
      generalize hzs : Rn.size least m (L.drop k) = z at *
      generalize hza : Rn.again least m (L.drop k) = ag at *
      generalize Rn.same (L.drop k) m = sm at *
      generalize Rn.fresh (L.drop k) least m = fr at *
      have HX2 : Hid (Rn.from_ least m L 0 = (pre ++ [(k, z, ag)]) ++ Rn.from_ least m L (k + z)) := by
        show _ = _
        rw [HX.out, HF]; simp
      clear HF HX hdl hkl hdn hL hzs hza
      obtain ⟨hz1, hz2, hz3⟩ := hsz
      have hJd : ∀ q, J pre (wr.drewN q) := fun q => HJ.out pre wr _ none hJk (grown_drewN wr q) (fun r e => by cases e)
      have HJd : Hid (∀ q, J pre (wr.drewN q)) := hJd
      clear hJd hJk
      by_cases hag : least ≤ sm
      · rw [if_pos hag] at hszd
        subst hszd
        have hd : decide (least ≤ z) = true := by simp; exact hag
        rw [hd] at hagd
        subst hagd
        have d3 : decide ((z : Int) ≥ (least : Int)) = true := by simp; exact hag
        clear HU
        gi_wp2
        refine ⟨trivial, ?_⟩
        gi_wp2
        refine (callsIn_wide.2 HS.out).mono ?_
        rintro e W2 ⟨rfl, q, rfl⟩
        clear HS
        obtain ⟨fn, tmps, assign, body, hy, hR⟩ := HY.out pre (k, z, true) _ ⟨by show k + z ≤ N; omega, hz1, hz3⟩ (HJd.out q) hlen
        have hHq := hHk.drewN q
        dsimp only [enc] at hy
        gi_wp2
        refine hR.mono ?_
        rintro e W3 (⟨rfl, hJ3, hk3⟩ | ⟨rfl, hJx3⟩)
        · gi_wp2
          go_roundw
          case rel => exact ⟨k + z, _, by omega, by go_num, HX2, hJ3, hHq.keptP hk3 h1 h2 h3 h4 o1 o2 o3 o4⟩
          case measure => simp [intOf]; omega
        · gi_wp2
          refine bodyPost_ret (results_none rfl _ _ _) rfl ?_
          exact ⟨⟨_, rfl⟩, .inr ⟨_, ⟨_, HX2.out.symm⟩, hJx3⟩⟩
      · rw [if_neg hag] at hszd
        subst hszd
        have hd : decide (least ≤ sm) = false := by simp; omega
        rw [hd] at hagd
        subst hagd
        have d3 : decide ((sm : Int) ≥ (least : Int)) = false := by simp; omega
        gi_wp2
        refine ⟨trivial, ?_⟩
        gi_wp2
        refine (callsIn_wide.2 HS.out).mono ?_
        rintro e W2 ⟨rfl, q, rfl⟩
        clear HS
        gi_wp2
        refine ⟨trivial, ?_⟩
        gi_wp2
        refine (callsIn_wide.2 (HU.out q)).mono ?_
        rintro e W2 ⟨rfl, q2, rfl⟩
        clear HU
        obtain ⟨fn, tmps, assign, body, hy, hR⟩ := HY.out pre (k, z, false) _ ⟨by show k + z ≤ N; omega, hz1, hz3⟩ (HJd.out (q + q2)) hlen
        have hHq := hHk.drewN (q + q2)
        dsimp only [enc] at hy
        gi_wp2
        refine hR.mono ?_
        rintro e W3 (⟨rfl, hJ3, hk3⟩ | ⟨rfl, hJx3⟩)
        · gi_wp2
          go_roundw
          case rel => exact ⟨k + z, _, by omega, by go_num, HX2, hJ3, hHq.keptP hk3 h1 h2 h3 h4 o1 o2 o3 o4⟩
          case measure => simp [intOf]; omega
        · gi_wp2
          refine bodyPost_ret (results_none rfl _ _ _) rfl ?_
          exact ⟨⟨_, rfl⟩, .inr ⟨_, ⟨_, HX2.out.symm⟩, hJx3⟩⟩
    · obtain rfl : k = N := by omega
      gi_wp2
      go_end0
      exact ⟨⟨_, rfl⟩, .inl ⟨_, by rw [HX.out, Rn.from_end (by rw [HN.out]; exact Nat.le_refl _), List.append_nil], hJk⟩⟩

theorem stretchesP_stops (n : Nat) (hn : 1 ≤ n) (a : Option Addr) (Bl Bm Bt b off cap N least m n₀ : Nat) (P : Nat → Prop) (L : List Int) (w : World) (h1 : Bl < n₀) (h2 : Bm < n₀) (h3 : Bt < n₀) (h4 : b < n₀) (o1 : ¬ P Bl) (o2 : ¬ P Bm) (o3 : ¬ P Bt) (o4 : ¬ P b) (hn₀ : n₀ ≤ w.heap.size)
    (hN : L.length = N) (hNb : N ≤ 100000) (hlb : least ≤ 1000) (hmb : m ≤ 1000) (hm0 : 0 < m) (hcap : N ≤ cap) (ha : N = 0 ∨ a = some ⟨b, off, none⟩) (hH : Held w a Bl Bm Bt b off cap N least m L) :
    SeqStopsK Fence.wide n Try.prog 41 #[.pointer (some ⟨Bl, 0, none⟩), .pointer (some ⟨Bm, 0, none⟩), .pointer (some ⟨Bt, 0, none⟩)] (fun x : St N m => enc b off cap x.1) (BsP P n₀)
      (fun ys => ys.map Subtype.val = Rn.from_ least m L 0) (fun pre => pre.map Subtype.val <+: Rn.from_ least m L 0) (Rn.from_ least m L 0).length w := by
  intro l J Jx W hW hJ _ hY h0
  refine (stretchesP1_in n hn a l Bl Bm Bt b off cap N least m n₀ P L h1 h2 h3 h4 o1 o2 o3 o4 hN hNb hlb hmb hm0 hcap ha
    (fun pre W => ∃ p : List (St N m), p.map Subtype.val = pre ∧ J p W) (fun pre W => ∃ p : List (St N m), p.map Subtype.val = pre ∧ Jx p W) W
    (fun s A B row hs hg hr => by obtain ⟨p, hp, hj⟩ := hs; exact ⟨p, hp, hJ p A B row hj hg hr⟩) ?_ ?_ ⟨[], rfl, h0⟩).mono ?_
  · rintro pre x W1 hx ⟨p, rfl, hj⟩ hlen
    obtain ⟨fn, tmps, assign, body, hy, hR⟩ := hY p ⟨x, hx⟩ W1 hj (by simpa using hlen)
    refine ⟨fn, tmps, assign, body, hy, hR.mono ?_⟩
    rintro e W' (⟨rfl, h2, h3⟩ | ⟨rfl, h2⟩)
    · exact .inl ⟨rfl, ⟨p ++ [⟨x, hx⟩], by simp, h2⟩, h3⟩
    · exact .inr ⟨rfl, ⟨p ++ [⟨x, hx⟩], by simp, h2⟩⟩
  · exact hH.keptP (BsP.of (P := P) (hW.mono hn₀)) h1 h2 h3 h4 o1 o2 o3 o4
  · rintro e W' ⟨hv, h⟩
    refine ⟨hv, ?_⟩
    rcases h with ⟨ys, hy, p, hp, hj⟩ | ⟨pre, hpre, p, hp, hj⟩
    · exact .inl ⟨p, hp.trans hy, hj⟩
    · exact .inr ⟨p, by show p.map Subtype.val <+: _; rw [hp]; exact hpre, hj⟩

end RI
end Go.Proofs.Ytlpfedhehfbfeaa

/- Marks of loops over iterators, and what a round may do beside a row of the call's own. -/
namespace Go.Proofs.Ytlpfedhehfbfeaa
open Go.RowKit Go.Shelf

/-- the mark that a loop over an iterator leaves -/
def markOf (D : Nat) : Deferred := { target := .collected D, args := #[] }
/-- marks that are still open -/
def Marks (lo hi : Nat) (Ds : List Nat) (W : World) : Prop := Ds.Nodup ∧ ∀ D ∈ Ds, lo ≤ D ∧ D < hi ∧ W.heap[D]? = some (.deferred (some []))
theorem Marks.others {lo hi : Nat} {Ds : List Nat} {W W' : World} (h : Marks lo hi Ds W) (k : KeepsOthers W W') : Marks lo hi Ds W' :=
  ⟨h.1, fun D hD => ⟨(h.2 D hD).1, (h.2 D hD).2.1, k.same D _ (h.2 D hD).2.2 rfl⟩⟩
theorem Marks.up {lo hi hi' : Nat} {Ds : List Nat} {W : World} (h : Marks lo hi Ds W) (k : hi ≤ hi') : Marks lo hi' Ds W :=
  ⟨h.1, fun D hD => ⟨(h.2 D hD).1, Nat.lt_of_lt_of_le (h.2 D hD).2.1 k, (h.2 D hD).2.2⟩⟩
theorem Marks.below {lo hi m : Nat} {Ds : List Nat} {W W' : World} (h : Marks lo hi Ds W) (b : Below m W W') (hm : hi ≤ m) : Marks lo hi Ds W' :=
  ⟨h.1, fun D hD => ⟨(h.2 D hD).1, (h.2 D hD).2.1, (b.block D (by have := (h.2 D hD).2.1; omega)).trans (h.2 D hD).2.2⟩⟩
theorem Marks.cons {lo hi hi' D : Nat} {Ds : List Nat} {W : World} (h : Marks lo hi Ds W) (h1 : hi ≤ D) (h2 : lo ≤ D) (hD : W.heap[D]? = some (.deferred (some []))) (h3 : D < hi') : Marks lo hi' (D :: Ds) W := by
  refine ⟨List.nodup_cons.2 ⟨fun hm => by have := (h.2 D hm).2.1; omega, h.1⟩, fun E hE => ?_⟩
  rcases List.mem_cons.1 hE with rfl | hE
  · exact ⟨h2, h3, hD⟩
  · exact ⟨(h.2 E hE).1, by have := (h.2 E hE).2.1; omega, (h.2 E hE).2.2⟩
/-- the function leaves -/
theorem leaves_marks {F : Fence} {n : Nat} {P : Program} {fn : Func} {tmps : Array Value} {R : Ending → World → Prop} {v : Value} (hv : ∀ W, (results fn tmps).run P W = .ok v W) (lo hi : Nat) :
    ∀ (Ds : List Nat) (W : World), Marks lo hi Ds W → (∀ W', Below lo W W' → R (.returned v) W') → LeavesInM F n P fn tmps R (Ds.map markOf) .returning W
  | [], W, _, hR => ⟨v, hv W, hR W (Below.refl _ _)⟩
  | D :: Ds, W, h, hR => by
    have hD := h.2 D (by simp)
    have hN := List.nodup_cons.1 h.1
    have hb : Below lo W (W.putObj D (.deferred none)) := (Below.refl lo W).grown (grownBy_putObj' W D (.deferred none)) (by have := lt_of_at hD.2.2; omega) (fun k e => by cases e; exact hD.1)
    refine ⟨by simp, .inl ⟨D, _, rfl, run_takeDeferred hD.2.2, ?_⟩⟩
    refine leaves_marks hv lo hi Ds _ ⟨hN.2, fun E hE => ?_⟩ (fun W' hW' => hR W' (hb.trans hW'))
    have hE' := h.2 E (by simp [hE])
    refine ⟨hE'.1, hE'.2.1, ?_⟩
    exact ((grownBy_putObj' W D (.deferred none)).block E (lt_of_at hE'.2.2) (fun e => by cases e; exact hN.1 hE)).trans hE'.2.2

/-- from W to W': new blocks, rows that P names or from n₀ on that are no T, and the box A -/
structure WentP (P : Nat → Prop) (A n₀ : Nat) (T : TypeId) (W W' : World) : Prop where
  ko : KeepsOthers W W'
  bs : BsP P n₀ W W'
  bl : Below A W W'
  bx : ∀ (k : Nat) (cs : Array Value) (fr : Nat × Nat), W.heap[k]? = some (.cells cs T fr) → W'.heap[k]? = some (.cells cs T fr)
theorem WentP.refl (P : Nat → Prop) (A n₀ : Nat) (T : TypeId) (W : World) : WentP P A n₀ T W W := ⟨.refl _, .of (Below.refl _ _), Below.refl _ _, fun _ _ _ h => h⟩
theorem WentP.trans {P : Nat → Prop} {A n₀ : Nat} {T : TypeId} {W X Y : World} (h : WentP P A n₀ T W X) (k : WentP P A n₀ T X Y) : WentP P A n₀ T W Y :=
  ⟨h.ko.trans k.ko, h.bs.trans k.bs, h.bl.trans k.bl, fun i cs fr hi => k.bx i cs fr (h.bx i cs fr hi)⟩
theorem WentP.drew {P : Nat → Prop} {A n₀ : Nat} {T : TypeId} {W X : World} (h : WentP P A n₀ T W X) : WentP P A n₀ T W X.drew :=
  h.trans ⟨KeepsOthers.drew _, .of (Below.refl _ _).drew, (Below.refl _ _).drew, fun _ _ _ h => h⟩
theorem WentP.alloc {P : Nat → Prop} {A n₀ : Nat} {T : TypeId} {W X : World} (h : WentP P A n₀ T W X) (hn : n₀ ≤ X.heap.size) (hA : A ≤ X.heap.size) (o : Obj) : WentP P A n₀ T W (X.alloc o) :=
  h.trans ⟨KeepsOthers.alloc _ _, .of ((Below.refl _ _).alloc hn _), (Below.refl _ _).alloc hA _, fun k _ _ hk => (Below.heap_alloc X o k (Array.getElem?_eq_some_iff.1 hk).1).trans hk⟩
/-- an append to a row of the call's own -/
theorem WentP.append {P : Nat → Prop} {A n₀ lo k : Nat} {T e : TypeId} {W X Y : World} {v : Value} {xs : List Value} (h : WentP P A n₀ T W X) (hrow : X.ownsRow lo e 1 v k xs) (hP : ∀ j, v.ownBlock = some j → P j ∨ n₀ ≤ j) (hT : T ≠ e) (hg : X.grownBy Y v.ownBlock) (hn : n₀ ≤ X.heap.size) (hA : A ≤ lo) (hA2 : A ≤ X.heap.size) : WentP P A n₀ T W Y := by
  have hown : ∀ (j : Nat), v.ownBlock = some j → lo ≤ j ∧ ∃ cur, X.heap[j]? = some (.cells cur e (0, 0)) := fun j hj => by
    rcases hrow.2 with ⟨rfl, _⟩ | ⟨g, cap, cur, rfl, h1, h2, _⟩
    · cases hj
    · simp [Value.ownBlock] at hj; subst hj; exact ⟨h1, cur, h2⟩
  refine h.trans ⟨KeepsOthers.of_grownBy hg (fun j o ej hj => ?_), ⟨hg.size, fun j hj hp => ?_⟩, (Below.refl _ _).grown hg hA2 (fun j hj => Nat.le_trans hA (hown j hj).1), fun j cs fr hj => ?_⟩
  · obtain ⟨_, cur, hc⟩ := hown j ej
    rw [hc] at hj; cases hj; rfl
  · refine hg.block j (by omega) (fun ej => ?_)
    rcases hP j ej.symm with h1 | h1
    · exact hp h1
    · omega
  · refine (hg.block j (Array.getElem?_eq_some_iff.1 hj).1 (fun ej => ?_)).trans hj
    obtain ⟨_, cur, hc⟩ := hown j ej.symm
    rw [hc] at hj; cases hj; exact hT rfl
/-- a store into the box -/
theorem WentP.store {P : Nat → Prop} {A n₀ : Nat} {T t : TypeId} {W X : World} {u : Value} (h : WentP P A n₀ T W X) (hb : Boxed X A t u) (hP : P A) (hT : T ≠ t) (v : Value) : WentP P A n₀ T W (X.setCell ⟨A, 0, none⟩ v) := by
  have hk : ∀ k, k ≠ A → (X.setCell ⟨A, 0, none⟩ v).heap[k]? = X.heap[k]? := fun k hk => Below.heap_setCell X ⟨A, 0, none⟩ v k hk
  refine h.trans ⟨KeepsOthers.setCell _ _ _, ⟨by simp, fun k _ hne => hk k (fun e => hne (e ▸ hP))⟩, (Below.refl A X).setCell (p := ⟨A, 0, none⟩) (Nat.le_refl _) _, fun k cs fr hc => ?_⟩
  by_cases e : k = A
  · subst e
    rw [show X.heap[k]? = _ from hb] at hc; cases hc; exact (hT rfl).elim
  · rw [hk k e]; exact hc

/-- between two rounds of a row: the text so far in a row of the call's own -/
def ReI (w : World) (P : Nat → Prop) (n₀ : Nat) (Ds : List Nat) (q0 : List UInt8) (l : List Int) (N : Nat) (pre : List (RI.St N 255)) (W : World) : Prop :=
  (∃ v, Boxed W w.heap.size 22 v ∧ OwnT W (w.heap.size + 1) v (q0 ++ Re.flat l (pre.map Subtype.val)).length (q0 ++ Re.flat l (pre.map Subtype.val)) ∧ (∀ j, v.ownBlock = some j → P j ∨ n₀ ≤ j)) ∧
  Below w.heap.size w W ∧ n₀ ≤ W.heap.size ∧ Marks (w.heap.size + 1) n₀ Ds W
theorem reI_own (w : World) (P : Nat → Prop) (n₀ : Nat) (Ds : List Nat) (q0 : List UInt8) (l : List Int) (N B : Nat) (hB : n₀ ≤ B) (hn : w.heap.size + 1 ≤ n₀) : OwnFrom B (ReI w P n₀ Ds q0 l N) := by
  rintro pre X Y row ⟨⟨v, hv, hr, hp⟩, hb, hs, hm⟩ hg hrow
  have hne : ∀ k, k < n₀ → some k ≠ row := fun k hk e => by have := (hrow k e.symm).1; omega
  refine ⟨⟨v, hv.kept hg (hne _ (by omega)), World.ownsRow.kept (show World.ownsRow _ _ _ _ _ _ _ from hr) hg ?_, hp⟩, hb.grown hg hb.size (fun k e => by have := (hrow k e).1; omega), Nat.le_trans hs hg.size, hm.1, fun D hD => ⟨(hm.2 D hD).1, (hm.2 D hD).2.1, (hg.block D (lt_of_at (hm.2 D hD).2.2) (hne _ (hm.2 D hD).2.1)).trans (hm.2 D hD).2.2⟩⟩
  by_cases h0 : v.ownBlock = none
  · exact .inl h0
  · refine .inr (fun e => ?_)
    rcases (show World.ownsRow _ _ _ _ _ _ _ from hr).2 with ⟨rfl, _⟩ | ⟨g, cap, cur, rfl, _, h2, _⟩
    · exact h0 rfl
    · obtain ⟨_, o, ho, hc⟩ := hrow g e.symm
      rw [h2] at ho; cases ho; cases hc
theorem re_end {w : World} {P : Nat → Prop} {n₀ : Nat} {Ds : List Nat} {q0 : List UInt8} {l : List Int} {N : Nat} {pre : List (RI.St N 255)} {x : RI.St N 255} {W W' : World} {T : TypeId} {v : Value} {m : Nat} {q : List UInt8} (hI : ReI w P n₀ Ds q0 l N pre W) (hw : WentP P w.heap.size n₀ T W W')
    (hb : Boxed W' w.heap.size 22 v) (hr : OwnT W' (w.heap.size + 1) v m q) (hP : ∀ j, v.ownBlock = some j → P j ∨ n₀ ≤ j) (hq : q = q0 ++ Re.flat l (pre.map Subtype.val) ++ Re.piece l x.1) (B : Nat) : KeepsFrom B W W' ∧ BsP P n₀ W W' ∧ ReI w P n₀ Ds q0 l N (pre ++ [x]) W' := by
  obtain ⟨_, hbel, hs, hm⟩ := hI
  refine ⟨hw.ko.from _, hw.bs, ⟨v, hb, ?_, hP⟩, hbel.trans hw.bl, Nat.le_trans hs hw.bs.1, hm.others hw.ko⟩
  rw [List.map_append, List.map_singleton, Re.flat_snoc, ← List.append_assoc, ← hq, hr.len]
  exact hr
end Go.Proofs.Ytlpfedhehfbfeaa

/- RlePut of the program. -/
namespace Go.Proofs.Ytlpfedhehfbfeaa
open Go.RowKit Go.Shelf

attribute [local go_sem] Oper.semAt_some

/-- the text so far in a row of the call's own -/
def ReSt (w : World) (Ds : List Nat) (q : List UInt8) (W : World) : Prop :=
  (∃ v, Boxed W w.heap.size 22 v ∧ OwnT W (w.heap.size + 1) v q.length q) ∧ Below w.heap.size w W ∧ w.heap.size + 1 ≤ W.heap.size ∧ Marks (w.heap.size + 1) W.heap.size Ds W
theorem reSt_app {w W w4 : World} {Ds : List Nat} {q q2 : List UInt8} {v v4 : Value} {m m' : Nat} (hbel : Below w.heap.size w W) (hsz : w.heap.size + 1 ≤ W.heap.size) (hm : Marks (w.heap.size + 1) W.heap.size Ds W) (hv : Boxed W w.heap.size 22 v) (hr : OwnT W (w.heap.size + 1) v m q) (o : Obj)
    (hg : (W.alloc o).grownBy w4 v.ownBlock) (hown : OwnT w4 (w.heap.size + 1) v4 m' q2) : ReSt w Ds q2 (w4.setCell ⟨w.heap.size, 0, none⟩ v4) := by
  have hA : World.ownsRow (W.alloc o) _ _ _ _ _ _ := World.ownsRow.alloc (show World.ownsRow _ _ _ _ _ _ _ from hr) o
  have hW4 : WentP (fun _ => True) w.heap.size 0 47 W w4 := ((WentP.refl _ _ _ _ W).alloc (Nat.zero_le _) (by omega) o).append hA (fun _ _ => .inl trivial) (by decide) hg (Nat.zero_le _) (by omega) (by simp; omega)
  have hv4 : Boxed w4 w.heap.size 22 v := (hv.alloc o).kept hg (Boxed.not_row (hv.alloc o) (by decide) hA)
  have hW5 := hW4.store hv4 trivial (by decide) v4
  refine ⟨⟨v4, hv4.set _, ?_⟩, hbel.trans hW5.bl, Nat.le_trans hsz hW5.bs.1, (hm.others hW5.ko).up hW5.bs.1⟩
  rw [hown.len]
  exact World.ownsRow.kept (show World.ownsRow _ _ _ _ _ _ _ from hown) (grownBy_setCell' w4 w.heap.size _) (.inr (hv4.not_row (by decide) (show World.ownsRow _ _ _ _ _ _ _ from hown)).symm)
theorem Rows2.at3 {w : World} {a : Option Addr} {ls : List (List Int)} (h : Rows2 w a ls) {k : Nat} (hk : k < ls.length) : ∃ R off a' cap, a = some ⟨R, off, none⟩ ∧ R < w.heap.size ∧ w.cell? ⟨R, off + k, none⟩ = some (.slice a' ls[k].length cap) ∧ Ints w a' ls[k] ∧ ls[k].length ≤ cap := by
  rcases h with e | ⟨R, off, rfl, hR, hc⟩
  · rw [e] at hk; simp at hk
  · obtain ⟨a', cap, h1, h2, h3⟩ := hc k hk
    exact ⟨R, off, a', cap, rfl, hR, h1, h2, h3⟩
/-- where a row lies -/
theorem row_lies {w : World} {a : Option Addr} {l : List Int} (h : Ints w a l) (z : Nat) : ∃ b off, (b < w.heap.size ∨ b = z) ∧ (l.length = 0 ∨ a = some ⟨b, off, none⟩) ∧ ∀ X, Below w.heap.size w X → z < X.heap.size → RI.Lies X b off l := by
  rcases h with rfl | ⟨b, off, rfl, hb, hc⟩
  · exact ⟨z, 0, .inr rfl, .inl rfl, fun X _ hz => ⟨hz, fun i hi => by simp at hi⟩⟩
  · exact ⟨b, off, .inl hb, .inr rfl, fun X hX _ => ⟨Nat.lt_of_lt_of_le hb hX.size, fun i hi => (hX.cell (p := ⟨b, off + i, none⟩) hb).trans (hc i hi)⟩⟩

set_option linter.unusedSimpArgs false in
set_option maxRecDepth 100000 in
set_option maxHeartbeats 8000000 in
theorem impl_rlePut_in (a : Option Addr) (n cap : Nat) (ls : List (List Int)) (w : World) (h : Rows2 w a ls) (hn : ls.length = n) (hnb : n ≤ 100) (hm : ∀ l ∈ ls, l.length ≤ 2000000) :
    CallsIn Fence.wide 3 Try.prog 8 #[.slice a n cap] w fun e W' => e = .returned (.string ⟨(Re.all ls).toArray⟩) ∧ Below w.heap.size w W' := by
  have hro : Fence.wide.round = none := rfl
  obtain ⟨i0, hi0, hz0, hz1, hz2⟩ := info_parts info_u8t
  have HN : Hid (ls.length = n) := hn
  have HR : Hid (Rows2 w a ls) := h
  have HM : Hid (∀ l ∈ ls, l.length ≤ 2000000) := hm
  have d1 : decide ((n : Int) > 100) = false := by simp; omega
  clear h hn hm
  refine callsIn_of_wp_marks Try.func8 rfl trivial ?_ hro
  simp only [Try.ntmps8, List.size_toArray, List.length_cons, List.length_nil, Nat.reduceAdd, Nat.reduceSub, Array.replicate_succ, Array.replicate_zero, List.push_toArray, List.append_toArray, List.nil_append, List.cons_append]
  gi_wp2
  refine wpIn_loop (fun a' W => ∃ (k : Nat) (Ds : List Nat) (q : List UInt8), (k ≤ n ∧ Hid (q = Re.part (ls.take k) ∧ ∀ l ∈ ls.take k, Re.okRow l = true) ∧ Hid (ReSt w Ds q W)) ∧ ∃ u4 u5 u6 u13 u14 u15 u16 u17 u18 u19 u20 u21 u22 u23 u24 u25 u26 u27 u28 u29 u30 u31 u32 u33 u34 u35 u36 u37 u38 u39 u40 u41 u42 u43 u44 u45 u46 u47 u48 u49 : Value,
    a' = { tmps := #[.slice a n cap, undef, .string ⟨#[]⟩, .pointer (some ⟨w.heap.size, 0, none⟩), u4, u5, u6, .slice a n cap, .int .i64 (n : Int), .bool false, .slice a n cap, .int .i64 (n : Int), .int .i64 (k : Int), u13, u14, u15, u16, u17, u18, u19, u20, u21, u22, u23, u24, u25, u26, u27, u28, u29, u30, u31, u32, u33, u34, u35, u36, u37, u38, u39, u40, u41, u42, u43, u44, u45, u46, u47, u48, u49], defers := Ds.map markOf }) (fun a' _ => n - (intOf (a'.tmps.getD 12 undef)).toNat) ?_ ?_
  · exact ⟨0, [], [], ⟨Nat.zero_le _, ⟨by simp [Re.part], by simp⟩, ⟨_, Boxed.new w 22 _, ownT_nil _ _⟩, (Below.refl _ _).alloc (Nat.le_refl _) _, by simp, List.nodup_nil, fun D hD => by simp at hD⟩, _, _, _, _, _, _, _, _, _, _, _, _, _, _, _, _, _, _, _, _, _, _, _, _, _, _, _, _, _, _, _, _, _, _, _, _, _, _, _, _, rfl⟩
  rintro _ W ⟨k, Ds, q, ⟨hk, HQ, HS⟩, u4, u5, u6, u13, u14, u15, u16, u17, u18, u19, u20, u21, u22, u23, u24, u25, u26, u27, u28, u29, u30, u31, u32, u33, u34, u35, u36, u37, u38, u39, u40, u41, u42, u43, u44, u45, u46, u47, u48, u49, rfl⟩
  have hqb : q.length ≤ 30000 := by
    rw [HQ.out.1]
    have h1 := Re.part_len (ls.take k) (fun l hl => Re.okRow_len (HQ.out.2 l hl))
    have h2 : (ls.take k).length ≤ k := List.length_take_le _ _
    omega
  by_cases hlt : k < n
  rotate_left
  · have hki : ¬ (k : Int) < (n : Int) := by omega
    have HF : Hid (Re.all ls = q ++ [0, 1]) := by
      show _ = _
      have hte : ls.take k = ls := List.take_of_length_le (by rw [HN.out]; omega)
      have h2 := HQ.out.2
      rw [hte] at h2
      rw [HQ.out.1, hte, Re.all_good (by rw [HN.out]; exact hnb) h2]
    obtain ⟨⟨v, hv, hrow⟩, hbel, hsz, hmk⟩ := HS.out
    have HV : Hid (Boxed W w.heap.size 22 v) := hv
    have HRW : Hid (OwnT W (w.heap.size + 1) v q.length q) := hrow
    have HMK : Hid (Marks (w.heap.size + 1) W.heap.size Ds W) := hmk
    have hvc := hv.cell
    clear hrow hv hmk HS HQ
    gi_wp2_with (gi_at_builtin; refine wpListIn_append_own _ rfl _ _ 22 rfl (w.heap.size + 1) 5 i0 (.int .u8 0) 1 1 Try.underlying22 hi0 hz0 hz1 hz2 rfl (by decide) v q.length (u8V q) rfl (World.ownsRow.alloc (show World.ownsRow _ _ _ _ _ _ _ from HRW.out) _) ⟨W.heap.size, 0, none⟩ 2 2 [.int .u8 0, .int .u8 1] rfl rfl (World.news_of_block (heap_alloc_new _ _)) (fun x hx => by simp at hx; rcases hx with rfl | rfl <;> rfl) (by unfold maxLen; omega) (by omega) (Nat.le_trans hsz (by simp)) ?_)
    intro v4 w4 hown4 hg4 _
    have hown5 : OwnT w4 (w.heap.size + 1) v4 (q.length + 2) (q ++ [0, 1]) := by
      unfold OwnT
      rw [← u8V_append, show u8V [0, 1] = [.int .u8 0, .int .u8 1] from rfl]
      exact hown4
    have htx := hown5.text
    have HB : Hid (Below w.heap.size w w4 ∧ Marks (w.heap.size + 1) W.heap.size Ds w4) := by
      have hA : World.ownsRow (W.alloc (.cells #[.int .u8 0, .int .u8 1] 5)) _ _ _ _ _ _ := World.ownsRow.alloc (show World.ownsRow _ _ _ _ _ _ _ from HRW.out) _
      have hW4 : WentP (fun _ => True) w.heap.size 0 47 W w4 := ((WentP.refl _ _ _ _ W).alloc (Nat.zero_le _) (by omega) (.cells #[.int .u8 0, .int .u8 1] 5)).append hA (fun _ _ => .inl trivial) (by decide) hg4 (Nat.zero_le _) (by omega) (by simp; omega)
      exact ⟨hbel.trans hW4.bl, HMK.out.others hW4.ko⟩
    clear hown4 hg4 hown5 HMK HRW hvc
    gi_wp2
    refine leaves_marks (fun _ => results_tmp rfl _ _ _) (w.heap.size + 1) W.heap.size Ds _ HB.out.2 (fun W' hW' => ⟨by rw [HF.out]; rfl, HB.out.1.trans (hW'.mono (by omega))⟩)
  have hki : (k : Int) < (n : Int) := by omega
  have hkl : k < ls.length := by rw [HN.out]; exact hlt
  obtain ⟨R, off0, a', cap', rfl, hR, hcell0, hints, hcap'⟩ := HR.out.at3 hkl
  have hmb : ls[k].length ≤ 2000000 := HM.out _ (List.getElem_mem hkl)
  have hcell : W.cell? ⟨R, off0 + k, none⟩ = some (.slice a' ls[k].length cap') := (HS.out.2.1.cell (p := ⟨R, off0 + k, none⟩) hR).trans hcell0
  have HIN : Hid (Ints w a' ls[k]) := hints
  have HIW : Hid (Ints W a' ls[k]) := hints.kept HS.out.2.1
  obtain ⟨l, hl⟩ : ∃ l, l = ls[k] := ⟨_, rfl⟩
  have HLK : Hid (l = ls[k]) := hl
  rw [← hl] at hcell HIN HIW hmb hcap'
  obtain ⟨m, hm⟩ : ∃ m, m = l.length := ⟨_, rfl⟩
  have HML : Hid (m = l.length) := hm
  rw [← hm] at hcell hmb hcap'
  clear hints hcell0 hl hm
  by_cases hbig : 100 < m
  · have hbi : decide ((m : Int) > 100) = true := by simp; omega
    have HF : Hid (Re.all ls = []) := Re.all_bad k hkl (Re.okRow_long (by rw [← HLK.out, ← HML.out]; exact hbig))
    have HMK : Hid (Marks (w.heap.size + 1) W.heap.size Ds W) := HS.out.2.2.2
    have HBL : Hid (Below w.heap.size w W) := HS.out.2.1
    clear HIN HIW HS HQ HR
    gi_wp2
    refine ⟨trivial, ?_⟩
    gi_wp2
    refine leaves_marks (fun _ => results_tmp rfl _ _ _) (w.heap.size + 1) W.heap.size Ds _ HMK.out (fun W' hW' => ⟨by rw [HF.out]; rfl, HBL.out.trans (hW'.mono (by omega))⟩)
  have hbi : decide ((m : Int) > 100) = false := by simp; omega
  have HNF : Hid (Calls Try.prog 23 #[.slice a' m cap', .int .i64 8] W fun e w' => e = .returned (.bool (Rt.fit 1 l)) ∧ w' = W) := numbersFit_any a' m cap' 8 1 l W HIW.out HML.out.symm hmb rfl (by omega)
  cases hft : Rt.fit 1 l with
  | false =>
    have HF : Hid (Re.all ls = []) := Re.all_bad k hkl (by unfold Re.okRow; rw [← HLK.out, hft, Bool.and_false])
    have HMK : Hid (Marks (w.heap.size + 1) W.heap.size Ds W) := HS.out.2.2.2
    have HBL : Hid (Below w.heap.size w W) := HS.out.2.1
    rw [hft] at HNF
    clear HIN HIW HS HQ HR hft
    gi_wp2
    refine ⟨trivial, ?_⟩
    gi_wp2
    refine (callsIn_wide.2 HNF.out).mono ?_
    rintro e w2 ⟨rfl, hw2⟩
    subst hw2
    clear HNF
    gi_wp2
    refine leaves_marks (fun _ => results_tmp rfl _ _ _) (w.heap.size + 1) w2.heap.size Ds _ HMK.out (fun W' hW' => ⟨by rw [HF.out]; rfl, HBL.out.trans (hW'.mono (by omega))⟩)
  | true =>
    have HFT : Hid (Rt.fit 1 l = true) := hft
    rw [hft] at HNF
    have HOK : Hid (Re.okRow l = true) := by unfold Re.okRow; show _ = true; rw [hft, ← HML.out, decide_eq_true (by omega)]; rfl
    obtain ⟨q2, hq2⟩ : ∃ q2, q2 = q ++ Re.sep k n := ⟨_, rfl⟩
    have HQ2 : Hid (q2 = q ++ Re.sep k n) := hq2
    clear hft hq2 HIW
    gi_upto_region 7 with fail
    gi_wp2
    refine ⟨trivial, ?_⟩
    gi_upto_if 26 with fail
    refine (callsIn_wide.2 HNF.out).mono ?_
    rintro e w2 ⟨rfl, hw2⟩
    replace hw2 := hw2.symm
    subst hw2
    clear HNF
    gi_upto_if 26 with fail
    gi_cut [] from 13 (fun wc => Hid (ReSt w Ds q2 wc))
    case first =>
      clear HR HM HIN HFT HOK hcell
      obtain ⟨⟨v, hv, hrow⟩, hbel, hsz, hmk⟩ := HS.out
      by_cases hk0 : 0 < k
      · have hq2 : q2 = q ++ [0, 0] := by rw [HQ2.out]; unfold Re.sep; rw [if_pos ⟨hk0, hlt⟩]
        have HQ3 : Hid (q2 = q ++ [0, 0]) := hq2
        have HV : Hid (Boxed W w.heap.size 22 v) := hv
        have HRW : Hid (OwnT W (w.heap.size + 1) v q.length q) := hrow
        have HMK : Hid (Marks (w.heap.size + 1) W.heap.size Ds W) := hmk
        have hvc := hv.cell
        clear hrow hv hmk HS HQ hq2 HQ2
        gi_wp2_with (gi_at_builtin; refine wpListIn_append_own _ rfl _ _ 22 rfl (w.heap.size + 1) 5 i0 (.int .u8 0) 1 1 Try.underlying22 hi0 hz0 hz1 hz2 rfl (by decide) v q.length (u8V q) rfl (World.ownsRow.alloc (show World.ownsRow _ _ _ _ _ _ _ from HRW.out) _) ⟨W.heap.size, 0, none⟩ 2 2 [.int .u8 0, .int .u8 0] rfl rfl (World.news_of_block (heap_alloc_new _ _)) (fun x hx => by simp at hx; rw [hx]; rfl) (by unfold maxLen; omega) (by omega) (Nat.le_trans hsz (by simp)) ?_)
        intro v4 w4 hown4 hg4 _
        obtain ⟨g, cap4, rfl⟩ := ownsRow_succ hown4
        have hown5 : OwnT w4 (w.heap.size + 1) (.slice (some ⟨g, 0, none⟩) (q.length + 2) cap4) (q.length + 2) q2 := by
          unfold OwnT
          rw [HQ3.out, ← u8V_append, show u8V [0, 0] = [.int .u8 0, .int .u8 0] from rfl]
          exact hown4
        have HE : Hid (ReSt w Ds q2 (w4.setCell ⟨w.heap.size, 0, none⟩ (.slice (some ⟨g, 0, none⟩) (q.length + 2) cap4))) := reSt_app hbel hsz HMK.out HV.out HRW.out _ hg4 hown5
        have hA : World.ownsRow (W.alloc (.cells #[.int .u8 0, .int .u8 0] 5)) _ _ _ _ _ _ := World.ownsRow.alloc (show World.ownsRow _ _ _ _ _ _ _ from HRW.out) _
        have hv4 : Boxed w4 w.heap.size 22 v := (HV.out.alloc _).kept hg4 (Boxed.not_row (HV.out.alloc _) (by decide) hA)
        have hv4c := hv4.cell
        have hv4f := hv4.frozen
        clear hown4 hg4 hown5 HMK HRW hvc hA hv4
        gi_wp2
        gi_meet
        case rel => exact HE
      · have hq2 : q2 = q := by rw [HQ2.out]; unfold Re.sep; rw [if_neg (by omega), List.append_nil]
        have HE : Hid (ReSt w Ds q2 W) := by rw [hq2]; exact HS
        have hk00 : k = 0 := by omega
        clear hq2 HQ2 HQ HS hv hrow hmk
        gi_wp2
        gi_meet
        case rel => exact HE
    case rest =>
      have HC : Hid (ReSt w Ds q2 wc) := hcut
      have hq2b : q2.length ≤ 30002 := by
        rw [HQ2.out, List.length_append]
        have : (Re.sep k n).length ≤ 2 := by unfold Re.sep; split <;> simp
        omega
      clear hcut HS hcell
      gi_wp2
      refine ⟨trivial, ?_⟩
      gi_wp2
      refine (callsIn_wide.2 (RI.stretchesOf_any a' m cap' 1 255 _)).mono ?_
      rintro e w3 ⟨rfl, hw3⟩
      gi_wp2
      clear hw3
      obtain ⟨⟨v, hv, hrow⟩, hbel, hsz, hmk⟩ := HC.out
      obtain ⟨b, off, hbb, hba, hlies⟩ := row_lies HIN.out wc.heap.size
      obtain ⟨P, hP⟩ : ∃ P : Nat → Prop, P = fun j => j = w.heap.size ∨ some j = v.ownBlock := ⟨_, rfl⟩
      have hvlo : ∀ j, v.ownBlock = some j → w.heap.size + 1 ≤ j ∧ j < wc.heap.size := fun j hj => World.ownsRow.lt (show World.ownsRow _ _ _ _ _ _ _ from hrow) j hj
      have HPN : ∀ j, wc.heap.size ≤ j → ¬ P j := fun j hj hp => by
        rw [hP] at hp
        rcases hp with hp | hp
        · omega
        · have := hvlo j hp.symm; omega
      have HPB : Hid (¬ P b) := by
        rcases hbb with hbb | hbb
        · intro hp
          rw [hP] at hp
          rcases hp with hp | hp
          · omega
          · have := hvlo b hp.symm; omega
        · exact HPN b (by omega)
      have HLI : Hid (∀ X, Below w.heap.size w X → wc.heap.size + 3 ≤ X.heap.size → RI.Lies X b off l) := fun X h1 h2 => hlies X h1 (by omega)
      have HPA : Hid (P w.heap.size) := by rw [hP]; exact .inl rfl
      have HPV : ∀ j, v.ownBlock = some j → P j ∨ wc.heap.size + 3 ≤ j := fun j hj => by rw [hP]; exact .inl (.inr hj.symm)
      have hbn : b < wc.heap.size + 3 := by omega
      have hbA : b ≠ w.heap.size := by omega
      obtain ⟨W0, hW0⟩ : ∃ W0, ((wc.alloc (.cells #[.slice a' m cap'] 26)).alloc (.cells #[.int .i64 1] 3)).alloc (.cells #[.int .i64 255] 3) = W0 := ⟨_, rfl⟩
      rw [hW0]
      have HZ : Hid (W0.heap.size = wc.heap.size + 3) := by show _ = _; rw [← hW0]; simp
      have HB0 : Hid (Below wc.heap.size wc W0) := by
        show Below _ _ _
        rw [← hW0]; exact (((Below.refl _ wc).alloc (Nat.le_refl _) _).alloc (by simp) _).alloc (by simp; omega) _
      have HBw : Hid (Below w.heap.size w W0) := hbel.trans (HB0.out.mono (by omega))
      have HBx : Hid (Boxed W0 w.heap.size 22 v) := by
        show Boxed _ _ _ _
        rw [← hW0]; exact ((hv.alloc _).alloc _).alloc _
      have HRx : Hid (OwnT W0 (w.heap.size + 1) v q2.length q2) := by
        show OwnT _ _ _ _ _
        rw [← hW0]; exact ((hrow.alloc _).alloc _).alloc _
      have HH : Hid (RI.Held W0 a' wc.heap.size (wc.heap.size + 2) (wc.heap.size + 1) b off cap' m 1 255 l) := by
        refine ⟨?_, ?_, ?_, hlies W0 HBw.out (by rw [HZ.out]; omega)⟩
        · rw [← hW0]
          exact (((Boxed.new wc 26 _).alloc _).alloc _).cell
        · rw [← hW0, show wc.heap.size + 2 = ((wc.alloc (.cells #[.slice a' m cap'] 26)).alloc (.cells #[.int .i64 1] 3)).heap.size by simp]
          exact (Boxed.new _ 3 _).cell
        · rw [← hW0, show wc.heap.size + 1 = (wc.alloc (.cells #[.slice a' m cap'] 26)).heap.size by simp]
          exact ((Boxed.new _ 3 _).alloc _).cell
      have HMK : Hid (Marks (w.heap.size + 1) (wc.heap.size + 3) Ds W0) := (hmk.below HB0.out (Nat.le_refl _)).up (by omega)
      clear hW0 hP hlies hmk hrow hv
      have HS := RI.stretchesP_stops 2 (by omega) a' wc.heap.size (wc.heap.size + 2) (wc.heap.size + 1) b off cap' m 1 255 (wc.heap.size + 3) P l W0 (by omega) (by omega) (by omega) hbn (HPN _ (Nat.le_refl _)) (HPN _ (by omega)) (HPN _ (by omega)) HPB.out (by rw [HZ.out]; exact Nat.le_refl _)
        HML.out.symm (by omega) (by omega) (by omega) (by omega) hcap' (by rw [← HML.out] at hba; exact hba) HH.out
      refine wpIn_rangeFunc_ownH hro (by omega) (gf := 41) (lb := _) rfl trivial (enters_of Try.func41 (by kernel_rfl) rfl)
        HS BsP.trans (BsP.book (by rw [HZ.out]; exact Nat.le_refl _)) (Below.refl _ _) (fun _ => rfl)
        (ReI w P (wc.heap.size + 3) Ds q2 l m) (fun _ _ _ => False) (reI_own w P _ Ds q2 l m _ (by rw [HZ.out]; exact Nat.le_refl _) (by omega)) (fun _ _ _ _ _ hs _ _ => hs)
        ⟨⟨v, HBx.out, by simp only [List.map_nil, Re.flat, List.flatMap_nil, List.append_nil]; exact HRx.out, HPV⟩, HBw.out, by rw [HZ.out]; exact Nat.le_refl _, HMK.out⟩
        (fun x a1 X => ∃ Bx, wc.heap.size + 3 ≤ Bx ∧ X.heap[Bx]? = some (.cells #[.slice (some ⟨b, off + x.1.1, none⟩) x.1.2.1 (cap' - x.1.1), .bool x.1.2.2] 47 (0, 0)) ∧
          a1 = { tmps := #[.slice (some ⟨R, off0, none⟩) n cap, undef, .string ⟨#[]⟩, .pointer (some ⟨w.heap.size, 0, none⟩), .int .i64 (k : Int), .slice a' m cap', .pointer (some ⟨Bx, 0, none⟩), .slice (some ⟨R, off0, none⟩) n cap, .int .i64 (n : Int), .bool false, .slice (some ⟨R, off0, none⟩) n cap, .int .i64 (n : Int), .int .i64 (k : Int), u13, u14, u15, u16, u17, u18, u19, u20, u21, u22, u23, u24, u25, u26, u27, u28, u29, .slice a' m cap', .func (.func 41) #[] #[.pointer (some ⟨wc.heap.size, 0, none⟩), .pointer (some ⟨wc.heap.size + 2, 0, none⟩), .pointer (some ⟨wc.heap.size + 1, 0, none⟩)], .agg #[.slice (some ⟨b, off + x.1.1, none⟩) x.1.2.1 (cap' - x.1.1), .bool x.1.2.2], u33, u34, u35, u36, u37, u38, u39, u40, u41, u42, u43, u44, u45, u46, u47, u48, u49], defers := [] })
        ?ax ?assign ?body ?done ?stop
      case ax =>
        rintro x a1 _ X Y row ⟨Bx, h1, h2, h3⟩ hg hrow
        refine ⟨Bx, h1, (hg.block Bx (lt_of_at h2) (fun e => ?_)).trans h2, h3⟩
        obtain ⟨_, o, ho, hc⟩ := hrow Bx e.symm
        rw [h2] at ho; cases ho; cases hc
      case assign =>
        rintro r pre x X K hi hK
        dsimp only [RI.enc]
        gi_wp2
        have hsX := hi.2.2.1
        exact hK _ _ ((KeepsOthers.alloc _ _).from _) (BsP.of ((Below.refl _ X).alloc hsX _)) ((reI_own w P _ Ds q2 l m _ (Nat.le_refl _) (by omega)).alloc _ hi) ⟨X.heap.size, hsX, heap_alloc_new _ _, rfl⟩
      case body =>
        rintro r pre ⟨⟨i, z, ag⟩, hk1, hzl, hzm⟩ a1 X _ ⟨rr, hrr⟩ hI ⟨Bx, hBx, hbx, rfl⟩ hpl
        have HI : Hid (ReI w P (wc.heap.size + 3) Ds q2 l m pre X) := hI
        obtain ⟨⟨v1, hv1, hrow1, hP1⟩, hbelX, hsX, hmkX⟩ := hI
        dsimp only at hk1 hzl hzm hbx
        have hfl := Re.flat_len l (pre.map Subtype.val)
        rw [List.length_map] at hfl
        have hpl2 : pre.length ≤ 100 := by
          have h1 := Rn.all_len (least := 1) (m := 255) (l := l) (l.length - 0) 0
          have h2 : (Rn.from_ 1 255 l 0).length ≤ l.length - 0 := h1
          rw [← HML.out] at h2
          omega
        obtain ⟨q1, hq1⟩ : ∃ q1, q1 = q2 ++ Re.flat l (pre.map Subtype.val) := ⟨_, rfl⟩
        obtain ⟨m1, hm1⟩ : ∃ m1, m1 = q1.length := ⟨_, rfl⟩
        rw [← hq1, ← hm1] at hrow1
        have hmb1 : m1 ≤ 40000 := by rw [hm1, hq1, List.length_append]; omega
        have HR1 : Hid (OwnT X (w.heap.size + 1) v1 m1 q1) := hrow1
        have HV1 : Hid (Boxed X w.heap.size 22 v1) := hv1
        have HP1 : Hid (∀ j, v1.ownBlock = some j → P j ∨ wc.heap.size + 3 ≤ j) := hP1
        have HX : Hid (X.heap[Bx]? = some (.cells #[.slice (some ⟨b, off + i, none⟩) z (cap' - i), .bool ag] 47 (0, 0))) := hbx
        have hBA : Bx ≠ w.heap.size := by omega
        have hAX : w.heap.size + 1 ≤ X.heap.size := by omega
        have hck : 1 ≤ cap' - i := by omega
        have hzck : z ≤ cap' - i := by omega
        have c0 := cell_two0 hbx
        have hvc := hv1.cell
        have hvf := hv1.frozen
        have hil : i < l.length := by rw [← HML.out]; omega
        obtain ⟨y, hy⟩ : ∃ y, y = (l[i]).toNat := ⟨_, rfl⟩
        have hfi := Rt.fit_at HFT.out i hil
        have e256 : ((256 ^ 1 : Nat) : Int) = 256 := by decide
        rw [e256] at hfi
        have hyl : l[i] = (y : Int) := by rw [hy]; omega
        have hyb : y < 256 := by omega
        have cy : X.cell? ⟨b, off + i, none⟩ = some (.int .i64 (y : Int)) := by
          have h1 := (HLI.out X hbelX hsX).2 i hil
          rw [h1, hyl]
        obtain ⟨u, hu⟩ : ∃ u, u = (UInt8.ofNat z).toNat := ⟨_, rfl⟩
        have e2 : IntKind.u8.wrap (z : Int) = (u : Int) := by rw [hu]; simp [IntKind.wrap, IntKind.bits, IntKind.signed]
        have e3 : IntKind.u8.wrap (y : Int) = (y : Int) := by simp [IntKind.wrap, IntKind.bits, IntKind.signed]; omega
        have HU : Hid (u8V [UInt8.ofNat z, UInt8.ofNat y] = [.int .u8 (u : Int), .int .u8 (y : Int)]) := by
          show _ = _
          rw [hu]; simp [u8V]; omega
        have HQ1 : Hid (q1 ++ [UInt8.ofNat z, UInt8.ofNat y] = q2 ++ Re.flat l (pre.map Subtype.val) ++ Re.piece l (i, z, ag)) := by
          show _ = _
          rw [hq1]
          unfold Re.piece
          rw [show l.getD i 0 = l[i] by rw [List.getD_eq_getElem?_getD, List.getElem?_eq_getElem hil]; rfl, ← hy]
        have SA0 : (X.drew.alloc (.cells #[.int .u8 (u : Int), .int .u8 (y : Int)] 5)).cell? ⟨Bx, 0, none⟩ = some (.slice (some ⟨b, off + i, none⟩) z (cap' - i)) := (World.cell?_alloc_some X _ _ (by rw [c0]; rfl)).trans c0
        have SA1 : (X.drew.alloc (.cells #[.int .u8 (u : Int), .int .u8 (y : Int)] 5)).cell? ⟨b, off + i, none⟩ = some (.int .i64 (y : Int)) := (World.cell?_alloc_some X _ _ (by rw [cy]; rfl)).trans cy
        have hzc : 0 < z := by omega
        clear hrow1 hv1 hbx hfl hpl hm1 hq1 HS HH HB0 HBx HRx hrr hy hyl hfi hu hil e256 HQ2 HQ HBw HC HPN hmkX hP1 hpl2
        gi_wp2
        refine round_region_held (S := fun w' => w'.cell? ⟨Bx, 0, none⟩ = some (.slice (some ⟨b, off + i, none⟩) z (cap' - i)) ∧ w'.cell? ⟨b, off + i, none⟩ = some (.int .i64 (y : Int))) (by kernel_rfl) (fun _ _ h => h) (by kernel_rfl) ⟨c0, cy⟩ (fun _ => ?_)
        refine wpAnyH_take (i := 1) (v := .pointer (some ⟨Bx, 0, none⟩)) rfl (by kernel_rfl) (by kernel_rfl) (by kernel_rfl) (fun _ _ _ h => h) (Or.inl ⟨by rfl, ?_⟩) ⟨c0, cy⟩ ?_
        · rintro w' ⟨s1, s2⟩
          go_simp
        try simp only [Act.put, List.setIfInBounds_toArray, List.set_cons_zero, List.set_cons_succ]
        refine wpAnyH_take (i := 2) (v := .slice (some ⟨b, off + i, none⟩) z (cap' - i)) rfl (by kernel_rfl) (by kernel_rfl) (by kernel_rfl) (fun _ _ _ h => h) (Or.inl ⟨by rfl, ?_⟩) ⟨c0, cy⟩ ?_
        · rintro w' ⟨s1, s2⟩
          go_simp
        try simp only [Act.put, List.setIfInBounds_toArray, List.set_cons_zero, List.set_cons_succ]
        refine wpAnyH_take (i := 3) (v := .int .i64 (z : Int)) rfl (by kernel_rfl) (by kernel_rfl) (by kernel_rfl) (fun _ _ _ h => h) (Or.inl ⟨by rfl, ?_⟩) ⟨c0, cy⟩ ?_
        · rintro w' ⟨s1, s2⟩
          go_simp
        try simp only [Act.put, List.setIfInBounds_toArray, List.set_cons_zero, List.set_cons_succ]
        refine wpAnyH_take (i := 4) (v := .int .u8 (u : Int)) rfl (by kernel_rfl) (by kernel_rfl) (by kernel_rfl) (fun _ _ _ h => h) (Or.inl ⟨by rfl, ?_⟩) ⟨c0, cy⟩ ?_
        · rintro w' ⟨s1, s2⟩
          go_simp
        try simp only [Act.put, List.setIfInBounds_toArray, List.set_cons_zero, List.set_cons_succ]
        refine wpAnyH_take (i := 5) (v := .pointer (some ⟨Bx, 0, none⟩)) rfl (by kernel_rfl) (by kernel_rfl) (by kernel_rfl) (fun _ _ _ h => h) (Or.inl ⟨by rfl, ?_⟩) ⟨c0, cy⟩ ?_
        · rintro w' ⟨s1, s2⟩
          go_simp
        try simp only [Act.put, List.setIfInBounds_toArray, List.set_cons_zero, List.set_cons_succ]
        refine wpAnyH_take (i := 6) (v := .slice (some ⟨b, off + i, none⟩) z (cap' - i)) rfl (by kernel_rfl) (by kernel_rfl) (by kernel_rfl) (fun _ _ _ h => h) (Or.inl ⟨by rfl, ?_⟩) ⟨c0, cy⟩ ?_
        · rintro w' ⟨s1, s2⟩
          go_simp
        try simp only [Act.put, List.setIfInBounds_toArray, List.set_cons_zero, List.set_cons_succ]
        refine wpAnyH_take (i := 7) (v := .pointer (some ⟨b, off + i, none⟩)) rfl (by kernel_rfl) (by kernel_rfl) (by kernel_rfl) (fun _ _ _ h => h) (Or.inl ⟨by rfl, ?_⟩) ⟨c0, cy⟩ ?_
        · rintro w' ⟨s1, s2⟩
          go_simp
        try simp only [Act.put, List.setIfInBounds_toArray, List.set_cons_zero, List.set_cons_succ]
        refine wpAnyH_take (i := 8) (v := .int .i64 (y : Int)) rfl (by kernel_rfl) (by kernel_rfl) (by kernel_rfl) (fun _ _ _ h => h) (Or.inl ⟨by rfl, ?_⟩) ⟨c0, cy⟩ ?_
        · rintro w' ⟨s1, s2⟩
          go_simp
        try simp only [Act.put, List.setIfInBounds_toArray, List.set_cons_zero, List.set_cons_succ]
        refine wpAnyH_take (i := 9) (v := .int .u8 (y : Int)) rfl (by kernel_rfl) (by kernel_rfl) (by kernel_rfl) (fun _ _ _ h => h) (Or.inl ⟨by rfl, ?_⟩) ⟨c0, cy⟩ ?_
        · rintro w' ⟨s1, s2⟩
          go_simp
        try simp only [Act.put, List.setIfInBounds_toArray, List.set_cons_zero, List.set_cons_succ]
        refine wpAnyH_ready (rs := [0, 10]) (by kernel_rfl) (by simp) ?_
        refine AllReadyH.cons rfl (fun K hK => ?_) (AllReadyH.cons rfl (fun K hK => ?_) AllReadyH.nil)
        · go_simp
          refine hK.out _ _ ⟨c0, cy⟩ (fun _ => ?_)
          clear hK K
          try simp only [Act.put, List.setIfInBounds_toArray, List.set_cons_zero, List.set_cons_succ]
          refine wpAnyH_ready (rs := [10]) (by kernel_rfl) (by simp) ?_
          refine AllReadyH.cons rfl (fun K hK => ?_) AllReadyH.nil
          go_simp
          refine hK.out _ _ ⟨SA0, SA1⟩ (fun _ => ?_)
          clear hK K
          try simp only [Act.put, List.setIfInBounds_toArray, List.set_cons_zero, List.set_cons_succ]
          refine wpAnyH_ready (rs := [11]) (by kernel_rfl) (by simp) ?_
          refine AllReadyH.cons rfl (fun K hK => ?_) AllReadyH.nil
          refine step_append_lies _ (by rfl) _ _ _ (by rfl) (w.heap.size + 1) 5 i0 (.int .u8 0) 1 1 Try.underlying22 hi0 hz0 hz1 hz2 rfl (by decide) v1 m1 (u8V q1) (by rfl) (World.ownsRow.alloc (show World.ownsRow _ _ _ _ _ _ _ from HR1.out) _) ⟨X.heap.size, 0, none⟩ 2 2 [.int .u8 (u : Int), .int .u8 (y : Int)] (by rfl) rfl (World.news_of_block (heap_alloc_new _ _)) (fun x hx => by simp at hx; rcases hx with rfl | rfl <;> rfl) (by decide) (by unfold maxLen; omega) (by omega) (Nat.le_trans hAX (by simp)) _ rfl ?_
          intro g cap4 w4 hown4 hg4 hg5 _
          have hW4 : WentP P w.heap.size (wc.heap.size + 3) 47 X w4 := (((WentP.refl _ _ _ _ X).drew.alloc (X := X.drew) hsX (show w.heap.size ≤ X.heap.size by omega) (.cells #[.int .u8 (u : Int), .int .u8 (y : Int)] 5))).append (World.ownsRow.alloc (show World.ownsRow _ _ _ _ _ _ _ from HR1.out) _) HP1.out (by decide) hg4 (Nat.le_trans hsX (by simp)) (by omega) (by simp; omega)
          have hvA' : Boxed (X.alloc (.cells #[.int .u8 (u : Int), .int .u8 (y : Int)] 5)).drew w.heap.size 22 v1 := HV1.out.alloc (.cells #[.int .u8 (u : Int), .int .u8 (y : Int)] 5)
          have hv4 : Boxed w4 w.heap.size 22 v1 := hvA'.kept hg4 (Boxed.not_row hvA' (by decide) (World.ownsRow.alloc (show World.ownsRow _ _ _ _ _ _ _ from HR1.out) _))
          have hx4 := hW4.bx _ _ _ HX.out
          have hown5 : OwnT w4 (w.heap.size + 1) (.slice (some ⟨g, 0, none⟩) (m1 + 2) cap4) (m1 + 2) (q1 ++ [UInt8.ofNat z, UInt8.ofNat y]) := by
            unfold OwnT
            rw [← u8V_append, HU.out]
            exact hown4
          have hP4 : ∀ j, (Value.slice (some ⟨g, 0, none⟩) (m1 + 2) cap4).ownBlock = some j → P j ∨ wc.heap.size + 3 ≤ j := fun j hj => by
            simp [Value.ownBlock] at hj
            subst hj
            rcases hg5 with hg5 | hg5
            · exact HP1.out _ hg5
            · right; rw [hg5]; simp; omega
          have c0' := cell_two0 hx4
          have cy' : w4.cell? ⟨b, off + i, none⟩ = some (.int .i64 (y : Int)) := (World.cell?_of_block (w := X) (a := ⟨b, off + i, none⟩) (hW4.bs.2 b hbn HPB.out)).trans cy
          refine hK.out _ _ ⟨c0', cy'⟩ (fun _ => ?_)
          clear hK K
          try simp only [Act.put, List.setIfInBounds_toArray, List.set_cons_zero, List.set_cons_succ]
          refine wpAnyH_ready (rs := [12]) (by kernel_rfl) (by simp) ?_
          refine AllReadyH.cons rfl (fun K hK => ?_) AllReadyH.nil
          have hv4c := hv4.cell
          have hv4f := hv4.frozen
          go_simp
          refine hK.out _ _ ⟨(World.cell?_setCell_other _ _ _ _ (fun e => hBA (congrArg Addr.block e).symm)).trans c0', (World.cell?_setCell_other _ _ _ _ (fun e => hbA (congrArg Addr.block e).symm)).trans cy'⟩ (fun _ => ?_)
          clear hK K
          try simp only [Act.put, List.setIfInBounds_toArray, List.set_cons_zero, List.set_cons_succ]
          refine wpAnyH_done (by kernel_rfl) ?_ _
          exact re_end HI.out (hW4.store hv4 HPA.out (by decide) _) (hv4.set _) (World.ownsRow.kept (show World.ownsRow _ _ _ _ _ _ _ from hown5) (grownBy_setCell' w4 w.heap.size _) (.inr (hv4.not_row (by decide) (show World.ownsRow _ _ _ _ _ _ _ from hown5)).symm)) hP4 HQ1.out _
        · go_simp
          refine hK.out _ _ ⟨SA0, SA1⟩ (fun _ => ?_)
          clear hK K
          try simp only [Act.put, List.setIfInBounds_toArray, List.set_cons_zero, List.set_cons_succ]
          refine wpAnyH_ready (rs := [0]) (by kernel_rfl) (by simp) ?_
          refine AllReadyH.cons rfl (fun K hK => ?_) AllReadyH.nil
          have hvA : (X.alloc (.cells #[.int .u8 (u : Int), .int .u8 (y : Int)] 5)).cell? ⟨w.heap.size, 0, none⟩ = some v1 := (HV1.out.alloc (.cells #[.int .u8 (u : Int), .int .u8 (y : Int)] 5)).cell
          go_simp
          refine hK.out _ _ ⟨SA0, SA1⟩ (fun _ => ?_)
          clear hK K
          try simp only [Act.put, List.setIfInBounds_toArray, List.set_cons_zero, List.set_cons_succ]
          refine wpAnyH_ready (rs := [11]) (by kernel_rfl) (by simp) ?_
          refine AllReadyH.cons rfl (fun K hK => ?_) AllReadyH.nil
          refine step_append_lies _ (by rfl) _ _ _ (by rfl) (w.heap.size + 1) 5 i0 (.int .u8 0) 1 1 Try.underlying22 hi0 hz0 hz1 hz2 rfl (by decide) v1 m1 (u8V q1) (by rfl) (World.ownsRow.alloc (show World.ownsRow _ _ _ _ _ _ _ from HR1.out) _) ⟨X.heap.size, 0, none⟩ 2 2 [.int .u8 (u : Int), .int .u8 (y : Int)] (by rfl) rfl (World.news_of_block (heap_alloc_new _ _)) (fun x hx => by simp at hx; rcases hx with rfl | rfl <;> rfl) (by decide) (by unfold maxLen; omega) (by omega) (Nat.le_trans hAX (by simp)) _ rfl ?_
          intro g cap4 w4 hown4 hg4 hg5 _
          have hW4 : WentP P w.heap.size (wc.heap.size + 3) 47 X w4 := (((WentP.refl _ _ _ _ X).drew.alloc (X := X.drew) hsX (show w.heap.size ≤ X.heap.size by omega) (.cells #[.int .u8 (u : Int), .int .u8 (y : Int)] 5))).append (World.ownsRow.alloc (show World.ownsRow _ _ _ _ _ _ _ from HR1.out) _) HP1.out (by decide) hg4 (Nat.le_trans hsX (by simp)) (by omega) (by simp; omega)
          have hvA' : Boxed (X.alloc (.cells #[.int .u8 (u : Int), .int .u8 (y : Int)] 5)).drew w.heap.size 22 v1 := HV1.out.alloc (.cells #[.int .u8 (u : Int), .int .u8 (y : Int)] 5)
          have hv4 : Boxed w4 w.heap.size 22 v1 := hvA'.kept hg4 (Boxed.not_row hvA' (by decide) (World.ownsRow.alloc (show World.ownsRow _ _ _ _ _ _ _ from HR1.out) _))
          have hx4 := hW4.bx _ _ _ HX.out
          have hown5 : OwnT w4 (w.heap.size + 1) (.slice (some ⟨g, 0, none⟩) (m1 + 2) cap4) (m1 + 2) (q1 ++ [UInt8.ofNat z, UInt8.ofNat y]) := by
            unfold OwnT
            rw [← u8V_append, HU.out]
            exact hown4
          have hP4 : ∀ j, (Value.slice (some ⟨g, 0, none⟩) (m1 + 2) cap4).ownBlock = some j → P j ∨ wc.heap.size + 3 ≤ j := fun j hj => by
            simp [Value.ownBlock] at hj
            subst hj
            rcases hg5 with hg5 | hg5
            · exact HP1.out _ hg5
            · right; rw [hg5]; simp; omega
          have c0' := cell_two0 hx4
          have cy' : w4.cell? ⟨b, off + i, none⟩ = some (.int .i64 (y : Int)) := (World.cell?_of_block (w := X) (a := ⟨b, off + i, none⟩) (hW4.bs.2 b hbn HPB.out)).trans cy
          refine hK.out _ _ ⟨c0', cy'⟩ (fun _ => ?_)
          clear hK K
          try simp only [Act.put, List.setIfInBounds_toArray, List.set_cons_zero, List.set_cons_succ]
          refine wpAnyH_ready (rs := [12]) (by kernel_rfl) (by simp) ?_
          refine AllReadyH.cons rfl (fun K hK => ?_) AllReadyH.nil
          have hv4c := hv4.cell
          have hv4f := hv4.frozen
          go_simp
          refine hK.out _ _ ⟨(World.cell?_setCell_other _ _ _ _ (fun e => hBA (congrArg Addr.block e).symm)).trans c0', (World.cell?_setCell_other _ _ _ _ (fun e => hbA (congrArg Addr.block e).symm)).trans cy'⟩ (fun _ => ?_)
          clear hK K
          try simp only [Act.put, List.setIfInBounds_toArray, List.set_cons_zero, List.set_cons_succ]
          refine wpAnyH_done (by kernel_rfl) ?_ _
          exact re_end HI.out (hW4.store hv4 HPA.out (by decide) _) (hv4.set _) (World.ownsRow.kept (show World.ownsRow _ _ _ _ _ _ _ from hown5) (grownBy_setCell' w4 w.heap.size _) (.inr (hv4.not_row (by decide) (show World.ownsRow _ _ _ _ _ _ _ from hown5)).symm)) hP4 HQ1.out _
      case done =>
        rintro D ys X hD hys ⟨⟨v1, hv1, hrow1, hP1⟩, hbelX, hsX, hmkX⟩ hK
        rw [hys] at hrow1
        have HQN : Hid (q2 ++ Re.flat l (Rn.from_ 1 255 l 0) = Re.part (ls.take (k + 1)) ∧ ∀ l ∈ ls.take (k + 1), Re.okRow l = true) := by
          refine ⟨?_, fun r hr => ?_⟩
          · rw [HQ2.out, HQ.out.1, ← Re.part_step hkl, HN.out, ← HLK.out]; rfl
          · rw [List.take_succ_eq_append_getElem hkl, List.mem_append, List.mem_singleton] at hr
            rcases hr with hr | hr
            · exact HQ.out.2 r hr
            · rw [hr, ← HLK.out]; exact HOK.out
        have HSN : Hid (ReSt w (D :: Ds) (q2 ++ Re.flat l (Rn.from_ 1 255 l 0)) X) := ⟨⟨v1, hv1, hrow1⟩, hbelX, by omega, hmkX.cons (by rw [HZ.out] at hD; exact hD) (by rw [HZ.out] at hD; omega) hK (lt_of_at hK)⟩
        have hk62 : k < 1000 := by omega
        clear HS HC hv1 hrow1 hP1 hmkX
        gi_wp2
        refine ⟨⟨k + 1, D :: Ds, _, ⟨by omega, HQN, HSN⟩, _, _, _, _, _, _, _, _, _, _, _, _, _, _, _, _, _, _, _, _, _, _, _, _, _, _, _, _, _, _, _, _, _, _, _, _, _, _, _, _, rfl⟩, ?_⟩
        simp [intOf]
        omega
      case stop =>
        rintro D c pre X _ _ h _
        exact h.elim
end Go.Proofs.Ytlpfedhehfbfeaa

/- RlePut of the program, at every rows. -/
namespace Go.Proofs.Ytlpfedhehfbfeaa
open Go.RowKit

set_option maxHeartbeats 1000000 in
theorem impl_rlePut (a : Option Addr) (n cap : Nat) (ls : List (List Int)) (w : World) (h : Rows2 w a ls) (hn : ls.length = n) (hnb : n ≤ 2000000) (hm : ∀ l ∈ ls, l.length ≤ 2000000) :
    Calls Try.prog 8 #[.slice a n cap] w fun e w' => e = .returned (.string ⟨(Re.all ls).toArray⟩) ∧ Below w.heap.size w w' := by
  by_cases hbig : 100 < n
  · have hbi : (100 : Int) < (n : Int) := by omega
    have HF : Hid (Re.all ls = []) := Re.all_many (by omega)
    clear h hn hm
    go_enter Try.func8, Try.ntmps8
    go_wp2_with fail
    go_ret
    exact ⟨by rw [HF.out]; rfl, Below.refl _ _⟩
  · exact callsIn_wide.1 (impl_rlePut_in a n cap ls w h hn (by omega) hm)

end Go.Proofs.Ytlpfedhehfbfeaa

/- RleGet of the program. -/
namespace Go.Proofs.Ytlpfedhehfbfeaa
open Go.RowKit Go.Shelf

/-- so many rows of W numbers, in memory of the call's own -/
def RowsAre (base : Nat) (w : World) (ao : Option Addr) (n W : Nat) (g : Rl.Grid) : Prop :=
  n = 0 ∨ ∃ (R : Nat) (G : List Nat), ao = some ⟨R, 0, none⟩ ∧ G.length = n ∧ base ≤ R ∧ R < w.heap.size ∧ Gd base w R G W g
/-- how RleGet ends -/
def RlAns (w : World) (s : ByteArray) (W H : Int) (e : Ending) (w' : World) : Prop :=
  Below w.heap.size w w' ∧ ((Rl.res s W H = none ∧ ∃ ao cap, e = .returned (.tuple #[.slice ao 0 cap, .bool false])) ∨ ∃ g, Rl.res s W H = some g ∧ ∃ ao cap, e = .returned (.tuple #[.slice ao H.toNat cap, .bool true]) ∧ RowsAre w.heap.size w' ao H.toNat W.toNat g)
theorem rlAns_no {w w' : World} {s : ByteArray} {W H : Int} {e : Ending} {ao : Option Addr} {cap : Nat} (h : Rl.res s W H = none) (h1 : e = .returned (.tuple #[.slice ao 0 cap, .bool false])) (h2 : Below w.heap.size w w') : RlAns w s W H e w' := ⟨h2, .inl ⟨h, ao, cap, h1⟩⟩

/-- the work was done -/
def RwYes (w : World) (W H : Nat) (s : ByteArray) (w' : World) : Prop :=
  (∃ g x y, Rl.get s W H 0 Rl.zero 0 0 = some g ∧ Sh w' (w.heap.size + 3) (.slice (some ⟨w.heap.size + 2, 0, none⟩) H H) x y ∧ Gd (w.heap.size + 2) w' (w.heap.size + 2) (rowsAt (w.heap.size + 2) H) W g) ∧ Boxed w' (w.heap.size + 4 + H) 53 (.pointer (some ⟨w.heap.size + 3, 0, none⟩)) ∧ Below w.heap.size w w' ∧ w.heap.size + 2 < w'.heap.size
/-- it broke off -/
def RwNo (w : World) (W H : Nat) (s : ByteArray) (c : Int) (w' : World) : Prop := c ≠ 0 ∧ Rl.get s W H 0 Rl.zero 0 0 = none ∧ Below w.heap.size w w'
theorem rl_up {w w' : World} {k : Nat} {T : TypeId} {v : Value} (h : Boxed w k T v) (b : Below w.heap.size w w') : Boxed w' k T v := (b.block k (rl_lt h)).trans h

set_option maxHeartbeats 4000000 in
set_option maxRecDepth 20000 in
theorem impl_rleGet (s : ByteArray) (wd hi : Int) (w : World) (hs : s.size ≤ 3000000) :
    Calls Try.prog 10 #[.string s, .int .i64 wd, .int .i64 hi] w (RlAns w s wd hi) := by
  by_cases hv : Rl.Valid s wd hi
  rotate_left
  · have HF : Hid (Rl.res s wd hi = none) := Rl.res_no hv
    unfold Rl.Valid at hv
    by_cases a1 : wd < 0
    · have d1 : decide (wd < 0) = true := decide_eq_true a1
      clear hv
      go_enter Try.func10, Try.ntmps10
      go_wp2_with fail
      exact bodyPost_ret (v := .tuple #[.slice none 0 0, .bool false]) (by simp [results, Try.results10, go_sem]) rfl (rlAns_no HF.out rfl (Below.refl _ _))
    have d1 : decide (wd < 0) = false := decide_eq_false a1
    by_cases a2 : wd > 100
    · have d2 : decide (wd > 100) = true := decide_eq_true a2
      clear hv
      go_enter Try.func10, Try.ntmps10
      go_wp2_with fail
      exact bodyPost_ret (v := .tuple #[.slice none 0 0, .bool false]) (by simp [results, Try.results10, go_sem]) rfl (rlAns_no HF.out rfl (Below.refl _ _))
    have d2 : decide (wd > 100) = false := decide_eq_false a2
    by_cases a3 : hi < 0
    · have d3 : decide (hi < 0) = true := decide_eq_true a3
      clear hv
      go_enter Try.func10, Try.ntmps10
      go_wp2_with fail
      exact bodyPost_ret (v := .tuple #[.slice none 0 0, .bool false]) (by simp [results, Try.results10, go_sem]) rfl (rlAns_no HF.out rfl (Below.refl _ _))
    have d3 : decide (hi < 0) = false := decide_eq_false a3
    by_cases a4 : hi > 100
    · have d4 : decide (hi > 100) = true := decide_eq_true a4
      clear hv
      go_enter Try.func10, Try.ntmps10
      go_wp2_with fail
      exact bodyPost_ret (v := .tuple #[.slice none 0 0, .bool false]) (by simp [results, Try.results10, go_sem]) rfl (rlAns_no HF.out rfl (Below.refl _ _))
    have d4 : decide (hi > 100) = false := decide_eq_false a4
    have d5 : decide ((s.size : Int) > 9000) = true := decide_eq_true (by omega)
    have a5 : (9000 : Int) < (s.size : Int) := by omega
    clear hv
    go_enter Try.func10, Try.ntmps10
    go_wp2_with fail
    exact bodyPost_ret (v := .tuple #[.slice none 0 0, .bool false]) (by simp [results, Try.results10, go_sem]) rfl (rlAns_no HF.out rfl (Below.refl _ _))
  have hv' := hv
  obtain ⟨v1, v2, v3, v4, v5⟩ := hv'
  obtain ⟨W, rfl⟩ := Int.eq_ofNat_of_zero_le v2
  obtain ⟨H, rfl⟩ := Int.eq_ofNat_of_zero_le v4
  have HRES : Hid (Rl.res s (W : Int) (H : Int) = Rl.get s W H 0 Rl.zero 0 0) := Rl.res_ok hv
  have hW : W ≤ 100 := by omega
  have hH : H ≤ 100 := by omega
  have dn : ¬ (9000 : Int) < (s.size : Int) := by omega
  obtain ⟨W2, hW2⟩ : ∃ W2, W2 = (w.alloc (.cells #[.string s, .int .i64 0] 52)).alloc (.cells #[.pointer (some ⟨w.heap.size, 0, none⟩)] 50) := ⟨_, rfl⟩
  have hs2 : W2.heap.size = w.heap.size + 2 := by rw [hW2]; simp
  have HX2 : Hid (Br W2 w.heap.size s 0 ∧ Boxed W2 (w.heap.size + 1) 50 (.pointer (some ⟨w.heap.size, 0, none⟩)) ∧ Below w.heap.size w W2) := by
    rw [hW2]
    refine ⟨(Below.heap_alloc _ _ _ (by simp)).trans (World.alloc_heap_new w _), ?_, ((Below.refl _ _).alloc (Nat.le_refl _) _).alloc (by simp) _⟩
    have := World.alloc_heap_new (w.alloc (.cells #[.string s, .int .i64 0] 52)) (.cells #[.pointer (some ⟨w.heap.size, 0, none⟩)] 50)
    unfold Boxed
    simpa using this
  have hW2' : (w.alloc (.cells #[.string s, .int .i64 0] 52)).alloc (.cells #[.pointer (some ⟨w.heap.size, 0, none⟩)] 50) = W2 := hW2.symm
  have HNS : Hid (Calls Try.prog 27 #[.int .i64 (W : Int), .int .i64 (H : Int)] W2 fun e w' => e = .returned (.pointer (some ⟨w.heap.size + 3, 0, none⟩)) ∧ Ns W2 (w.heap.size + 2) W H H w') := by
    have h := newSheet_any W H W2 hW hH
    rw [hs2] at h
    exact h
  have hmf : ∀ (fn : Fn) (first cap : Array Value) (w : World), (Instr.makeFunc fn first cap).run Try.prog w = .ok (.func fn first cap) w := fun _ _ _ _ => rfl
  have f1 : ¬ (W : Int) < 0 := by omega
  have f2 : ¬ (100 : Int) < (W : Int) := by omega
  have f3 : ¬ (H : Int) < 0 := by omega
  have f4 : ¬ (100 : Int) < (H : Int) := by omega
  clear hW2 hv
  go_enter Try.func10, Try.ntmps10
  go_wp2_with fail
  refine HNS.out.mono ?_
  rintro e w3 ⟨rfl, hns⟩
  have hz3 := hns.size
  obtain ⟨W4, hW4⟩ : ∃ W4, W4 = w3.alloc (.cells #[.pointer (some ⟨w.heap.size + 3, 0, none⟩)] 53) := ⟨_, rfl⟩
  have hW4' : w3.alloc (.cells #[.pointer (some ⟨w.heap.size + 3, 0, none⟩)] 53) = W4 := hW4.symm
  have hz4 : W4.heap.size = w.heap.size + 5 + H := by rw [hW4, World.size_alloc, hz3]; omega
  have HWK : Hid (Calls Try.prog 29 #[.pointer (some ⟨w.heap.size + 4 + H, 0, none⟩), .pointer (some ⟨w.heap.size + 1, 0, none⟩)] (W4.alloc (.cells #[.int .i64 0] 3)) fun e w' => Boxed w' W4.heap.size 3 (.int .i64 0) ∧ ((∃ v, e = .returned v) ∧ RwYes w W H s w' ∨ ∃ c, e = fault c ∧ RwNo w W H s c w')) := by
    obtain ⟨x0, x1, x2⟩ := HX2.out
    have b3 : Below (w.heap.size + 2) W2 w3 := hns.below
    have b4 : Below w3.heap.size w3 W4 := by rw [hW4]; exact (Below.refl _ _).alloc (Nat.le_refl _) _
    have b5 : Below W4.heap.size W4 (W4.alloc (.cells #[.int .i64 0] 3)) := (Below.refl _ _).alloc (Nat.le_refl _) _
    obtain ⟨W5, hW5⟩ : ∃ W5, W5 = W4.alloc (.cells #[.int .i64 0] 3) := ⟨_, rfl⟩
    rw [← hW5] at b5 ⊢
    have hz5 : W5.heap.size = w.heap.size + 6 + H := by rw [hW5, World.size_alloc, hz4]; omega
    have bw : Below w.heap.size w W5 := ((x2.trans (b3.mono (by omega))).trans (b4.mono (by omega))).trans (b5.mono (by omega))
    have hBr : Br W5 w.heap.size s 0 := ((b5.block _ (by omega)).trans ((b4.block _ (by omega)).trans ((b3.block _ (by omega)).trans x0)))
    have hIB : Boxed W5 (w.heap.size + 1) 50 (.pointer (some ⟨w.heap.size, 0, none⟩)) := ((b5.block _ (by omega)).trans ((b4.block _ (by omega)).trans ((b3.block _ (by omega)).trans x1)))
    have hSB4 : Boxed W4 (w.heap.size + 4 + H) 53 (.pointer (some ⟨w.heap.size + 3, 0, none⟩)) := by
      have := World.alloc_heap_new w3 (.cells #[.pointer (some ⟨w.heap.size + 3, 0, none⟩)] 53)
      rw [hz3, ← hW4, show w.heap.size + 2 + 2 + H = w.heap.size + 4 + H by omega] at this
      exact this
    have hSB : Boxed W5 (w.heap.size + 4 + H) 53 (.pointer (some ⟨w.heap.size + 3, 0, none⟩)) := rl_up hSB4 b5
    have k35 : ∀ k, k < w3.heap.size → W5.heap[k]? = w3.heap[k]? := fun k hk => (b5.block k (by omega)).trans (b4.block k hk)
    have hSh : Sh W5 (w.heap.size + 3) (.slice (some ⟨w.heap.size + 2, 0, none⟩) (rowsAt (w.heap.size + 2) H).length H) 0 0 := by rw [rowsAt_len]; exact (k35 _ (by omega)).trans hns.sheet
    have hGd : Gd (w.heap.size + 2) W5 (w.heap.size + 2) (rowsAt (w.heap.size + 2) H) W Rl.zero := hns.gd.same (by omega) (fun _ => k35 _ (by omega)) (fun b hb => k35 _ (hns.gd.low b hb).2)
    have ap : Apart w.heap.size (w.heap.size + 3) (w.heap.size + 2) (rowsAt (w.heap.size + 2) H) (some ⟨w.heap.size + 2, 0, none⟩) :=
      ⟨by omega, fun h => by have := rowsAt_mem h; omega, fun h => by have := rowsAt_mem h; omega, by omega, by omega, .inr rfl⟩
    refine (rleWork_any (w.heap.size + 2) W5 (w.heap.size + 4 + H) (w.heap.size + 1) w.heap.size (w.heap.size + 3) (w.heap.size + 2) (rowsAt (w.heap.size + 2) H) W (some ⟨w.heap.size + 2, 0, none⟩) H s hSB hIB ⟨hBr, hSh, hGd, Tn.refl _ _ _ _⟩ ap v1 (by omega) (by omega) (fun h => by have := rowsAt_mem h; omega) (by omega) (by omega) (fun h => by have := rowsAt_mem h; omega)).mono ?_
    rintro e w' ⟨ht, h⟩
    have hbel : Below w.heap.size w w' := bw.trans ⟨ht.os, ht.tape, ht.output, by rw [ht.size]; exact Nat.le_refl _, fun k hk => ht.rest k (by omega) (by omega) (fun h => by have := rowsAt_mem h; omega)⟩
    have hcode : Boxed W5 W4.heap.size 3 (.int .i64 0) := by rw [hW5]; exact Boxed.new W4 3 (.int .i64 0)
    refine ⟨ht.box hcode (by omega) (by omega) (fun h => by have := rowsAt_mem h; omega), ?_⟩
    rw [rowsAt_len] at h
    rcases h with ⟨hv, g, x, y, g1, g2, g3⟩ | ⟨c, g1, g2, g3⟩
    · exact .inl ⟨⟨_, hv⟩, ⟨g, x, y, g1, g2, g3⟩, ht.box hSB (by omega) (by omega) (fun h => by have := rowsAt_mem h; omega), hbel, by rw [ht.size]; omega⟩
    · exact .inr ⟨c, g1, g2, g3, hbel⟩
  have HFI : Hid (Calls Try.prog 28 #[.func (.func 29) #[] #[.pointer (some ⟨w.heap.size + 4 + H, 0, none⟩), .pointer (some ⟨w.heap.size + 1, 0, none⟩)]] W4 (FaultOut W4 (RwYes w W H s) (RwNo w W H s))) :=
    faultIn_any 29 _ (enters_of Try.func29 (by kernel_rfl) rfl) _ _ W4 HWK.out
  have e3 : w3.heap.size = w.heap.size + 4 + H := by omega
  clear HWK HX2 hW4 hns hz3 HNS hW2'
  go_wp2_with fail
  refine HFI.out.mono ?_
  rintro e w7 ⟨w6, hb6, (⟨rfl, ⟨⟨g, x, y, g1, g2, g3⟩, g4, g5, g6⟩, ht⟩ | ⟨c, rfl, ⟨hc0, hno, g5⟩, ht⟩)⟩
  · have HANS : Hid (Rl.res s (W : Int) (H : Int) = some g) := HRES.out.trans g1
    have hne : ∀ k, k < w.heap.size + 5 + H → k ≠ W4.heap.size := fun k hk => by omega
    have hsame : ∀ k, k < w.heap.size + 5 + H → w7.heap[k]? = w6.heap[k]? := fun k hk => by rw [ht]; exact Below.heap_setCell w6 ⟨W4.heap.size, 0, none⟩ _ _ (hne k hk)
    have hb7 : Boxed w7 (w.heap.size + 4 + H) 53 (.pointer (some ⟨w.heap.size + 3, 0, none⟩)) := (hsame _ (by omega)).trans g4
    have ho7 : Sh w7 (w.heap.size + 3) (.slice (some ⟨w.heap.size + 2, 0, none⟩) H H) x y := (hsame _ (by omega)).trans g2
    have hz7 : w7.heap.size = w6.heap.size := by rw [ht]; simp
    have hG7 : Gd w.heap.size w7 (w.heap.size + 2) (rowsAt (w.heap.size + 2) H) W g := (g3.same (by omega) (fun _ => hsame _ (by omega)) (fun b hb => hsame b (by have := rowsAt_mem hb; omega))).base (by omega)
    have HF : Hid (RlAns w s (W : Int) (H : Int) (.returned (.tuple #[.slice (some ⟨w.heap.size + 2, 0, none⟩) H H, .bool true])) w7) := by
      refine ⟨by show Below _ _ _; rw [ht]; exact g5.setCell (by show w.heap.size ≤ W4.heap.size; omega) _, .inr ⟨g, HANS.out, some ⟨w.heap.size + 2, 0, none⟩, H, by rw [Int.toNat_natCast], ?_⟩⟩
      rw [Int.toNat_natCast, Int.toNat_natCast]
      exact .inr ⟨w.heap.size + 2, rowsAt (w.heap.size + 2) H, rfl, rowsAt_len _ _, by omega, by omega, hG7⟩
    have k1 := hb7.cell
    obtain ⟨k2, -, -, -, -⟩ := ho7.cells
    clear hb7 ho7 hG7 g1 g2 g3 g4 g5 g6 ht hb6 HFI hsame hne hz7
    go_wp2_with fail
    exact bodyPost_ret (v := .tuple #[.slice (some ⟨w.heap.size + 2, 0, none⟩) H H, .bool true]) (by simp [results, Try.results10, go_sem]) rfl HF.out
  · have HF : Hid (RlAns w s (W : Int) (H : Int) (.returned (.tuple #[.slice none 0 0, .bool false])) w7) := rlAns_no (HRES.out.trans hno) rfl (by show Below _ _ _; rw [ht]; exact g5.setCell (by show w.heap.size ≤ W4.heap.size; omega) _)
    have hcb : (c != 0) = true := by rw [bne_iff_ne]; exact hc0
    clear hno g5 ht hb6 HFI HRES
    go_wp2_with fail
    exact bodyPost_ret (v := .tuple #[.slice none 0 0, .bool false]) (by simp [results, Try.results10, go_sem]) rfl HF.out
end Go.Proofs.Ytlpfedhehfbfeaa

/- Rows of numbers: held against others, marked, found again. -/
namespace Go.Proofs.Ytlpfedhehfbfeaa
open Go.RowKit

theorem RowsAre.kept {base : Nat} {w w' : World} {a : Option Addr} {n W : Nat} {g : Rl.Grid} (h : RowsAre base w a n W g) (b : Below w.heap.size w w') : RowsAre base w' a n W g := by
  rcases h with e | ⟨R, G, e, hG, hR, hRl, hg⟩
  · exact .inl e
  · exact .inr ⟨R, G, e, hG, hR, Nat.lt_of_lt_of_le hRl b.size, hg.same b.size (fun _ => b.block R hRl) (fun c hc => b.block c (hg.low c hc).2)⟩

/-- a row's numbers -/
def rowL (g : Rl.Grid) (y W : Nat) : List Int := (List.range W).map fun x => g y x
theorem rowL_len (g : Rl.Grid) (y W : Nat) : (rowL g y W).length = W := by simp [rowL]
theorem Gd.ints {base : Nat} {w : World} {R W : Nat} {G : List Nat} {g : Rl.Grid} (h : Gd base w R G W g) {y : Nat} (hy : y < G.length) : Ints w (some ⟨G[y], 0, none⟩) (rowL g y W) := by
  refine .inr ⟨G[y], 0, rfl, (h.low _ (List.getElem_mem hy)).2, fun i hi => ?_⟩
  have hi' : i < W := by rw [rowL_len] at hi; exact hi
  rw [Nat.zero_add, (h.num y hy i hi').1]
  simp [rowL]
theorem Gd.drewN {base : Nat} {w : World} {R W : Nat} {G : List Nat} {g : Rl.Grid} (h : Gd base w R G W g) (q : Nat) : Gd base (w.drewN q) R G W g := h.same (Nat.le_refl _) (fun _ => rfl) (fun _ _ => rfl)

set_option maxHeartbeats 1000000 in
theorem eqRows_same (base base' : Nat) (a : Option Addr) (cap : Nat) (b : Option Addr) (cap' n W : Nat) (g : Rl.Grid) (w : World) (h1 : RowsAre base w a n W g) (h2 : RowsAre base' w b n W g) (hn : n ≤ 100) (hW : W ≤ 100) :
    Calls Try.prog 17 #[.slice a n cap, .slice b n cap'] w fun e w' => e = .returned (.bool true) ∧ ∃ m, w' = w.drewN m := by
  have H1 : Hid (RowsAre base w a n W g) := h1
  have H2 : Hid (RowsAre base' w b n W g) := h2
  clear h1 h2
  go_enter Try.func17, Try.ntmps17
  go_wp2_with fail
  go_loopw [5] (fun i wr => ∃ k m : Nat, k ≤ n ∧ i = .int .i64 k ∧ wr = w.drewN m) (fun i _ => n - (intOf i).toNat)
  case atStart => exact ⟨0, 0, Nat.zero_le _, rfl, rfl⟩
  case round =>
    obtain ⟨k, m, hk, rfl, hwr⟩ := hrel
    have HW : Hid (wr = w.drewN m) := hwr
    clear hwr
    by_cases hlt : k < n
    · have hki : (k : Int) < (n : Int) := by omega
      rcases H1.out with e | ⟨R1, G1, rfl, hG1, -, -, g1⟩
      · omega
      rcases H2.out with e | ⟨R2, G2, rfl, hG2, -, -, g2⟩
      · omega
      have hk1 : k < G1.length := by omega
      have hk2 : k < G2.length := by omega
      have e1 : wr.cell? ⟨R1, k, none⟩ = some (.slice (some ⟨G1[k], 0, none⟩) W W) := by rw [HW.out]; exact (g1.drewN m).row k hk1
      have e2 : wr.cell? ⟨R2, k, none⟩ = some (.slice (some ⟨G2[k], 0, none⟩) W W) := by rw [HW.out]; exact (g2.drewN m).row k hk2
      have HEQ : Hid (∀ q, Calls Try.prog 37 #[.slice (some ⟨G1[k], 0, none⟩) W W, .slice (some ⟨G2[k], 0, none⟩) W W] (wr.drewN q) fun e w' => e = .returned (.bool true) ∧ ∃ m', w' = (wr.drewN q).drewN m') := fun q => by rw [HW.out]; exact eqInts_same _ _ _ _ W (rowL g k W) ((w.drewN m).drewN q) (((g1.drewN m).drewN q).ints hk1) (((g2.drewN m).drewN q).ints hk2) (rowL_len _ _ _) (by omega)
      generalize G1[k] = b1 at *
      generalize G2[k] = b2 at *
      clear hG1 hG2 g1 g2 H1 H2 hk1 hk2
      go_wp2_with fail
      go_quiet ((go_at_call 37; exact Calls.quiet_of (HEQ.out _)))
      all_goals go_wp2_with fail
      all_goals
        go_roundw
        case rel => exact ⟨k + 1, _, by omega, by go_num, by rw [HW.out, World.drewN_drewN]⟩
        case measure => simp [intOf]; omega
    · have hki : ¬ (k : Int) < (n : Int) := by omega
      go_wp2_with fail
      go_ret
      exact ⟨rfl, m, HW.out⟩

/-- marks, row by row -/
def mkG (W : Nat) : Rl.Grid := fun y x => ((1 + y * W + x : Nat) : Int)
def mixG (g : Rl.Grid) (W k : Nat) : Rl.Grid := fun y x => if y < k then ((1 + y * W + x : Nat) : Int) else g y x
theorem Gd.mark {base : Nat} {w w' : World} {R W k t : Nat} {G : List Nat} {g : Rl.Grid} (h : Gd base w R G W (mixG g W k)) (hk : k < G.length) (ht : t = 1 + k * W) (ho : Own w' G[k] W (fun i => ((t + i : Nat) : Int))) (hT : Turned G[k] w w') : Gd base w' R G W (mixG g W (k + 1)) := by
  refine ⟨h.nodup, h.apart, fun b hb => ⟨(h.low b hb).1, by rw [hT.size]; exact (h.low b hb).2⟩, fun y hy => ?_, fun y hy x hx => ?_⟩
  · exact (cellAt_same (hT.rest R (fun e => h.apart _ (List.getElem_mem hk) e.symm)) y).1.trans (h.row y hy)
  · by_cases e : y = k
    · subst e
      have := ho.2 x hx
      unfold mixG
      rw [if_pos (by omega), ← ht]
      exact this
    · have hs := cellAt_same (hT.rest G[y] (h.nodup y k hy hk e)) x
      have := h.num y hy x hx
      have hm : mixG g W (k + 1) y x = mixG g W k y x := by
        unfold mixG
        by_cases hyk : y < k
        · rw [if_pos hyk, if_pos (by omega)]
        · rw [if_neg hyk, if_neg (by omega)]
      rw [hm]
      exact ⟨hs.1.trans this.1, hs.2.trans this.2⟩
theorem Gd.fun {base : Nat} {w : World} {R W : Nat} {G : List Nat} {g g' : Rl.Grid} (h : Gd base w R G W g) (he : ∀ y, y < G.length → ∀ x, g' y x = g y x) : Gd base w R G W g' :=
  ⟨h.nodup, h.apart, h.low, h.row, fun y hy x hx => by rw [he y hy x]; exact h.num y hy x hx⟩
theorem Gd.own {base : Nat} {w : World} {R W : Nat} {G : List Nat} {g : Rl.Grid} (h : Gd base w R G W g) {y : Nat} (hy : y < G.length) : Own w G[y] W (fun x => g y x) := ⟨(h.low _ (List.getElem_mem hy)).2, fun i hi => h.num y hy i hi⟩

theorem mul_bound {k n W : Nat} (hk : k ≤ n) (hn : n ≤ 100) (hW : W ≤ 100) : k * W ≤ 10000 := Nat.le_trans (Nat.mul_le_mul (Nat.le_trans hk hn) hW) (by decide)

set_option maxHeartbeats 1000000 in
theorem markRows_some (base R W cap : Nat) (G : List Nat) (n : Nat) (g : Rl.Grid) (w : World) (h : Gd base w R G W g) (hG : G.length = n) (hn : n ≤ 100) (hW : W ≤ 100) :
    Calls Try.prog 18 #[.slice (some ⟨R, 0, none⟩) n cap, .int .i64 1] w fun e w' => e = .returned (.int .i64 ((1 + n * W : Nat) : Int)) ∧ Gd base w' R G W (mkG W) ∧ Below base w w' := by
  have H0 : Hid (Gd base w R G W g) := h
  have HGn : Hid (G.length = n) := hG
  clear h hG
  go_enter Try.func18, Try.ntmps18
  go_wp2_with fail
  go_loopw [1, 5] (fun x i wr => ∃ k t : Nat, k ≤ n ∧ i = .int .i64 k ∧ Hid (t = 1 + k * W) ∧ x = .int .i64 (t : Int) ∧ Hid (Gd base wr R G W (mixG g W k) ∧ Below base w wr)) (fun _ i _ => n - (intOf i).toNat)
  case atStart => exact ⟨0, 1, Nat.zero_le _, rfl, by show _ = _; rw [Nat.zero_mul], rfl, H0.out.fun (fun y _ x => by unfold mixG; rw [if_neg (by omega)]), Below.refl _ _⟩
  case round =>
    obtain ⟨k, t, hk, rfl, HT, rfl, HS⟩ := hrel
    clear H0
    have htb : t ≤ 10001 := by have := HT.out; have := mul_bound hk hn hW; omega
    by_cases hlt : k < n
    · have hki : (k : Int) < (n : Int) := by omega
      have hkG : k < G.length := by rw [HGn.out]; exact hlt
      have e1 := HS.out.1.row k hkG
      have HMK : Hid (Calls Try.prog 38 #[.slice (some ⟨G[k], 0, none⟩) W W, .int .i64 (t : Int)] wr fun e w' => e = .returned (.int .i64 ((t + W : Nat) : Int)) ∧ Gd base w' R G W (mixG g W (k + 1)) ∧ Below base w w') := by
        refine (mark_ownS t G[k] W W _ wr (HS.out.1.own hkG) (by omega) (by omega)).mono ?_
        rintro e w' ⟨h1, h2, h3⟩
        exact ⟨h1, HS.out.1.mark hkG HT.out h2 h3, HS.out.2.trans (h3.below (HS.out.1.low _ (List.getElem_mem hkG)).1)⟩
      have HT2 : Hid (t + W = 1 + (k + 1) * W) := by show _ = _; rw [HT.out, Nat.succ_mul]; omega
      generalize G[k] = b1 at *
      clear HS HT hkG
      go_wp2_with fail
      refine HMK.out.mono ?_
      rintro e w2 ⟨rfl, h2, h3⟩
      have HS2 : Hid (Gd base w2 R G W (mixG g W (k + 1)) ∧ Below base w w2) := ⟨h2, h3⟩
      obtain ⟨t2, ht2⟩ : ∃ t2, t2 = t + W := ⟨_, rfl⟩
      rw [← ht2] at HT2
      rw [← ht2]
      clear h2 h3 HMK e1 ht2
      go_wp2_with fail
      go_roundw
      case rel => exact ⟨k + 1, t2, by omega, by go_num, HT2, rfl, HS2⟩
      case measure => simp [intOf]; omega
    · have hki : ¬ (k : Int) < (n : Int) := by omega
      have hk' : k = n := by omega
      subst hk'
      have HF : Hid (Gd base wr R G W (mkG W) ∧ Below base w wr) := ⟨HS.out.1.fun (fun y hy x => by unfold mixG mkG; rw [if_pos (by rw [← HGn.out]; exact hy)]), HS.out.2⟩
      clear HS
      go_wp2_with fail
      go_ret
      exact ⟨ret_int (by rw [HT.out]; simp), HF.out⟩

set_option maxHeartbeats 1000000 in
theorem heldRows_some (base R W cap : Nat) (G : List Nat) (n : Nat) (w : World) (h : Gd base w R G W (mkG W)) (hG : G.length = n) (hn : n ≤ 100) (hW : W ≤ 100) :
    Calls Try.prog 19 #[.slice (some ⟨R, 0, none⟩) n cap, .int .i64 1] w fun e w' => e = .returned (.int .i64 ((1 + n * W : Nat) : Int)) ∧ w' = w := by
  have H0 : Hid (Gd base w R G W (mkG W)) := h
  have HGn : Hid (G.length = n) := hG
  clear h hG
  go_enter Try.func19, Try.ntmps19
  go_wp2_with fail
  go_loop [1, 5] (fun x i => ∃ k t : Nat, k ≤ n ∧ i = .int .i64 k ∧ Hid (t = 1 + k * W) ∧ x = .int .i64 (t : Int)) (fun _ i => n - (intOf i).toNat)
  case atStart => exact ⟨0, 1, Nat.zero_le _, rfl, by show _ = _; rw [Nat.zero_mul], rfl⟩
  case round =>
    obtain ⟨k, t, hk, rfl, HT, rfl⟩ := hrel
    have htb : t ≤ 10001 := by have := HT.out; have := mul_bound hk hn hW; omega
    by_cases hlt : k < n
    · have hki : (k : Int) < (n : Int) := by omega
      have hkG : k < G.length := by rw [HGn.out]; exact hlt
      have e1 := H0.out.row k hkG
      have HMK : Hid (Calls Try.prog 39 #[.slice (some ⟨G[k], 0, none⟩) W W, .int .i64 (t : Int)] w fun e w' => e = .returned (.int .i64 ((t + W : Nat) : Int)) ∧ w' = w) := by
        refine held_ownS t G[k] W W w ?_ (by omega) (by omega)
        have h1 := H0.out.own hkG
        have h2 : (fun x => mkG W k x) = (fun i => ((t + i : Nat) : Int)) := by funext i; unfold mkG; rw [HT.out]
        rw [h2] at h1
        exact h1
      have HT2 : Hid (t + W = 1 + (k + 1) * W) := by show _ = _; rw [HT.out, Nat.succ_mul]; omega
      generalize G[k] = b1 at *
      clear HT hkG
      go_wp2_with fail
      refine HMK.out.mono ?_
      rintro e w2 ⟨rfl, hw2⟩
      replace hw2 := hw2.symm
      subst hw2
      obtain ⟨t2, ht2⟩ : ∃ t2, t2 = t + W := ⟨_, rfl⟩
      rw [← ht2] at HT2
      rw [← ht2]
      have hneg : ¬ (t2 : Int) < 0 := by omega
      clear HMK e1 ht2
      go_wp2_with fail
      go_round
      case rel => exact ⟨k + 1, t2, by omega, by go_num, HT2, rfl⟩
      case measure => simp [intOf]; omega
    · have hki : ¬ (k : Int) < (n : Int) := by omega
      have hk' : k = n := by omega
      subst hk'
      go_wp2_with fail
      go_ret
      exact ⟨ret_int (by rw [HT.out]; simp), rfl⟩

set_option maxHeartbeats 400000 in
theorem markRows_nil (a : Option Addr) (c : Nat) (w : World) :
    Calls Try.prog 18 #[.slice a 0 c, .int .i64 1] w fun e w' => e = .returned (.int .i64 1) ∧ w' = w := by
  go_enter Try.func18, Try.ntmps18
  go_wp2_with fail
  go_loop [1, 5] (fun x i => i = .int .i64 0 ∧ x = .int .i64 1) (fun _ _ => 0)
  case atStart => exact ⟨rfl, rfl⟩
  case round =>
    obtain ⟨rfl, rfl⟩ := hrel
    go_wp2_with fail
    go_ret
    exact ⟨rfl, rfl⟩
set_option maxHeartbeats 400000 in
theorem heldRows_nil (a : Option Addr) (c : Nat) (w : World) :
    Calls Try.prog 19 #[.slice a 0 c, .int .i64 1] w fun e w' => e = .returned (.int .i64 1) ∧ w' = w := by
  go_enter Try.func19, Try.ntmps19
  go_wp2_with fail
  go_loop [1, 5] (fun x i => i = .int .i64 0 ∧ x = .int .i64 1) (fun _ _ => 0)
  case atStart => exact ⟨rfl, rfl⟩
  case round =>
    obtain ⟨rfl, rfl⟩ := hrel
    go_wp2_with fail
    go_ret
    exact ⟨rfl, rfl⟩

theorem markRows_any (base : Nat) (a : Option Addr) (n W cap : Nat) (g : Rl.Grid) (w : World) (h : RowsAre base w a n W g) (hn : n ≤ 100) (hW : W ≤ 100) :
    Calls Try.prog 18 #[.slice a n cap, .int .i64 1] w fun e w' => e = .returned (.int .i64 ((1 + n * W : Nat) : Int)) ∧ RowsAre base w' a n W (mkG W) ∧ Below base w w' := by
  rcases h with rfl | ⟨R, G, rfl, hG, hR, hRl, hg⟩
  · refine (markRows_nil a cap w).mono ?_
    rintro e w' ⟨rfl, rfl⟩
    exact ⟨by rw [Nat.zero_mul]; rfl, .inl rfl, Below.refl _ _⟩
  · refine (markRows_some base R W cap G n g w hg hG hn hW).mono ?_
    rintro e w' ⟨h1, h2, h3⟩
    exact ⟨h1, .inr ⟨R, G, rfl, hG, hR, Nat.lt_of_lt_of_le hRl h3.size, h2⟩, h3⟩
theorem heldRows_any (base : Nat) (a : Option Addr) (n W cap : Nat) (w : World) (h : RowsAre base w a n W (mkG W)) (hn : n ≤ 100) (hW : W ≤ 100) :
    Calls Try.prog 19 #[.slice a n cap, .int .i64 1] w fun e w' => e = .returned (.int .i64 ((1 + n * W : Nat) : Int)) ∧ w' = w := by
  rcases h with rfl | ⟨R, G, rfl, hG, hR, hRl, hg⟩
  · refine (heldRows_nil a cap w).mono ?_
    rintro e w' ⟨rfl, rfl⟩
    exact ⟨by rw [Nat.zero_mul]; rfl, rfl⟩
  · exact heldRows_some base R W cap G n w hg hG hn hW
end Go.Proofs.Ytlpfedhehfbfeaa

/- Two lists of ints held against each other by the laws. -/
namespace Go.Proofs.Ytlpfedhehfbfeaa
open Go.RowKit

set_option maxHeartbeats 400000 in
theorem wiInts_same (a : Option Addr) (cap : Nat) (b : Option Addr) (cap' n : Nat) (zs : List Int) (w : World) (h : Ints w a zs) (g : Ints w b zs) (hn : zs.length = n) (hl : n ≤ 2000000) :
    Calls Try.prog 14 #[.slice a n cap, .slice b n cap'] w fun e w' => e = .returned (.bool true) ∧ ∃ m, w' = w.drewN m := by
  have HI : Hid (Ints w a zs) := h
  have HG : Hid (Ints w b zs) := g
  clear h g
  have hzg : n ≤ zs.length := by omega
  clear hn
  go_enter Try.func14, Try.ntmps14
  go_wp2_with fail
  go_loopw [5] (fun i wr => ∃ k m : Nat, k ≤ n ∧ i = .int .i64 k ∧ wr = w.drewN m) (fun i _ => n - (intOf i).toNat)
  case atStart => exact ⟨0, 0, Nat.zero_le _, rfl, rfl⟩
  case round =>
    obtain ⟨k, m, hk, rfl, rfl⟩ := hrel
    by_cases hlt : k < n
    · have hkz : k < zs.length := by omega
      rcases HI.out with h | ⟨b1, off1, rfl, hb1, hc1⟩
      · rw [h] at hkz; simp at hkz
      · rcases HG.out with h | ⟨b2, off2, rfl, hb2, hc2⟩
        · rw [h] at hkz; simp at hkz
        · have e1 := hc1 k hkz
          have e2 := hc2 k hkz
          have hki : (k : Int) < (n : Int) := by omega
          clear hc1 hc2
          generalize zs[k] = x at *
          go_wp2_with fail
          go_region
          all_goals go_wp2_with fail
          all_goals
            go_roundw
            case rel => exact ⟨k + 1, m + 1, by omega, by go_num, rfl⟩
            case measure => simp [intOf]; omega
    · go_wp2_with fail
      go_ret
      exact ⟨rfl, m, rfl⟩
end Go.Proofs.Ytlpfedhehfbfeaa

/- Rows held against rows, by the laws' own text. -/
namespace Go.Proofs.Ytlpfedhehfbfeaa
open Go.RowKit

set_option maxHeartbeats 1000000 in
theorem wiRows_same (base base' : Nat) (a : Option Addr) (cap : Nat) (b : Option Addr) (cap' n W : Nat) (g : Rl.Grid) (w : World) (h1 : RowsAre base w a n W g) (h2 : RowsAre base' w b n W g) (hn : n ≤ 100) (hW : W ≤ 100) :
    Calls Try.prog 11 #[.slice a n cap, .slice b n cap'] w fun e w' => e = .returned (.bool true) ∧ ∃ m, w' = w.drewN m := by
  have H1 : Hid (RowsAre base w a n W g) := h1
  have H2 : Hid (RowsAre base' w b n W g) := h2
  clear h1 h2
  go_enter Try.func11, Try.ntmps11
  go_wp2_with fail
  go_loopw [5] (fun i wr => ∃ k m : Nat, k ≤ n ∧ i = .int .i64 k ∧ wr = w.drewN m) (fun i _ => n - (intOf i).toNat)
  case atStart => exact ⟨0, 0, Nat.zero_le _, rfl, rfl⟩
  case round =>
    obtain ⟨k, m, hk, rfl, hwr⟩ := hrel
    have HW : Hid (wr = w.drewN m) := hwr
    clear hwr
    by_cases hlt : k < n
    · have hki : (k : Int) < (n : Int) := by omega
      rcases H1.out with e | ⟨R1, G1, rfl, hG1, -, -, g1⟩
      · omega
      rcases H2.out with e | ⟨R2, G2, rfl, hG2, -, -, g2⟩
      · omega
      have hk1 : k < G1.length := by omega
      have hk2 : k < G2.length := by omega
      have e1 : wr.cell? ⟨R1, k, none⟩ = some (.slice (some ⟨G1[k], 0, none⟩) W W) := by rw [HW.out]; exact (g1.drewN m).row k hk1
      have e2 : wr.cell? ⟨R2, k, none⟩ = some (.slice (some ⟨G2[k], 0, none⟩) W W) := by rw [HW.out]; exact (g2.drewN m).row k hk2
      have HEQ : Hid (∀ q, Calls Try.prog 14 #[.slice (some ⟨G1[k], 0, none⟩) W W, .slice (some ⟨G2[k], 0, none⟩) W W] (wr.drewN q) fun e w' => e = .returned (.bool true) ∧ ∃ m', w' = (wr.drewN q).drewN m') := fun q => by rw [HW.out]; exact wiInts_same _ _ _ _ W (rowL g k W) ((w.drewN m).drewN q) (((g1.drewN m).drewN q).ints hk1) (((g2.drewN m).drewN q).ints hk2) (rowL_len _ _ _) (by omega)
      generalize G1[k] = b1 at *
      generalize G2[k] = b2 at *
      clear hG1 hG2 g1 g2 H1 H2 hk1 hk2
      go_wp2_with fail
      go_quiet ((go_at_call 14; exact Calls.quiet_of (HEQ.out _)))
      all_goals go_wp2_with fail
      all_goals
        go_roundw
        case rel => exact ⟨k + 1, _, by omega, by go_num, by rw [HW.out, World.drewN_drewN]⟩
        case measure => simp [intOf]; omega
    · have hki : ¬ (k : Int) < (n : Int) := by omega
      go_wp2_with fail
      go_ret
      exact ⟨rfl, m, HW.out⟩

set_option maxHeartbeats 1000000 in
theorem wiRows2_same (a : Option Addr) (cap : Nat) (b : Option Addr) (cap' n : Nat) (ls : List (List Int)) (w : World) (h1 : Rows2 w a ls) (h2 : Rows2 w b ls) (hl : ls.length = n) (hn : n ≤ 2000000) (hm : ∀ l ∈ ls, l.length ≤ 2000000) :
    Calls Try.prog 11 #[.slice a n cap, .slice b n cap'] w fun e w' => e = .returned (.bool true) ∧ ∃ m, w' = w.drewN m := by
  have H1 : Hid (Rows2 w a ls) := h1
  have H2 : Hid (Rows2 w b ls) := h2
  have HL : Hid (ls.length = n) := hl
  have HM : Hid (∀ l ∈ ls, l.length ≤ 2000000) := hm
  clear h1 h2 hl hm
  go_enter Try.func11, Try.ntmps11
  go_wp2_with fail
  go_loopw [5] (fun i wr => ∃ k m : Nat, k ≤ n ∧ i = .int .i64 k ∧ wr = w.drewN m) (fun i _ => n - (intOf i).toNat)
  case atStart => exact ⟨0, 0, Nat.zero_le _, rfl, rfl⟩
  case round =>
    obtain ⟨k, m, hk, rfl, hwr⟩ := hrel
    have HW : Hid (wr = w.drewN m) := hwr
    have hbw : Below w.heap.size w wr := by rw [hwr]; exact ⟨rfl, rfl, rfl, Nat.le_refl _, fun _ _ => rfl⟩
    clear hwr
    by_cases hlt : k < n
    · have hki : (k : Int) < (n : Int) := by omega
      have hkl : k < ls.length := by rw [HL.out]; exact hlt
      obtain ⟨R1, o1, a1, c1, rfl, e1, i1⟩ := (H1.out.kept hbw).at hkl
      obtain ⟨R2, o2, a2, c2, rfl, e2, i2⟩ := (H2.out.kept hbw).at hkl
      have HEQ : Hid (∀ q, Calls Try.prog 14 #[.slice a1 ls[k].length c1, .slice a2 ls[k].length c2] (wr.drewN q) fun e w' => e = .returned (.bool true) ∧ ∃ m', w' = (wr.drewN q).drewN m') := fun q => wiInts_same _ _ _ _ ls[k].length ls[k] (wr.drewN q) (i1.kept ⟨rfl, rfl, rfl, Nat.le_refl _, fun _ _ => rfl⟩) (i2.kept ⟨rfl, rfl, rfl, Nat.le_refl _, fun _ _ => rfl⟩) rfl (HM.out _ (List.getElem_mem hkl))
      generalize ls[k].length = z at *
      clear i1 i2 hkl hbw
      go_wp2_with fail
      go_quiet ((go_at_call 14; exact Calls.quiet_of (HEQ.out _)))
      all_goals go_wp2_with fail
      all_goals
        go_roundw
        case rel => exact ⟨k + 1, _, by omega, by go_num, by rw [HW.out, World.drewN_drewN]⟩
        case measure => simp [intOf]; omega
    · have hki : ¬ (k : Int) < (n : Int) := by omega
      go_wp2_with fail
      go_ret
      exact ⟨rfl, m, HW.out⟩
end Go.Proofs.Ytlpfedhehfbfeaa

/- The law on rows: rows that were packed as BMP does come out just as they went in. -/
namespace Go.Proofs.Ytlpfedhehfbfeaa
open Go.RowKit

theorem RowsAre.rows2 {base : Nat} {w : World} {a : Option Addr} {W : Nat} {g : Rl.Grid} {ls : List (List Int)} (h : RowsAre base w a ls.length W g) (hw : ∀ l ∈ ls, l.length = W) (hg : ∀ y (hy : y < ls.length), ∀ x, x < W → g y x = ls[y].getD x 0) : Rows2 w a ls := by
  rcases h with e | ⟨R, G, rfl, hG, -, hR, hd⟩
  · exact .inl (List.eq_nil_of_length_eq_zero e)
  · refine .inr ⟨R, 0, rfl, hR, fun i hi => ?_⟩
    have hWi := hw _ (List.getElem_mem hi)
    refine ⟨some ⟨G[i]'(by omega), 0, none⟩, W, ?_, ?_, by omega⟩
    · rw [Nat.zero_add, hWi]; exact hd.row i (by omega)
    · have := hd.ints (y := i) (by omega)
      have e : rowL g i W = ls[i] := by
        unfold rowL
        apply List.ext_getElem
        · simp [hWi]
        · intro x h1 h2
          rw [List.getElem_map, List.getElem_range, hg i hi x (by simpa using h1), List.getD_eq_getElem?_getD, List.getElem?_eq_getElem h2]
          rfl
      rw [e] at this; exact this

theorem size_of_empty' {s : ByteArray} (h : s.toList.isEmpty = true) : s.size = 0 := by
  rw [ByteArray.toList_eq, List.isEmpty_iff] at h
  show s.data.size = 0
  rw [← Array.length_toList, h]; rfl


set_option maxHeartbeats 4000000 in
set_option maxRecDepth 20000 in
theorem lawRle (a : Option Addr) (len cap : Nat) (w : World) (h : Code8 w a len cap) :
    Calls Try.prog 3 #[.slice a len cap] w fun e w' => e = .returned (.bool true) ∧ Below w.heap.size w w' := by
  by_cases hbig : 1048576 < len
  · have hbi : (1048576 : Int) < (len : Int) := by omega
    clear h
    go_enter Try.func3, Try.ntmps3
    go_wp2_with fail
    go_ret
    exact ⟨rfl, Below.refl _ _⟩
  have hbi : ¬ (1048576 : Int) < (len : Int) := by omega
  have HDR : Hid (Calls Try.prog 7 #[.slice a len cap] w (RowsOut w)) := drawRlePut_any a len cap w h
  clear h
  go_enter Try.func3, Try.ntmps3
  go_wp2_with fail
  refine HDR.out.mono ?_
  rintro e w1 ⟨⟨a2, n, c2, W, ls, rfl, hR, hn, hn4, hW, hl7, hlW⟩, b1⟩
  have HB1 : Hid (Below w.heap.size w w1) := b1
  have HR1 : Hid (Rows2 w1 a2 ls) := hR
  have HN : Hid (ls.length = n) := hn
  have hl2 : ∀ l ∈ ls, l.length ≤ 2000000 := fun l hl => by have := hl7 l hl; omega
  have HIM : Hid (∀ w : World, Rows2 w a2 ls → Calls Try.prog 8 #[.slice a2 n c2] w fun e w' => e = .returned (.string ⟨(Re.all ls).toArray⟩) ∧ Below w.heap.size w w') := fun w h => impl_rlePut a2 n c2 ls w h HN.out (by omega) hl2
  have HSP : Hid (∀ w : World, Rows2 w a2 ls → Calls Try.prog 9 #[.slice a2 n c2] w fun e w' => e = .returned (.string ⟨(Re.all ls).toArray⟩) ∧ Below w.heap.size w w') := fun w h => spec_rlePut a2 c2 n ls w h HN.out (by omega) hl2
  have hsz : (Re.all ls).length ≤ 9000 := by
    unfold Re.all
    split
    · have := Re.part_len ls (fun l hl => by have := hl7 l hl; omega)
      rw [List.length_append]; simp; omega
    · simp
  have hcase : (Re.all ls = []) ∨ (Re.all ls ≠ [] ∧ Re.ok ls = true) := by
    unfold Re.all
    by_cases hok : Re.ok ls = true
    · right; rw [if_pos hok]; exact ⟨by simp, hok⟩
    · left; rw [if_neg hok]
  rcases hcase with he | ⟨hne, hok⟩
  · rw [he] at HIM HSP
    clear b1 HDR hR hn hl2 hl7 hlW he hsz
    go_wp2_with fail
    refine (HIM.out _ HR1.out).mono ?_
    rintro e w2 ⟨rfl, b2⟩
    have HR2 : Hid (Rows2 w2 a2 ls) := HR1.out.kept b2
    have HB2 : Hid (Below w.heap.size w w2) := HB1.out.trans (b2.mono HB1.out.size)
    clear b2 HB1 HR1
    go_wp2_with fail
    refine (HSP.out _ HR2.out).mono ?_
    rintro e w3 ⟨rfl, b3⟩
    have HR3 : Hid (Rows2 w3 a2 ls) := HR2.out.kept b3
    have HB3 : Hid (Below w.heap.size w w3) := HB2.out.trans (b3.mono HB2.out.size)
    clear b3 HB2 HR2
    go_wp2_with fail
    refine (HSP.out _ HR3.out).mono ?_
    rintro e w4 ⟨rfl, b4⟩
    have HB4 : Hid (Below w.heap.size w w4) := HB3.out.trans (b4.mono HB3.out.size)
    clear b4 HB3 HR3
    go_wp2_with fail
    go_ret
    exact ⟨rfl, HB4.out⟩
  · obtain ⟨wd, hwd⟩ : ∃ wd : Nat, wd = if 0 < n then W else 0 := ⟨_, rfl⟩
    have hwd6 : wd ≤ 6 := by rw [hwd]; split <;> omega
    have hWl : ∀ l ∈ ls, l.length = wd := fun l hl => by
      have : 0 < ls.length := List.length_pos_of_mem hl
      rw [hwd, if_pos (by rw [← HN.out]; exact this)]
      exact hlW hok l hl
    obtain ⟨g, hg, hgx⟩ := Rl.res_all hok hWl (by omega) hsz
    obtain ⟨T, hT⟩ : ∃ T : ByteArray, T = ⟨(Re.all ls).toArray⟩ := ⟨_, rfl⟩
    have hTs : T.size = (Re.all ls).length := by rw [hT]; show (Re.all ls).toArray.size = _; simp
    have hTe : T.toList.isEmpty = false := by
      rcases hb : T.toList.isEmpty with _ | _
      · rfl
      · have := size_of_empty' hb
        rw [hTs] at this
        exact absurd (List.eq_nil_of_length_eq_zero this) hne
    rw [← hT] at hg HIM HSP
    have HRG : Hid (∀ w : World, Calls Try.prog 10 #[.string T, .int .i64 (wd : Int), .int .i64 (n : Int)] w fun e w' => ∃ ao cap, e = .returned (.tuple #[.slice ao n cap, .bool true]) ∧ Rows2 w' ao ls ∧ Below w.heap.size w w') := fun w => by
      refine (impl_rleGet T (wd : Int) (n : Int) w (by omega)).mono fun e w' hh => ?_
      rw [HN.out] at hg
      rcases hh with ⟨hb, (⟨hno, -⟩ | ⟨g', hg', ao, cap, he, hrows⟩)⟩
      · rw [hg] at hno; simp at hno
      · rw [hg] at hg'
        cases hg'
        rw [Int.toNat_natCast, Int.toNat_natCast] at hrows
        rw [Int.toNat_natCast] at he
        refine ⟨ao, cap, he, ?_, hb⟩
        rw [← HN.out] at hrows
        exact hrows.rows2 hWl hgx
    have HWI : Hid (∀ (w : World) (ao : Option Addr) (c : Nat), Rows2 w ao ls → Rows2 w a2 ls → Calls Try.prog 11 #[.slice ao n c, .slice a2 n c2] w fun e w' => e = .returned (.bool true) ∧ ∃ m, w' = w.drewN m) := fun w ao c h1 h2 => wiRows2_same ao c a2 c2 n ls w h1 h2 HN.out (by omega) hl2
    have HAT : Hid (∀ (w : World), Rows2 w a2 ls → 0 < n → ∃ R off a' cap', a2 = some ⟨R, off, none⟩ ∧ w.cell? ⟨R, off, none⟩ = some (.slice a' wd cap')) := fun w h h0 => by
      obtain ⟨R, off, a', cap', e1, e2, -⟩ := h.at (k := 0) (by rw [HN.out]; exact h0)
      rw [hWl _ (List.getElem_mem _), Nat.add_zero] at e2
      exact ⟨R, off, a', cap', e1, e2⟩
    have HWD : Hid (¬ 0 < n → wd = 0) := fun h => by rw [hwd, if_neg h]
    clear b1 HDR hR hn hl2 hl7 hlW hne hsz hwd hWl hg hgx hT hTs hok
    go_wp2_with fail
    refine (HIM.out _ HR1.out).mono ?_
    rintro e w2 ⟨rfl, b2⟩
    have HR2 : Hid (Rows2 w2 a2 ls) := HR1.out.kept b2
    have HB2 : Hid (Below w.heap.size w w2) := HB1.out.trans (b2.mono HB1.out.size)
    clear b2 HB1 HR1
    go_wp2_with fail
    refine (HSP.out _ HR2.out).mono ?_
    rintro e w3 ⟨rfl, b3⟩
    have HR3 : Hid (Rows2 w3 a2 ls) := HR2.out.kept b3
    have HB3 : Hid (Below w.heap.size w w3) := HB2.out.trans (b3.mono HB2.out.size)
    clear b3 HB2 HR2
    by_cases h0 : 0 < n
    · have hni : (0 : Int) < (n : Int) := by omega
      obtain ⟨R, off, a', cap', rfl, hcell⟩ := HAT.out _ HR3.out h0
      clear HAT HWD
      go_wp2_with fail
      refine (HRG.out _).mono ?_
      rintro e w4 ⟨ao, c, rfl, hrows, b4⟩
      have HB4 : Hid (Below w.heap.size w w4) := HB3.out.trans (b4.mono HB3.out.size)
      have HR4 : Hid (Rows2 w4 _ ls) := HR3.out.kept b4
      have HO4 : Hid (Rows2 w4 ao ls) := hrows
      clear b4 HB3 HR3 hrows hcell
      go_wp2_with fail
      refine (HWI.out _ _ _ HO4.out HR4.out).mono ?_
      rintro e w5 ⟨rfl, m, hw5⟩
      have HB5 : Hid (Below w.heap.size w w5) := by rw [hw5]; exact HB4.out.trans ⟨rfl, rfl, rfl, Nat.le_refl _, fun _ _ => rfl⟩
      clear hw5 HB4 HR4 HO4
      go_wp2_with fail
      go_ret
      exact ⟨rfl, HB5.out⟩
    · have hni : ¬ (0 : Int) < (n : Int) := by omega
      obtain rfl : wd = 0 := HWD.out h0
      obtain rfl : n = 0 := by omega
      clear HAT HWD
      go_wp2_with fail
      refine (HRG.out _).mono ?_
      rintro e w4 ⟨ao, c, rfl, hrows, b4⟩
      have HB4 : Hid (Below w.heap.size w w4) := HB3.out.trans (b4.mono HB3.out.size)
      have HR4 : Hid (Rows2 w4 _ ls) := HR3.out.kept b4
      have HO4 : Hid (Rows2 w4 ao ls) := hrows
      clear b4 HB3 HR3 hrows
      go_wp2_with fail
      refine (HWI.out _ _ _ HO4.out HR4.out).mono ?_
      rintro e w5 ⟨rfl, m, hw5⟩
      have HB5 : Hid (Below w.heap.size w w5) := by rw [hw5]; exact HB4.out.trans ⟨rfl, rfl, rfl, Nat.le_refl _, fun _ _ => rfl⟩
      clear hw5 HB4 HR4 HO4
      go_wp2_with fail
      go_ret
      exact ⟨rfl, HB5.out⟩
end Go.Proofs.Ytlpfedhehfbfeaa
