/- Rows read up to their end, by the specification. -/
import Derived.Test.YtlpfedhehfbfeaaQsEsc
import Derived.Test.YtlpfedhehfbfeaaQsMake
namespace Go.Proofs.Ytlpfedhehfbfeaa
open Go.RowKit

def atNat : Option Value → Nat
  | some (.int _ z) => z.toNat
  | _ => 0
def okNat : Option Value → Nat
  | some (.bool true) => 1
  | _ => 0
/-- how far it is to the end -/
def farQ (s : ByteArray) (Q : Nat) (w : World) : Nat := (s.size - atNat (w.cell? ⟨Q, 1, none⟩)) * 2 + okNat (w.cell? ⟨Q, 5, none⟩)
theorem farQ_eq {base : Nat} {w wr : World} {Q R W cp A x y : Nat} {G : List Nat} {ro : Option Addr} {s : ByteArray} {g : Rl.Grid} {ok : Bool} (h : Qst base w Q R G W ro cp s A x y ok g wr) : farQ s Q wr = (s.size - A) * 2 + (if ok = true then 1 else 0) := by
  unfold farQ
  obtain ⟨-, c1, -, -, -, c5⟩ := h.1.cells
  rw [c1, c5]
  cases ok <;> rfl

/-- how l7Rows ends -/
def LrEnd (w : World) (s : ByteArray) (W H : Nat) (e : Ending) (w' : World) : Prop :=
  Below w.heap.size w w' ∧ ∃ (ao : Option Addr) (cap : Nat), (Rl.get s W H 0 Rl.zero 0 0 = none ∧ e = .returned (.tuple #[.slice ao H cap, .bool false])) ∨ ∃ g, Rl.get s W H 0 Rl.zero 0 0 = some g ∧ e = .returned (.tuple #[.slice ao H cap, .bool true]) ∧ (H = 0 ∨ ∃ (R : Nat) (G : List Nat), ao = some ⟨R, 0, none⟩ ∧ G.length = H ∧ w.heap.size ≤ R ∧ R < w'.heap.size ∧ Gd w.heap.size w' R G W g)

set_option linter.unusedSimpArgs false in
set_option maxHeartbeats 8000000 in
set_option maxRecDepth 100000 in
theorem l7Rows_any (s : ByteArray) (W H : Nat) (w : World) (hs : s.size ≤ 9000) (hW : W ≤ 100) (hH : H ≤ 100) :
    Calls Try.prog 34 #[.string s, .int .i64 (W : Int), .int .i64 (H : Int)] w (LrEnd w s W H) := by
  have hmn := make_nums W (by omega)
  obtain ⟨Q, hQ⟩ : ∃ Q, Q = w.heap.size := ⟨_, rfl⟩
  have HQ : Hid (Q = w.heap.size) := hQ
  obtain ⟨W1, hW1⟩ : ∃ W1, W1 = w.alloc (.cells #[.string s, .int .i64 0, .slice none 0 0, .int .i64 0, .int .i64 0, .bool true] 74) := ⟨_, rfl⟩
  have HM0 : Hid (Mk w Q W s [] (.slice none 0 0) W1) := by rw [hW1, hQ]; exact l7Rle_new s W w
  have hW1' : w.alloc (.cells #[.string s, .int .i64 0, .slice none 0 0, .int .i64 0, .int .i64 0, .bool true] 74) = W1 := hW1.symm
  obtain ⟨i0, hi0, hz0, hz1, hz2⟩ := info_parts info_row
  clear hW1 hQ
  go_enter Try.func34, Try.ntmps34
  go_wp2_with fail
  rw [← HQ.out]
  go_loopw [9] (fun i wr => ∃ (k : Nat) (G : List Nat) (ao : Option Addr) (cp : Nat), k ≤ H ∧ i = .int .i64 (k : Int) ∧ k = G.length ∧ Hid (Mk w Q W s G (.slice ao G.length cp) wr)) (fun i _ => H - (intOf i).toNat)
  case atStart => exact ⟨0, [], none, 0, Nat.zero_le _, rfl, rfl, HM0⟩
  case round =>
    obtain ⟨k, G, ao, cp, hk, rfl, hGk, HM⟩ := hrel
    have HGK : Hid (k = G.length) := hGk
    clear HM0 hW1'
    by_cases hlt : k < H
    · have hki : (k : Int) < (H : Int) := by omega
      have hown := HM.out.own
      obtain ⟨-, -, c2, -, -, -⟩ := HM.out.lr.cells
      have hQl := HM.out.lt
      rw [← hGk] at hown c2
      have hm63 : k + 1 ≤ maxLen := by unfold maxLen; omega
      have hlen : (k + 1) * 24 ≤ 140737488355328 := by omega
      have hone : ∀ u ∈ [Value.slice (some ⟨wr.heap.size, 0, none⟩) W W], u.oneCell' = true := by intro u hu; simp at hu; subst hu; rfl
      have c2a := (World.cell?_alloc_past (.cells (madeCells #[.int .i64 0] W) 3) Q 2 hQl).trans c2
      have HN : Hid (∀ (g cap : Nat) (w4 : World), w4.ownsRow (Q + 1) 26 1 (.slice (some ⟨g, 0, none⟩) (k + 1) cap) (k + 1) (rvCells G W ++ [.slice (some ⟨wr.heap.size, 0, none⟩) W W]) → ((wr.drew.alloc (.cells (madeCells #[.int .i64 0] W) 3)).alloc (.cells #[.slice (some ⟨wr.heap.size, 0, none⟩) W W] 26)).grownBy w4 (Value.slice ao k cp).ownBlock → ((Value.slice ao k cp).ownBlock = some g ∨ g = wr.heap.size + 2) → Mk w Q W s (G ++ [wr.heap.size]) (.slice (some ⟨g, 0, none⟩) (G ++ [wr.heap.size]).length cap) (w4.setCell ⟨Q, 2, none⟩ (.slice (some ⟨g, 0, none⟩) (k + 1) cap)) ∧ w4.cell? ⟨Q, 2, none⟩ = some (.slice ao k cp) ∧ w4.frozen? ⟨Q, 2, none⟩ = false) := fun g cap w4 h1 h2 h3 => by
        have hM := HM.out.drewN 1
        have e := HGK.out
        rw [← e] at hM
        have h4 := Mk.more (wr := wr.drewN 1) hM (by rw [← e]; exact h1) h2 h3
        rw [← e] at h4
        refine ⟨by rw [List.length_append, ← e]; exact h4, ?_⟩
        have hQo : some Q ≠ (Value.slice ao k cp).ownBlock := fun q => by have := (World.ownsRow.lt hown Q q.symm).1; omega
        have hb : w4.heap[Q]? = wr.heap[Q]? := (h2.block Q (by simp; omega) hQo).trans ((Below.heap_alloc _ _ _ (by simp; omega)).trans (Below.heap_alloc _ _ _ hQl))
        have hs := cellAt_same hb 2
        exact ⟨hs.1.trans c2, hs.2.trans (HM.out.lr.free 2)⟩
      have hzz : Q + 1 ≤ wr.heap.size := hQl
      have hnew : ((wr.alloc (.cells (madeCells #[.int .i64 0] W) 3)).alloc (.cells #[.slice (some ⟨wr.heap.size, 0, none⟩) W W] 26)).heap[wr.heap.size + 1]? = some (.cells #[.slice (some ⟨wr.heap.size, 0, none⟩) W W] 26 (0, 0)) := by
        have := World.alloc_heap_new (wr.alloc (.cells (madeCells #[.int .i64 0] W) 3)) (.cells #[.slice (some ⟨wr.heap.size, 0, none⟩) W W] 26)
        rw [World.size_alloc] at this
        exact this
      have HNW : Hid (((wr.alloc (.cells (madeCells #[.int .i64 0] W) 3)).alloc (.cells #[.slice (some ⟨wr.heap.size, 0, none⟩) W W] 26)).heap[wr.heap.size + 1]? = some (.cells #[.slice (some ⟨wr.heap.size, 0, none⟩) W W] 26 (0, 0))) := hnew
      clear hnew
      clear HM hGk
      go_wp2_with fail
      refine wp_region_held_drew (S := fun _ => True) (by kernel_rfl) trivial (fun hHeld => ?_)
      refine wpAnyH_take (i := 0) (v := .pointer (some ⟨Q, 0, none⟩)) rfl (by kernel_rfl) (by kernel_rfl) (by kernel_rfl) (fun _ _ _ h => h) (Or.inl ⟨by rfl, ?_⟩) hHeld ?_
      · intro w' _
        go_simp
      try simp only [Act.put, List.setIfInBounds_toArray, List.set_cons_zero, List.set_cons_succ]
      refine wpAnyH_take (i := 1) (v := .pointer (some ⟨Q, 0, none⟩)) rfl (by kernel_rfl) (by kernel_rfl) (by kernel_rfl) (fun _ _ _ h => h) (Or.inl ⟨by rfl, ?_⟩) hHeld ?_
      · intro w' _
        go_simp
      try simp only [Act.put, List.setIfInBounds_toArray, List.set_cons_zero, List.set_cons_succ]
      refine wpAnyH_take (i := 2) (v := .pointer (some ⟨Q, 0, none⟩)) rfl (by kernel_rfl) (by kernel_rfl) (by kernel_rfl) (fun _ _ _ h => h) (Or.inl ⟨by rfl, ?_⟩) hHeld ?_
      · intro w' _
        go_simp
      try simp only [Act.put, List.setIfInBounds_toArray, List.set_cons_zero, List.set_cons_succ]
      refine wpAnyH_take (i := 3) (v := .pointer (some ⟨Q, 2, none⟩)) rfl (by kernel_rfl) (by kernel_rfl) (by kernel_rfl) (fun _ _ _ h => h) (Or.inl ⟨by rfl, ?_⟩) hHeld ?_
      · intro w' _
        go_simp
      try simp only [Act.put, List.setIfInBounds_toArray, List.set_cons_zero, List.set_cons_succ]
      refine wpAnyH_take (i := 5) (v := .int .i64 (W : Int)) rfl (by kernel_rfl) (by kernel_rfl) (by kernel_rfl) (fun _ _ _ h => h) (Or.inl ⟨by rfl, ?_⟩) hHeld ?_
      · intro w' _
        go_simp
      try simp only [Act.put, List.setIfInBounds_toArray, List.set_cons_zero, List.set_cons_succ]
      refine wpAnyH_ready (rs := [4, 6]) (by kernel_rfl) (by simp) ?_
      refine AllReadyH.cons rfl (fun K hK => ?_) (AllReadyH.cons rfl (fun K hK => ?_) AllReadyH.nil)
      · go_simp
        refine hK.out _ _ trivial (fun hHeld => ?_)
        clear hK K
        try simp only [Act.put, List.setIfInBounds_toArray, List.set_cons_zero, List.set_cons_succ]
        refine wpAnyH_ready (rs := [6]) (by kernel_rfl) (by simp) ?_
        refine AllReadyH.cons rfl (fun K hK => ?_) AllReadyH.nil
        go_simp
        refine hK.out _ _ trivial (fun hHeld => ?_)
        clear hK K
        try simp only [Act.put, List.setIfInBounds_toArray, List.set_cons_zero, List.set_cons_succ]
        refine wpAnyH_ready (rs := [7]) (by kernel_rfl) (by simp) ?_
        refine AllReadyH.cons rfl (fun K hK => ?_) AllReadyH.nil
        go_simp
        refine hK.out _ _ trivial (fun hHeld => ?_)
        clear hK K
        try simp only [Act.put, List.setIfInBounds_toArray, List.set_cons_zero, List.set_cons_succ]
        refine wpAnyH_ready (rs := [8]) (by kernel_rfl) (by simp) ?_
        refine AllReadyH.cons rfl (fun K hK => ?_) AllReadyH.nil
        refine step_append_lies _ (by rfl) _ _ _ (by rfl) (Q + 1) 26 i0 (.slice none 0 0) 1 24 Try.underlying23 hi0 hz0 hz1 hz2 rfl (by decide) (.slice ao k cp) k (rvCells G W) (by rfl) (World.ownsRow.alloc (World.ownsRow.alloc (show World.ownsRow _ _ _ _ _ _ _ from hown) _) _) ⟨wr.heap.size + 1, 0, none⟩ 1 1 [.slice (some ⟨wr.heap.size, 0, none⟩) W W] (by rfl) rfl (World.news_of_block (show _ from HNW.out)) hone (by decide) hm63 hlen (by simp; omega) (wr.heap.size + 2) (by simp) ?_
        intro g cap2 w4 hown4 hgrow hat hlt4
        obtain ⟨hM4, q2, f2⟩ := HN.out g cap2 w4 hown4 hgrow hat
        have HM4 : Hid (Mk w Q W s (G ++ [wr.heap.size]) (.slice (some ⟨g, 0, none⟩) (G ++ [wr.heap.size]).length cap2) (w4.setCell ⟨Q, 2, none⟩ (.slice (some ⟨g, 0, none⟩) (k + 1) cap2))) := hM4
        clear hM4 hown4 hgrow hat hlt4
        simp only [List.getElem_toArray, List.getElem_cons_succ, List.getElem_cons_zero, Act.put, List.setIfInBounds_toArray, List.set_cons_zero, List.set_cons_succ]
        refine hK.out _ _ trivial (fun hHeld => ?_)
        clear hK K
        refine wpAnyH_take (i := 9) (v := .pointer (some ⟨Q, 0, none⟩)) rfl (by kernel_rfl) (by kernel_rfl) (by kernel_rfl) (fun _ _ _ h => h) (Or.inl ⟨by rfl, ?_⟩) hHeld ?_
        · intro w' _
          go_simp
        try simp only [Act.put, List.setIfInBounds_toArray, List.set_cons_zero, List.set_cons_succ]
        refine wpAnyH_take (i := 10) (v := .pointer (some ⟨Q, 2, none⟩)) rfl (by kernel_rfl) (by kernel_rfl) (by kernel_rfl) (fun _ _ _ h => h) (Or.inl ⟨by rfl, ?_⟩) hHeld ?_
        · intro w' _
          go_simp
        try simp only [Act.put, List.setIfInBounds_toArray, List.set_cons_zero, List.set_cons_succ]
        refine wpAnyH_ready (rs := [11]) (by kernel_rfl) (by simp) ?_
        refine AllReadyH.cons rfl (fun K hK => ?_) AllReadyH.nil
        go_simp
        refine hK.out _ _ trivial (fun hHeld => ?_)
        clear hK K hHeld
        refine wpAnyH_done (by kernel_rfl) ?_ _
        clear HN hone hm63 hlen q2 f2 c2 c2a
        go_wp2_with fail
        go_roundw
        case rel => exact ⟨k + 1, G ++ [wr.heap.size], some ⟨g, 0, none⟩, cap2, by omega, by go_num, by rw [List.length_append, ← HGK.out]; rfl, HM4.out⟩
        case measure => simp [intOf]; omega
      · go_simp
        refine hK.out _ _ trivial (fun hHeld => ?_)
        clear hK K
        try simp only [Act.put, List.setIfInBounds_toArray, List.set_cons_zero, List.set_cons_succ]
        refine wpAnyH_ready (rs := [4, 7]) (by kernel_rfl) (by simp) ?_
        refine AllReadyH.cons rfl (fun K hK => ?_) (AllReadyH.cons rfl (fun K hK => ?_) AllReadyH.nil)
        · go_simp
          refine hK.out _ _ trivial (fun hHeld => ?_)
          clear hK K
          try simp only [Act.put, List.setIfInBounds_toArray, List.set_cons_zero, List.set_cons_succ]
          refine wpAnyH_ready (rs := [7]) (by kernel_rfl) (by simp) ?_
          refine AllReadyH.cons rfl (fun K hK => ?_) AllReadyH.nil
          go_simp
          refine hK.out _ _ trivial (fun hHeld => ?_)
          clear hK K
          try simp only [Act.put, List.setIfInBounds_toArray, List.set_cons_zero, List.set_cons_succ]
          refine wpAnyH_ready (rs := [8]) (by kernel_rfl) (by simp) ?_
          refine AllReadyH.cons rfl (fun K hK => ?_) AllReadyH.nil
          refine step_append_lies _ (by rfl) _ _ _ (by rfl) (Q + 1) 26 i0 (.slice none 0 0) 1 24 Try.underlying23 hi0 hz0 hz1 hz2 rfl (by decide) (.slice ao k cp) k (rvCells G W) (by rfl) (World.ownsRow.alloc (World.ownsRow.alloc (show World.ownsRow _ _ _ _ _ _ _ from hown) _) _) ⟨wr.heap.size + 1, 0, none⟩ 1 1 [.slice (some ⟨wr.heap.size, 0, none⟩) W W] (by rfl) rfl (World.news_of_block (show _ from HNW.out)) hone (by decide) hm63 hlen (by simp; omega) (wr.heap.size + 2) (by simp) ?_
          intro g cap2 w4 hown4 hgrow hat hlt4
          obtain ⟨hM4, q2, f2⟩ := HN.out g cap2 w4 hown4 hgrow hat
          have HM4 : Hid (Mk w Q W s (G ++ [wr.heap.size]) (.slice (some ⟨g, 0, none⟩) (G ++ [wr.heap.size]).length cap2) (w4.setCell ⟨Q, 2, none⟩ (.slice (some ⟨g, 0, none⟩) (k + 1) cap2))) := hM4
          clear hM4 hown4 hgrow hat hlt4
          simp only [List.getElem_toArray, List.getElem_cons_succ, List.getElem_cons_zero, Act.put, List.setIfInBounds_toArray, List.set_cons_zero, List.set_cons_succ]
          refine hK.out _ _ trivial (fun hHeld => ?_)
          clear hK K
          refine wpAnyH_take (i := 9) (v := .pointer (some ⟨Q, 0, none⟩)) rfl (by kernel_rfl) (by kernel_rfl) (by kernel_rfl) (fun _ _ _ h => h) (Or.inl ⟨by rfl, ?_⟩) hHeld ?_
          · intro w' _
            go_simp
          try simp only [Act.put, List.setIfInBounds_toArray, List.set_cons_zero, List.set_cons_succ]
          refine wpAnyH_take (i := 10) (v := .pointer (some ⟨Q, 2, none⟩)) rfl (by kernel_rfl) (by kernel_rfl) (by kernel_rfl) (fun _ _ _ h => h) (Or.inl ⟨by rfl, ?_⟩) hHeld ?_
          · intro w' _
            go_simp
          try simp only [Act.put, List.setIfInBounds_toArray, List.set_cons_zero, List.set_cons_succ]
          refine wpAnyH_ready (rs := [11]) (by kernel_rfl) (by simp) ?_
          refine AllReadyH.cons rfl (fun K hK => ?_) AllReadyH.nil
          go_simp
          refine hK.out _ _ trivial (fun hHeld => ?_)
          clear hK K hHeld
          refine wpAnyH_done (by kernel_rfl) ?_ _
          clear HN hone hm63 hlen q2 f2 c2 c2a
          go_wp2_with fail
          go_roundw
          case rel => exact ⟨k + 1, G ++ [wr.heap.size], some ⟨g, 0, none⟩, cap2, by omega, by go_num, by rw [List.length_append, ← HGK.out]; rfl, HM4.out⟩
          case measure => simp [intOf]; omega
        · go_simp
          refine hK.out _ _ trivial (fun hHeld => ?_)
          clear hK K
          try simp only [Act.put, List.setIfInBounds_toArray, List.set_cons_zero, List.set_cons_succ]
          refine wpAnyH_ready (rs := [4]) (by kernel_rfl) (by simp) ?_
          refine AllReadyH.cons rfl (fun K hK => ?_) AllReadyH.nil
          go_simp
          refine hK.out _ _ trivial (fun hHeld => ?_)
          clear hK K
          try simp only [Act.put, List.setIfInBounds_toArray, List.set_cons_zero, List.set_cons_succ]
          refine wpAnyH_ready (rs := [8]) (by kernel_rfl) (by simp) ?_
          refine AllReadyH.cons rfl (fun K hK => ?_) AllReadyH.nil
          refine step_append_lies _ (by rfl) _ _ _ (by rfl) (Q + 1) 26 i0 (.slice none 0 0) 1 24 Try.underlying23 hi0 hz0 hz1 hz2 rfl (by decide) (.slice ao k cp) k (rvCells G W) (by rfl) (World.ownsRow.alloc (World.ownsRow.alloc (show World.ownsRow _ _ _ _ _ _ _ from hown) _) _) ⟨wr.heap.size + 1, 0, none⟩ 1 1 [.slice (some ⟨wr.heap.size, 0, none⟩) W W] (by rfl) rfl (World.news_of_block (show _ from HNW.out)) hone (by decide) hm63 hlen (by simp; omega) (wr.heap.size + 2) (by simp) ?_
          intro g cap2 w4 hown4 hgrow hat hlt4
          obtain ⟨hM4, q2, f2⟩ := HN.out g cap2 w4 hown4 hgrow hat
          have HM4 : Hid (Mk w Q W s (G ++ [wr.heap.size]) (.slice (some ⟨g, 0, none⟩) (G ++ [wr.heap.size]).length cap2) (w4.setCell ⟨Q, 2, none⟩ (.slice (some ⟨g, 0, none⟩) (k + 1) cap2))) := hM4
          clear hM4 hown4 hgrow hat hlt4
          simp only [List.getElem_toArray, List.getElem_cons_succ, List.getElem_cons_zero, Act.put, List.setIfInBounds_toArray, List.set_cons_zero, List.set_cons_succ]
          refine hK.out _ _ trivial (fun hHeld => ?_)
          clear hK K
          refine wpAnyH_take (i := 9) (v := .pointer (some ⟨Q, 0, none⟩)) rfl (by kernel_rfl) (by kernel_rfl) (by kernel_rfl) (fun _ _ _ h => h) (Or.inl ⟨by rfl, ?_⟩) hHeld ?_
          · intro w' _
            go_simp
          try simp only [Act.put, List.setIfInBounds_toArray, List.set_cons_zero, List.set_cons_succ]
          refine wpAnyH_take (i := 10) (v := .pointer (some ⟨Q, 2, none⟩)) rfl (by kernel_rfl) (by kernel_rfl) (by kernel_rfl) (fun _ _ _ h => h) (Or.inl ⟨by rfl, ?_⟩) hHeld ?_
          · intro w' _
            go_simp
          try simp only [Act.put, List.setIfInBounds_toArray, List.set_cons_zero, List.set_cons_succ]
          refine wpAnyH_ready (rs := [11]) (by kernel_rfl) (by simp) ?_
          refine AllReadyH.cons rfl (fun K hK => ?_) AllReadyH.nil
          go_simp
          refine hK.out _ _ trivial (fun hHeld => ?_)
          clear hK K hHeld
          refine wpAnyH_done (by kernel_rfl) ?_ _
          clear HN hone hm63 hlen q2 f2 c2 c2a
          go_wp2_with fail
          go_roundw
          case rel => exact ⟨k + 1, G ++ [wr.heap.size], some ⟨g, 0, none⟩, cap2, by omega, by go_num, by rw [List.length_append, ← HGK.out]; rfl, HM4.out⟩
          case measure => simp [intOf]; omega
    · have hki : ¬ (k : Int) < (H : Int) := by omega
      have hkH : k = H := by omega
      subst hkH
      obtain ⟨R, hro, hRQ, hRl, hGd⟩ := HM.out.gd
      have hQl := HM.out.lt
      have ap : ApQ Q R G ao := ⟨fun h => by have := (HM.out.low Q h).1; omega, hRQ, hro⟩
      have HQS : Hid (Qst (Q + 1) wr Q R G W ao cp s 0 0 0 true Rl.zero wr) := ⟨HM.out.lr, hGd, Tn.refl _ _ _ _⟩
      have HBL : Hid (Below Q w wr) := HM.out.below
      have HRL : Hid (G ≠ [] → Q < R ∧ R < wr.heap.size) := hRl
      have HGL : Hid (∀ b ∈ G, Q < b) := fun b hb => (HM.out.low b hb).1
      clear HM hRl hGd hGk
      obtain ⟨w0, hw0⟩ : ∃ w0, w0 = wr := ⟨_, rfl⟩
      rw [← hw0] at HQS HBL HRL
      have HQS' : Hid (Qst (Q + 1) w0 Q R G W ao cp s 0 0 0 true Rl.zero wr) := by rw [← hw0]; exact HQS.out
      clear hw0 HQS
      have HBY : Hid (∀ (A' x' y' : Nat) (ok : Bool) (g' : Rl.Grid) (w2 : World), Qst (Q + 1) w0 Q R G W ao cp s A' x' y' ok g' w2 → A' < s.size → Calls Try.prog 49 #[.pointer (some ⟨Q, 0, none⟩)] w2 fun e w' => e = .returned (.int .i64 (byteAt s A' : Int)) ∧ Qst (Q + 1) w0 Q R G W ao cp s (A' + 1) x' y' ok g' w') := fun A' x' y' ok g' w2 hr hlt => qbyte_yes (Q + 1) w0 Q R G W ao cp s A' x' y' ok g' w2 hr ap hs hlt
      have HBN : Hid (∀ (A' x' y' : Nat) (ok : Bool) (g' : Rl.Grid) (w2 : World), Qst (Q + 1) w0 Q R G W ao cp s A' x' y' ok g' w2 → s.size ≤ A' → Calls Try.prog 49 #[.pointer (some ⟨Q, 0, none⟩)] w2 fun e w' => e = .returned (.int .i64 0) ∧ Qst (Q + 1) w0 Q R G W ao cp s A' x' y' false g' w') := fun A' x' y' ok g' w2 hr hlt => qbyte_no (Q + 1) w0 Q R G W ao cp s A' x' y' ok g' w2 hr ap hlt
      have HPT : Hid (∀ (A' x' y' : Nat) (g' : Rl.Grid) (c : Int) (w2 : World), Qst (Q + 1) w0 Q R G W ao cp s A' x' y' true g' w2 → x' ≤ 10000000 → Calls Try.prog 51 #[.pointer (some ⟨Q, 0, none⟩), .int .i64 c] w2 (QpEnd (Q + 1) w0 Q R G W ao cp s A' x' y' g' c)) := fun A' x' y' g' c w2 hr h1 => qput_any (Q + 1) w0 Q R G W ao cp s A' x' y' g' c w2 hr ap h1
      have HES : Hid (∀ (A' b x' y' : Nat) (g' : Rl.Grid) (w2 : World), Qst (Q + 1) w0 Q R G W ao cp s A' x' y' true g' w2 → A' ≤ s.size → b < 256 → x' ≤ 3000000 → y' ≤ 3000000 → Calls Try.prog 50 #[.pointer (some ⟨Q, 0, none⟩), .int .i64 (b : Int)] w2 (EsEnd (Q + 1) w0 Q R G W ao cp s A' b x' y' g')) := fun A' b x' y' g' w2 hr h1 h2 h3 h4 => escape_any (Q + 1) w0 Q R G W ao cp s A' b x' y' g' w2 hr ap hs h1 h2 h3 h4
      clear hmn hi0 hz0 hz1 hz2 i0
      go_wp2_with fail
      go_loopw [10] (fun o wr' => (o = .bool true ∧ ∃ (A x y : Nat) (g : Rl.Grid), A ≤ s.size ∧ x ≤ 300 * A ∧ y ≤ 300 * A ∧ Hid (Rl.get s W G.length 0 Rl.zero 0 0 = Rl.get s W G.length A g x y) ∧ Hid (Qst (Q + 1) w0 Q R G W ao cp s A x y true g wr')) ∨ (∃ (t : Bool), o = .bool t ∧ Hid (Rl.get s W G.length 0 Rl.zero 0 0 = none ∧ Qbad (Q + 1) w0 Q R G W ao cp s 0 wr')) ∨ (o = .bool false ∧ ∃ (A x y : Nat) (g : Rl.Grid), A ≤ s.size ∧ Hid (Rl.get s W G.length 0 Rl.zero 0 0 = if A = s.size then some g else none) ∧ Hid (Qst (Q + 1) w0 Q R G W ao cp s A x y true g wr'))) (fun _ wr' => farQ s Q wr')
      case atStart => exact .inl ⟨rfl, 0, 0, 0, Rl.zero, Nat.zero_le _, Nat.le_refl _, Nat.le_refl _, rfl, HQS'⟩
      case round =>
        rcases hrel with ⟨rfl, A, x, y, g, hA, hx, hy, HG, HR⟩ | ⟨t, rfl, HBD⟩ | ⟨rfl, A, x, y, g, hA, HG, HR⟩
        · clear HQS'
          obtain ⟨-, -, -, -, -, c5⟩ := HR.out.1.cells
          have HFAR : Hid (farQ s Q wr = (s.size - A) * 2 + 1) := farQ_eq HR.out
          by_cases h2s : A + 2 ≤ s.size
          rotate_left
          · have HNO : Hid (Rl.get s W G.length 0 Rl.zero 0 0 = none) := by show _ = _; rw [HG.out]; exact Rl.get_none (Rl.step_short h2s)
            obtain ⟨u, A1, o1, hub, hA1, HC1⟩ : ∃ (u A1 : Nat) (o1 : Bool), u < 256 ∧ (A ≤ A1 ∧ A1 = s.size) ∧ Hid (Calls Try.prog 49 #[.pointer (some ⟨Q, 0, none⟩)] wr fun e w' => e = .returned (.int .i64 (u : Int)) ∧ Qst (Q + 1) w0 Q R G W ao cp s A1 x y o1 g w') := by
              by_cases hlt : A < s.size
              · exact ⟨byteAt s A, A + 1, true, byteAt_lt _ _, by omega, HBY.out A x y true g wr HR.out hlt⟩
              · exact ⟨0, A, false, by omega, by omega, HBN.out A x y true g wr HR.out (by omega)⟩
            obtain ⟨hA1a, hA1b⟩ := hA1
            have HA1 : Hid (A1 = s.size) := hA1b
            clear HG HR HES HPT hA1b
            go_wp2_with fail
            refine HC1.out.mono ?_
            rintro e w3 ⟨rfl, h3⟩
            have HC2 : Hid (Calls Try.prog 49 #[.pointer (some ⟨Q, 0, none⟩)] w3 fun e w' => e = .returned (.int .i64 0) ∧ Qst (Q + 1) w0 Q R G W ao cp s A1 x y false g w') := HBN.out A1 x y o1 g w3 h3 (by rw [HA1.out]; exact Nat.le_refl _)
            clear h3 HC1 c5
            go_wp2_with fail
            refine HC2.out.mono ?_
            rintro e w4 ⟨rfl, h4⟩
            have HR4 : Hid (Qst (Q + 1) w0 Q R G W ao cp s A1 x y false g w4) := h4
            obtain ⟨-, -, -, -, -, d5⟩ := h4.1.cells
            clear h4 HC2
            by_cases hu0 : u = 0
            · subst hu0
              go_wp2_with fail
              go_loopw [13] (fun i wr' => i = .int .i64 0 ∧ wr' = w4) (fun _ _ => 0)
              case atStart => exact ⟨rfl, rfl⟩
              case round =>
                obtain ⟨rfl, rfl⟩ := hrel
                go_wp2_with fail
                go_roundw
                case rel => exact .inr (.inl ⟨true, rfl, HNO.out, A1, x, y, g, Nat.zero_le _, Nat.le_of_eq HA1.out, HR4.out⟩)
                case measure => rw [HFAR.out, farQ_eq HR4.out, HA1.out]; simp
            · have gu : (0 : Int) < (u : Int) := by omega
              have g0 : ((u : Int) == 0) = false := by rw [beq_eq_false_iff_ne]; omega
              go_wp2_with fail
              go_loopw [13] (fun i wr' => i = .int .i64 0 ∧ wr' = w4) (fun _ _ => 0)
              case atStart => exact ⟨rfl, rfl⟩
              case round =>
                obtain ⟨rfl, rfl⟩ := hrel
                go_wp2_with fail
                go_roundw
                case rel => exact .inr (.inl ⟨true, rfl, HNO.out, A1, x, y, g, Nat.zero_le _, Nat.le_of_eq HA1.out, HR4.out⟩)
                case measure => rw [HFAR.out, farQ_eq HR4.out, HA1.out]; simp
          have HC1 : Hid (Calls Try.prog 49 #[.pointer (some ⟨Q, 0, none⟩)] wr fun e w' => e = .returned (.int .i64 (byteAt s A : Int)) ∧ Qst (Q + 1) w0 Q R G W ao cp s (A + 1) x y true g w') := HBY.out A x y true g wr HR.out (by omega)
          obtain ⟨c, hc⟩ : ∃ c, c = byteAt s A := ⟨_, rfl⟩
          have HC : Hid (c = byteAt s A) := hc
          have hcb : c < 256 := by rw [hc]; exact byteAt_lt _ _
          rw [← hc] at HC1
          clear hc HR
          go_wp2_with fail
          refine HC1.out.mono ?_
          rintro e w3 ⟨rfl, h3⟩
          have HC2 : Hid (Calls Try.prog 49 #[.pointer (some ⟨Q, 0, none⟩)] w3 fun e w' => e = .returned (.int .i64 (byteAt s (A + 1) : Int)) ∧ Qst (Q + 1) w0 Q R G W ao cp s (A + 2) x y true g w') := HBY.out (A + 1) x y true g w3 h3 (by omega)
          obtain ⟨b, hb⟩ : ∃ b, b = byteAt s (A + 1) := ⟨_, rfl⟩
          have HB : Hid (b = byteAt s (A + 1)) := hb
          have hbb : b < 256 := by rw [hb]; exact byteAt_lt _ _
          rw [← hb] at HC2
          clear hb h3 HC1 c5
          go_wp2_with fail
          refine HC2.out.mono ?_
          rintro e w4 ⟨rfl, h4⟩
          have HR4 : Hid (Qst (Q + 1) w0 Q R G W ao cp s (A + 2) x y true g w4) := h4
          obtain ⟨-, -, -, -, -, d5⟩ := h4.1.cells
          clear h4 HC2
          by_cases hc0 : c = 0
          · subst hc0
            have HSE : Hid (Rl.step s W G.length A g x y = Rl.esc s W G.length (A + 2) b g x y) := by show _ = _; rw [Rl.step_esc h2s HC.out.symm, HB.out]
            go_wp2_with fail
            refine (HES.out (A + 2) b x y g w4 HR4.out h2s hbb (by omega) (by omega)).mono ?_
            clear HR4 d5 HBY HBN HPT HES
            rintro e w4 (⟨⟨t, A', g', x', y'⟩, ho, rfl, h5⟩ | ⟨hno, t, rfl, A', x', y', g', l1, l2, h5⟩)
            · have hst : Rl.step s W G.length A g x y = some (t, A', g', x', y') := HSE.out.trans ho
              obtain ⟨l1, l2, l3, l4⟩ := Rl.step_le hst
              simp only at l1 l2 l3 l4
              have HR5 : Hid (Qst (Q + 1) w0 Q R G W ao cp s A' x' y' true g' w4) := h5
              obtain ⟨-, -, -, -, -, d5⟩ := h5.1.cells
              cases t
              · have HG5 : Hid (Rl.get s W G.length 0 Rl.zero 0 0 = if A' = s.size then some g' else none) := by show _ = _; rw [HG.out]; exact Rl.get_end hst
                clear hst ho h5 HG HSE
                go_wp2_with fail
                go_loopw [13] (fun i wr' => i = .int .i64 0 ∧ wr' = w4) (fun _ _ => 0)
                case atStart => exact ⟨rfl, rfl⟩
                case round =>
                  obtain ⟨rfl, rfl⟩ := hrel
                  go_wp2_with fail
                  go_roundw
                  case rel => exact .inr (.inr ⟨rfl, A', x', y', g', l2, HG5, HR5⟩)
                  case measure => rw [HFAR.out, farQ_eq HR5.out]; simp; omega
              · have HG5 : Hid (Rl.get s W G.length 0 Rl.zero 0 0 = Rl.get s W G.length A' g' x' y') := by show _ = _; rw [HG.out]; exact Rl.get_more hst
                clear hst ho h5 HG HSE
                go_wp2_with fail
                go_loopw [13] (fun i wr' => i = .int .i64 0 ∧ wr' = w4) (fun _ _ => 0)
                case atStart => exact ⟨rfl, rfl⟩
                case round =>
                  obtain ⟨rfl, rfl⟩ := hrel
                  go_wp2_with fail
                  go_roundw
                  case rel => exact .inl ⟨rfl, A', x', y', g', l2, by omega, by omega, HG5, HR5⟩
                  case measure => rw [HFAR.out, farQ_eq HR5.out]; simp; omega
            · have HNO : Hid (Rl.get s W G.length 0 Rl.zero 0 0 = none) := by show _ = _; rw [HG.out]; exact Rl.get_none (HSE.out.trans hno)
              have HR5 : Hid (Qst (Q + 1) w0 Q R G W ao cp s A' x' y' false g' w4) := h5
              obtain ⟨-, -, -, -, -, d5⟩ := h5.1.cells
              clear hno h5 HG HSE
              go_wp2_with fail
              go_loopw [13] (fun i wr' => i = .int .i64 0 ∧ wr' = w4) (fun _ _ => 0)
              case atStart => exact ⟨rfl, rfl⟩
              case round =>
                obtain ⟨rfl, rfl⟩ := hrel
                go_wp2_with fail
                go_roundw
                case rel => exact .inr (.inl ⟨t, rfl, HNO.out, A', x', y', g', Nat.zero_le _, l2, HR5.out⟩)
                case measure => rw [HFAR.out, farQ_eq HR5.out]; simp; omega
          have g0 : ((c : Int) == 0) = false := by rw [beq_eq_false_iff_ne]; omega
          have HSP : Hid (Rl.step s W G.length A g x y = (Rl.puts W G.length (List.replicate c (b : Int)) g x y).map (fun r => (true, A + 2, r.1, r.2, y))) := by show _ = _; rw [Rl.step_run h2s (by rw [← HC.out]; omega), ← HC.out, ← HB.out]
          clear HBY HBN HES
          go_wp2_with fail
          go_loopw [13] (fun i wr' => ∃ (k : Nat), k ≤ c ∧ i = .int .i64 (k : Int) ∧ ((∃ (x' : Nat) (g' : Rl.Grid), x' ≤ x + k ∧ Hid (Rl.puts W G.length (List.replicate c (b : Int)) g x y = Rl.puts W G.length ((List.replicate c (b : Int)).drop k) g' x' y) ∧ Hid (Qst (Q + 1) w0 Q R G W ao cp s (A + 2) x' y true g' wr')) ∨ Hid (Rl.step s W G.length A g x y = none ∧ Qbad (Q + 1) w0 Q R G W ao cp s A wr'))) (fun i _ => c - (intOf i).toNat)
          case atStart => exact ⟨0, Nat.zero_le _, rfl, .inl ⟨x, g, Nat.le_refl _, rfl, HR4⟩⟩
          case round =>
            obtain ⟨k', hk', rfl, (⟨x', g', hx', HP, HR⟩ | HBAD)⟩ := hrel
            · clear HR4 d5
              obtain ⟨-, -, -, -, -, c5⟩ := HR.out.1.cells
              by_cases hkc : k' < c
              · have hkci : (k' : Int) < (c : Int) := by omega
                have dk : decide ((k' : Int) < (c : Int)) = true := decide_eq_true hkci
                go_wp2_with fail
                refine (HPT.out (A + 2) x' y g' (b : Int) _ HR.out (by omega)).mono ?_
                rintro e w5 ⟨rfl, (⟨h1, h2⟩ | ⟨h1, h2⟩)⟩
                · have HP2 : Hid (Rl.puts W G.length (List.replicate c (b : Int)) g x y = Rl.puts W G.length ((List.replicate c (b : Int)).drop (k' + 1)) (Rl.upd g' y x' (b : Int)) (x' + 1) y) := by
                    show _ = _
                    rw [HP.out, Rl.rep_drop _ _ _ hkc, Rl.puts_yes h1]
                  have HR5 : Hid (Qst (Q + 1) w0 Q R G W ao cp s (A + 2) (x' + 1) y true (Rl.upd g' y x' (b : Int)) w5) := h2
                  clear h1 h2 HP HR c5
                  go_wp2_with fail
                  go_roundw
                  case rel => exact ⟨k' + 1, by omega, by go_num, .inl ⟨x' + 1, _, by omega, HP2.out, HR5.out⟩⟩
                  case measure => simp [intOf]; omega
                · have HB5 : Hid (Rl.step s W G.length A g x y = none ∧ Qbad (Q + 1) w0 Q R G W ao cp s A w5) := by
                    refine ⟨?_, A + 2, x', y, g', by omega, by omega, h2⟩
                    rw [HSP.out, HP.out, Rl.rep_drop _ _ _ hkc, Rl.puts_no h1]; rfl
                  clear h1 h2 HP HR c5
                  go_wp2_with fail
                  go_roundw
                  case rel => exact ⟨k' + 1, by omega, by go_num, .inr HB5.out⟩
                  case measure => simp [intOf]; omega
              · have hkci : ¬ (k' : Int) < (c : Int) := by omega
                have dk : decide ((k' : Int) < (c : Int)) = false := decide_eq_false hkci
                have HG5 : Hid (Rl.get s W G.length 0 Rl.zero 0 0 = Rl.get s W G.length (A + 2) g' x' y) := by
                  show _ = _
                  rw [HG.out]
                  refine Rl.get_more ?_
                  rw [HSP.out, HP.out, List.drop_of_length_le (by simp; omega)]; rfl
                clear HG HP HSP HPT
                go_wp2_with fail
                go_roundw
                case rel => exact .inl ⟨rfl, A + 2, x', y, g', h2s, by omega, by omega, HG5, HR⟩
                case measure => rw [HFAR.out, farQ_eq HR.out]; simp; omega
            · obtain ⟨hno, A', x', y', g', l1, l2, hq⟩ := HBAD.out
              have HNO : Hid (Rl.get s W G.length 0 Rl.zero 0 0 = none) := by show _ = _; rw [HG.out]; exact Rl.get_none hno
              have HR5 : Hid (Qst (Q + 1) w0 Q R G W ao cp s A' x' y' false g' wr) := hq
              obtain ⟨-, -, -, -, -, c5⟩ := hq.1.cells
              clear hno hq HBAD HR4 d5 HG HSP HPT
              by_cases hkc : (k' : Int) < (c : Int)
              all_goals
                go_wp2_with fail
                go_roundw
                case rel => exact .inr (.inl ⟨true, rfl, HNO.out, A', x', y', g', Nat.zero_le _, l2, HR5.out⟩)
                case measure => rw [HFAR.out, farQ_eq HR5.out]; simp; omega
        · obtain ⟨hno, A', x', y', g', -, -, hq⟩ := HBD.out
          obtain ⟨d0, d1, d2, -, -, d5⟩ := hq.1.cells
          have HF : Hid (∀ q, LrEnd w s W k (.returned (.tuple #[.slice ao k cp, .bool false])) (wr.drewN q)) := fun q => by
            refine ⟨?_, ao, cp, .inl ⟨by rw [HGK.out]; exact hno, rfl⟩⟩
            have ht := hq.2.2
            refine (HQ.out ▸ HBL.out.trans ⟨ht.os, ht.tape, ht.output, by rw [ht.size]; exact Nat.le_refl _, fun j hj => ht.rest j (by omega) (by omega) (fun h => by have := HGL.out j h; omega)⟩ : Below w.heap.size w wr).trans ⟨rfl, rfl, rfl, Nat.le_refl _, fun _ _ => rfl⟩
          rw [← HGK.out] at d2
          clear hno hq HBD HQS' HBY HBN HPT HES
          cases t
          all_goals
            go_wp2_with fail
            go_quiet (fail)
            go_wp2_with fail
            exact bodyPost_ret (v := .tuple #[.slice ao k cp, .bool false]) (by simp [results, Try.results34, go_sem]) rfl (HF.out nq)
        · obtain ⟨d0, d1, d2, -, -, d5⟩ := HR.out.1.cells
          have HBW : Hid (∀ q, Below w.heap.size w (wr.drewN q)) := fun q => by
            have ht := HR.out.2.2
            exact (HQ.out ▸ HBL.out.trans ⟨ht.os, ht.tape, ht.output, by rw [ht.size]; exact Nat.le_refl _, fun j hj => ht.rest j (by omega) (by omega) (fun h => by have := HGL.out j h; omega)⟩ : Below w.heap.size w wr).trans ⟨rfl, rfl, rfl, Nat.le_refl _, fun _ _ => rfl⟩
          rw [← HGK.out] at d2
          by_cases hAs : A = s.size
          · have hae : ((A : Int) == (s.size : Int)) = true := by rw [beq_iff_eq]; omega
            have HF : Hid (∀ q, LrEnd w s W k (.returned (.tuple #[.slice ao k cp, .bool true])) (wr.drewN q)) := fun q => by
              refine ⟨HBW.out q, ao, cp, .inr ⟨g, by rw [HGK.out, HG.out, if_pos hAs], rfl, ?_⟩⟩
              by_cases hk0 : k = 0
              · exact .inl hk0
              · have hGn : G ≠ [] := fun e => hk0 (by rw [HGK.out, e]; rfl)
                have hsz := HR.out.2.2.size
                have := HRL.out hGn
                exact .inr ⟨R, G, hro.resolve_left hGn, HGK.out.symm, by rw [← HQ.out]; omega, by show R < wr.heap.size; omega, (HR.out.drewN q).2.1.base (by rw [← HQ.out]; omega)⟩
            clear HR HG HQS' HBY HBN HPT HES HBW
            go_wp2_with fail
            go_quiet (fail)
            go_wp2_with fail
            exact bodyPost_ret (v := .tuple #[.slice ao k cp, .bool true]) (by simp [results, Try.results34, go_sem]) rfl (HF.out nq)
          · have hae : ((A : Int) == (s.size : Int)) = false := by rw [beq_eq_false_iff_ne]; omega
            have HF : Hid (∀ q, LrEnd w s W k (.returned (.tuple #[.slice ao k cp, .bool false])) (wr.drewN q)) := fun q => ⟨HBW.out q, ao, cp, .inl ⟨by rw [HGK.out, HG.out, if_neg hAs], rfl⟩⟩
            clear HR HG HQS' HBY HBN HPT HES HBW
            go_wp2_with fail
            go_quiet (fail)
            go_wp2_with fail
            exact bodyPost_ret (v := .tuple #[.slice ao k cp, .bool false]) (by simp [results, Try.results34, go_sem]) rfl (HF.out nq)
end Go.Proofs.Ytlpfedhehfbfeaa
