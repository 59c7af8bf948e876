/- The reader's next packet. -/
import Derived.Test.YtmcjdilmmabiaaaBrNum
import Derived.Test.YtmcjdilmmabiaaaIntsWalks
import Derived.Test.YtmcjdilmmabiaaaMarkWalks
import Derived.Laws.Tables
namespace Go.Proofs.Ytmcjdilmmabiaaa
open Go.RowKit

theorem lt_heap {w : World} {k : Nat} {o : Obj} (h : w.heap[k]? = some o) : k < w.heap.size := (Array.getElem?_eq_some_iff.1 h).1
theorem row_set {w : World} {g k : Nat} {zs : List Int} (h : w.heap[g]? = some (.cells (cp zs k) 3 (0, 0))) (hk : k < zs.length) : (w.setCell ⟨g, k, none⟩ (.int .i64 zs[k])).heap[g]? = some (.cells (cp zs (k + 1)) 3 (0, 0)) := by
  rw [setCell_eq_setRow w g k _ _ _ _ h, cp_set zs k hk]; exact setRow_heap w g _ _ _ _ h
theorem row_cell {w : World} {g k j : Nat} {zs : List Int} (h : w.heap[g]? = some (.cells (cp zs k) 3 (0, 0))) (hj : j < zs.length) : w.cell? ⟨g, j, none⟩ = some (.int .i64 (if j < k then zs.getD j 0 else 0)) ∧ w.frozen? ⟨g, j, none⟩ = false := by
  refine ⟨?_, ?_⟩
  · simp only [World.cell?, h]; rw [cp_get _ _ _ hj]; rfl
  · simp [World.frozen?, h]

/-- how a packet's reading ends -/
def PkOut (w : World) (B : Nat) (s : ByteArray) (S A n : Nat) (e : Ending) (w' : World) : Prop :=
  (Rg.There s S A n ∧ (∃ g c, e = .returned (.slice (some ⟨g, 0, none⟩) (Rg.cnt (byteAt s A)) c) ∧ Owns w' w.heap.size (some ⟨g, 0, none⟩) (Rg.nums s S A)) ∧ Br w' B s (A + 1 + Rg.need S (byteAt s A)) ∧ Only B w w') ∨
  (¬ Rg.There s S A n ∧ (∃ c, e = fault c ∧ c ≠ 0) ∧ Only B w w')

set_option maxHeartbeats 4000000 in
set_option maxRecDepth 20000 in
theorem packet_any (B A S n : Nat) (s : ByteArray) (w : World) (h : Br w B s A) (hs : s.size ≤ 9000) (hA0 : A ≤ s.size) (hS1 : 1 ≤ S) (hS : S ≤ 4) :
    Calls Try.prog 42 #[.pointer (some ⟨B, 0, none⟩), .int .i64 (S : Int), .int .i64 (n : Int)] w (PkOut w B s S A n) := by
  by_cases hA : A < s.size
  · have HX : Hid (Calls Try.prog 48 #[.pointer (some ⟨B, 0, none⟩)] w fun e w' => e = .returned (.int .i64 (byteAt s A : Int)) ∧ Br w' B s (A + 1) ∧ Only B w w' ∧ w'.heap.size = w.heap.size) := nextByte_yes B A s w h (by omega) hA
    have hH256 := byteAt_lt s A
    obtain ⟨zs, hzs⟩ : ∃ zs, zs = Rg.nums s S A := ⟨_, rfl⟩
    obtain ⟨H, hH⟩ : ∃ H, H = byteAt s A := ⟨_, rfl⟩
    rw [← hH] at HX hH256
    have hHi : (H : Int) < 256 := by omega
    clear h
    go_enter Try.func42, Try.ntmps42
    go_wp2_with fail
    refine HX.out.mono ?_
    rintro e w1 ⟨rfl, h1, h2, h3⟩
    have HB1 : Hid (Br w1 B s (A + 1)) := h1
    have HO1 : Hid (Only B w w1 ∧ w1.heap.size = w.heap.size) := ⟨h2, h3⟩
    clear h1 h2 h3 HX
    by_cases hag : 128 ≤ H
    · obtain ⟨C, hC⟩ : ∃ C : Nat, C = H - 127 := ⟨_, rfl⟩
      have hcnt : Rg.cnt H = C := by unfold Rg.cnt; rw [if_pos hag, hC]
      have hneed : Rg.need S H = S := by unfold Rg.need; rw [if_pos hag]
      have hoff : ∀ i, Rg.off S H i = 0 := fun i => by unfold Rg.off; rw [if_pos hag]
      have e1 : (H : Int) + 1 = ((H + 1 : Nat) : Int) := by omega
      have e2 : (H : Int) - 127 = (C : Int) := by omega
      have hC1 : 1 ≤ C := by omega
      have hC2 : C ≤ 128 := by omega
      have dag : decide ((H : Int) ≥ 128) = true := by simp; omega
      have hgi : (128 : Int) ≤ (H : Int) := by omega
      clear e1
      by_cases hle : C ≤ n
      · have HZ : Hid (∀ w : World, (Instr.makeSlice 30 (.int .i64 (C : Int)) (.int .i64 (C : Int))).run Try.prog w = .ok (.slice (some ⟨w.heap.size, 0, none⟩) C C) (w.alloc (.cells (cp zs 0) 3))) := fun w => make_ints zs C (by rw [hzs, Rg.nums_len, ← hH, hcnt]) (by omega) w
        have hzl : zs.length = C := by rw [hzs, Rg.nums_len, ← hH, hcnt]
        have hza : ∀ i (h : i < zs.length), zs[i] = Rg.num s S (A + 1 + 0) := fun i h => by
          have := Rg.nums_at s S A i (by rw [← hzs]; exact h)
          rw [← hH, hoff] at this
          subst hzs; exact this
        have HTH : Hid (A + 1 + S ≤ s.size → Rg.There s S A n ∧ Rg.need S (byteAt s A) = S ∧ Rg.cnt (byteAt s A) = C) := fun h => ⟨⟨hA, by rw [← hH, hcnt]; exact hle, by rw [← hH, hneed]; exact h⟩, by rw [← hH]; exact hneed, by rw [← hH]; exact hcnt⟩
        have HNT : Hid (¬ A + 1 + S ≤ s.size → ¬ Rg.There s S A n) := fun h ht => h (by have := ht.2.2; rw [← hH, hneed] at this; exact this)
        have HZS : Hid (zs = Rg.nums s S A) := hzs
        have HZL : Hid (zs.length = C ∧ ∀ i (h : i < zs.length), zs[i] = Rg.num s S (A + 1 + 0)) := ⟨hzl, hza⟩
        have hmk := HZ.out w1
        clear hzs hH hcnt hneed hoff hC hza hzl HZ hag
        have hbb : (C : Int) ≤ (n : Int) := by omega
        go_wp2_with fail
        refine (insist_of _ 1 _ (by first | rfl | simp <;> omega)).mono ?_
        rintro e w2 ⟨rfl, rfl⟩
        clear hbb
        go_wp2_with fail
        have HR0 : Hid ((w2.alloc (.cells (cp zs 0) 3)).heap[w2.heap.size]? = some (.cells (cp zs 0) 3 (0, 0))) := heap_alloc_new _ _
        have HB0 : Hid (Br (w2.alloc (.cells (cp zs 0) 3)) B s (A + 1)) := HB1.out.kept ((Below.refl _ _).alloc (Nat.le_refl _) _)
        have HO0 : Hid (Only B w (w2.alloc (.cells (cp zs 0) 3)) ∧ w2.heap.size + 1 ≤ (w2.alloc (.cells (cp zs 0) 3)).heap.size) := ⟨HO1.out.1.alloc HB1.out.lt _, by simp⟩
        have hgB : B < w2.heap.size := HB1.out.lt
        have hgw : w.heap.size ≤ w2.heap.size := HO1.out.1.below.size
        have hBw : B < w.heap.size := by rw [← HO1.out.2]; exact hgB
        generalize w2.alloc (.cells (cp zs 0) 3) = W0 at *
        generalize w2.heap.size = g at *
        clear hmk HB1 HO1
        go_loopw [29] (fun i wr => ∃ k : Nat, k ≤ C ∧ i = .int .i64 (k : Int) ∧ wr.heap[g]? = some (.cells (cp zs k) 3 (0, 0)) ∧ (∃ E, Br wr B s E ∧ E = A + 1 + (if k = 0 then 0 else S) ∧ E ≤ s.size) ∧ Only B w wr) (fun i _ => C - (intOf i).toNat)
        case atStart => exact ⟨0, Nat.zero_le _, rfl, HR0.out, ⟨A + 1, HB0.out, rfl, hA⟩, HO0.out.1⟩
        case round =>
          obtain ⟨k, hk, rfl, hrow, ⟨E, hBr, hE, hEs⟩, hO⟩ := hrel
          clear HR0 HB0 HO0
          have HRW : Hid (wr.heap[g]? = some (.cells (cp zs k) 3 (0, 0))) := hrow
          have HBr : Hid (Br wr B s E) := hBr
          have HO : Hid (Only B w wr) := hO
          have HE : Hid (E = A + 1 + (if k = 0 then 0 else S)) := hE
          have hglt : g < wr.heap.size := lt_heap hrow
          clear hrow hBr hO hE
          by_cases hlt : k < C
          · have hki : (k : Int) < (C : Int) := by omega
            by_cases hk0 : k = 0
            · have hk0i : ¬ (0 : Int) < (k : Int) := by omega
              have hk0n : ¬ 0 < k := by omega
              have HK0 : Hid (k = 0) := hk0
              clear hk0
              by_cases hin : E + S ≤ s.size
              · obtain ⟨E2, hE2⟩ : ∃ E2, E2 = E + S := ⟨_, rfl⟩
                have HV : Hid (Rg.num s S E = zs[k]'(by rw [HZL.out.1]; exact hlt)) := by show _ = _; rw [HZL.out.2 k (by rw [HZL.out.1]; exact hlt), HE.out]; rw [if_pos HK0.out]
                have HE2 : Hid (E2 = A + 1 + (if k + 1 = 0 then 0 else S)) := by show _ = _; rw [hE2, HE.out, if_pos HK0.out, if_neg (by omega)]
                have hE2s : E2 ≤ s.size := by omega
                have HN : Hid (Calls Try.prog 60 #[.pointer (some ⟨B, 0, none⟩), .int .i64 (S : Int)] wr fun e w' => e = .returned (.int .i64 (Rg.num s S E)) ∧ Br w' B s E2 ∧ Only B wr w') := by rw [hE2]; exact number_yes B E S s wr HBr.out hs hin hS1 hS
                clear hE2 hin HNT
                generalize Rg.num s S E = z at *
                go_wp2_with fail
                refine HN.out.mono ?_
                rintro e w5 ⟨rfl, h1, h2⟩
                have HB5 : Hid (Br w5 B s E2) := h1
                have HO5 : Hid (Only B w w5) := HO.out.trans h2
                have HR5 : Hid (w5.heap[g]? = some (.cells (cp zs k) 3 (0, 0))) := (h2.rest g hglt (by omega)).trans HRW.out
                clear h1 h2 HN HO HRW HBr
                have hr5 : w5.heap[g]? = some (.cells (cp zs k) 3 (0, 0)) := HR5.out
                obtain ⟨hc5, hf5⟩ := row_cell hr5 (j := k) (by rw [HZL.out.1]; exact hlt)
                have HF5 : Hid ((w5.setCell ⟨g, k, none⟩ (.int .i64 z)).heap[g]? = some (.cells (cp zs (k + 1)) 3 (0, 0)) ∧ Br (w5.setCell ⟨g, k, none⟩ (.int .i64 z)) B s E2 ∧ Only B w (w5.setCell ⟨g, k, none⟩ (.int .i64 z))) := by
                  have hkl : k < zs.length := by rw [HZL.out.1]; exact hlt
                  refine ⟨?_, ?_, ?_⟩
                  · rw [HV.out]; exact row_set hr5 hkl
                  · exact (Below.heap_setCell w5 ⟨g, k, none⟩ _ B (by show B ≠ g; omega)).trans HB5.out
                  · exact HO5.out.set hgw hBw k _
                clear hr5 HR5 HB5 HO5
                go_wp2_with fail
                go_roundw
                case rel => exact ⟨k + 1, by omega, by go_num, HF5.out.1, ⟨E2, HF5.out.2.1, HE2.out, hE2s⟩, HF5.out.2.2⟩
                case measure => simp [intOf]; omega
              · have HN : Hid (Calls Try.prog 60 #[.pointer (some ⟨B, 0, none⟩), .int .i64 (S : Int)] wr fun e w' => e = fault 2 ∧ Br w' B s E ∧ Only B wr w') := number_no B E S s wr HBr.out hs hEs (by omega)
                have HW : Hid (¬ Rg.There s S A n) := HNT.out (by
                  have h1 := HE.out
                  rw [if_pos HK0.out] at h1
                  omega)
                clear hin HNT HTH
                go_wp2_with fail
                refine HN.out.mono ?_
                rintro e w5 ⟨rfl, _, h2⟩
                have HO5 : Hid (Only B w w5) := HO.out.trans h2
                clear h2 HN HO
                unfold fault
                go_wp2_with fail
                exact ⟨rfl, .inr ⟨HW.out, ⟨2, rfl, by decide⟩, HO5.out⟩⟩
            · have hk0i : (0 : Int) < (k : Int) := by omega
              have hzk : zs[k]'(by rw [HZL.out.1]; exact hlt) = zs[0]'(by rw [HZL.out.1]; omega) := by rw [HZL.out.2 k, HZL.out.2 0]
              obtain ⟨z, hz⟩ : ∃ z, z = zs[0]'(by rw [HZL.out.1]; omega) := ⟨_, rfl⟩
              have HV : Hid (z = zs[k]'(by rw [HZL.out.1]; exact hlt)) := by show _ = _; rw [hz, hzk]
              have hc0 : wr.cell? ⟨g, 0, none⟩ = some (.int .i64 z) := by
                rw [(row_cell HRW.out (j := 0) (by rw [HZL.out.1]; omega)).1, if_pos (by omega), List.getD_eq_getElem?_getD, List.getElem?_eq_getElem (by rw [HZL.out.1]; omega), hz]; rfl
              obtain ⟨E2, hE2⟩ : ∃ E2, E2 = E := ⟨_, rfl⟩
              have HE2 : Hid (E2 = A + 1 + (if k + 1 = 0 then 0 else S)) := by show _ = _; rw [hE2, HE.out, if_neg hk0, if_neg (by omega)]
              have hE2s : E2 ≤ s.size := by omega
              obtain ⟨w5, hw5⟩ : ∃ w5, w5 = wr := ⟨_, rfl⟩
              have HB5 : Hid (Br w5 B s E2) := by rw [hw5, hE2]; exact HBr.out
              have HO5 : Hid (Only B w w5) := by rw [hw5]; exact HO.out
              have HR5 : Hid (w5.heap[g]? = some (.cells (cp zs k) 3 (0, 0))) := by rw [hw5]; exact HRW.out
              rw [← hw5] at hc0
              rw [← hw5]
              have hC0 : (0 : Int) < (C : Int) := by omega
              clear hw5 hE2 hz hzk HO HRW HBr
              have hr5 : w5.heap[g]? = some (.cells (cp zs k) 3 (0, 0)) := HR5.out
              obtain ⟨hc5, hf5⟩ := row_cell hr5 (j := k) (by rw [HZL.out.1]; exact hlt)
              have HF5 : Hid ((w5.setCell ⟨g, k, none⟩ (.int .i64 z)).heap[g]? = some (.cells (cp zs (k + 1)) 3 (0, 0)) ∧ Br (w5.setCell ⟨g, k, none⟩ (.int .i64 z)) B s E2 ∧ Only B w (w5.setCell ⟨g, k, none⟩ (.int .i64 z))) := by
                have hkl : k < zs.length := by rw [HZL.out.1]; exact hlt
                refine ⟨?_, ?_, ?_⟩
                · rw [HV.out]; exact row_set hr5 hkl
                · exact (Below.heap_setCell w5 ⟨g, k, none⟩ _ B (by show B ≠ g; omega)).trans HB5.out
                · exact HO5.out.set hgw hBw k _
              clear hr5 HR5 HB5 HO5
              go_wp2_with fail
              go_roundw
              case rel => exact ⟨k + 1, by omega, by go_num, HF5.out.1, ⟨E2, HF5.out.2.1, HE2.out, hE2s⟩, HF5.out.2.2⟩
              case measure => simp [intOf]; omega
          · obtain rfl : k = C := by omega
            have hth := HTH.out (by have h1 := HE.out; rw [if_neg (by omega)] at h1; omega)
            have HFN : Hid (PkOut w B s S A n (.returned (.slice (some ⟨g, 0, none⟩) k k)) wr) := by
              refine .inl ⟨hth.1, ⟨g, k, by rw [hth.2.2], ?_⟩, ?_, HO.out⟩
              · rw [← HZS.out]
                exact .inr ⟨g, rfl, hgw, hglt, fun i hi => by
                  obtain ⟨h1, h2⟩ := row_cell HRW.out hi
                  rw [if_pos (by rw [← HZL.out.1]; exact hi), List.getD_eq_getElem?_getD, List.getElem?_eq_getElem hi] at h1
                  exact ⟨h1, h2⟩⟩
              · rw [hth.2.1]
                have h1 := HE.out
                rw [if_neg (by omega)] at h1
                rw [← h1]; exact HBr.out
            clear HTH HNT HRW HBr HO hth
            go_wp2_with fail
            go_ret
            exact HFN.out
      · have HW : Hid (¬ Rg.There s S A n) := fun ht => hle (by have := ht.2.1; rw [← hH, hcnt] at this; exact this)
        have hbb : ¬ (C : Int) ≤ (n : Int) := by omega
        clear hzs hH hcnt hneed hoff hC hag
        go_wp2_with fail
        refine (insist_not _ 1 _ (by first | rfl | simp <;> omega)).mono ?_
        rintro e w2 ⟨rfl, rfl⟩
        unfold fault
        go_wp2_with fail
        exact ⟨rfl, .inr ⟨HW.out, ⟨1, rfl, by decide⟩, HO1.out.1⟩⟩
    · obtain ⟨C, hC⟩ : ∃ C : Nat, C = H + 1 := ⟨_, rfl⟩
      have hcnt : Rg.cnt H = C := by unfold Rg.cnt; rw [if_neg hag, hC]
      have hneed : Rg.need S H = C * S := by unfold Rg.need; rw [if_neg hag, hC]
      have hoff : ∀ i, Rg.off S H i = i * S := fun i => by unfold Rg.off; rw [if_neg hag]
      have e1 : (H : Int) + 1 = ((H + 1 : Nat) : Int) := by omega
      have e2 : (H : Int) + 1 = (C : Int) := by omega
      have hC1 : 1 ≤ C := by omega
      have hC2 : C ≤ 128 := by omega
      have dag : decide ((H : Int) ≥ 128) = false := by simp; omega
      have hgi : ¬ (128 : Int) ≤ (H : Int) := by omega
      clear e1
      by_cases hle : C ≤ n
      · have HZ : Hid (∀ w : World, (Instr.makeSlice 30 (.int .i64 (C : Int)) (.int .i64 (C : Int))).run Try.prog w = .ok (.slice (some ⟨w.heap.size, 0, none⟩) C C) (w.alloc (.cells (cp zs 0) 3))) := fun w => make_ints zs C (by rw [hzs, Rg.nums_len, ← hH, hcnt]) (by omega) w
        have hzl : zs.length = C := by rw [hzs, Rg.nums_len, ← hH, hcnt]
        have hza : ∀ i (h : i < zs.length), zs[i] = Rg.num s S (A + 1 + i * S) := fun i h => by
          have := Rg.nums_at s S A i (by rw [← hzs]; exact h)
          rw [← hH, hoff] at this
          subst hzs; exact this
        have HTH : Hid (A + 1 + C * S ≤ s.size → Rg.There s S A n ∧ Rg.need S (byteAt s A) = C * S ∧ Rg.cnt (byteAt s A) = C) := fun h => ⟨⟨hA, by rw [← hH, hcnt]; exact hle, by rw [← hH, hneed]; exact h⟩, by rw [← hH]; exact hneed, by rw [← hH]; exact hcnt⟩
        have HNT : Hid (¬ A + 1 + C * S ≤ s.size → ¬ Rg.There s S A n) := fun h ht => h (by have := ht.2.2; rw [← hH, hneed] at this; exact this)
        have HZS : Hid (zs = Rg.nums s S A) := hzs
        have HZL : Hid (zs.length = C ∧ ∀ i (h : i < zs.length), zs[i] = Rg.num s S (A + 1 + i * S)) := ⟨hzl, hza⟩
        have hmk := HZ.out w1
        clear hzs hH hcnt hneed hoff hC hza hzl HZ hag
        have hbb : (C : Int) ≤ (n : Int) := by omega
        go_wp2_with fail
        refine (insist_of _ 1 _ (by first | rfl | simp <;> omega)).mono ?_
        rintro e w2 ⟨rfl, rfl⟩
        clear hbb
        go_wp2_with fail
        have HR0 : Hid ((w2.alloc (.cells (cp zs 0) 3)).heap[w2.heap.size]? = some (.cells (cp zs 0) 3 (0, 0))) := heap_alloc_new _ _
        have HB0 : Hid (Br (w2.alloc (.cells (cp zs 0) 3)) B s (A + 1)) := HB1.out.kept ((Below.refl _ _).alloc (Nat.le_refl _) _)
        have HO0 : Hid (Only B w (w2.alloc (.cells (cp zs 0) 3)) ∧ w2.heap.size + 1 ≤ (w2.alloc (.cells (cp zs 0) 3)).heap.size) := ⟨HO1.out.1.alloc HB1.out.lt _, by simp⟩
        have hgB : B < w2.heap.size := HB1.out.lt
        have hgw : w.heap.size ≤ w2.heap.size := HO1.out.1.below.size
        have hBw : B < w.heap.size := by rw [← HO1.out.2]; exact hgB
        generalize w2.alloc (.cells (cp zs 0) 3) = W0 at *
        generalize w2.heap.size = g at *
        clear hmk HB1 HO1
        go_loopw [29] (fun i wr => ∃ k : Nat, k ≤ C ∧ i = .int .i64 (k : Int) ∧ wr.heap[g]? = some (.cells (cp zs k) 3 (0, 0)) ∧ (∃ E, Br wr B s E ∧ E = A + 1 + k * S ∧ E ≤ s.size) ∧ Only B w wr) (fun i _ => C - (intOf i).toNat)
        case atStart => exact ⟨0, Nat.zero_le _, rfl, HR0.out, ⟨A + 1, HB0.out, by rw [Nat.zero_mul], hA⟩, HO0.out.1⟩
        case round =>
          obtain ⟨k, hk, rfl, hrow, ⟨E, hBr, hE, hEs⟩, hO⟩ := hrel
          clear HR0 HB0 HO0
          have HRW : Hid (wr.heap[g]? = some (.cells (cp zs k) 3 (0, 0))) := hrow
          have HBr : Hid (Br wr B s E) := hBr
          have HO : Hid (Only B w wr) := hO
          have HE : Hid (E = A + 1 + k * S) := hE
          have hglt : g < wr.heap.size := lt_heap hrow
          clear hrow hBr hO hE
          by_cases hlt : k < C
          · have hki : (k : Int) < (C : Int) := by omega
            by_cases hin : E + S ≤ s.size
            · obtain ⟨E2, hE2⟩ : ∃ E2, E2 = E + S := ⟨_, rfl⟩
              have HV : Hid (Rg.num s S E = zs[k]'(by rw [HZL.out.1]; exact hlt)) := by show _ = _; rw [HZL.out.2 k (by rw [HZL.out.1]; exact hlt), HE.out]
              have HE2 : Hid (E2 = A + 1 + (k + 1) * S) := by show _ = _; rw [hE2, HE.out, Nat.add_mul, Nat.one_mul, Nat.add_assoc]
              have hE2s : E2 ≤ s.size := by omega
              have HN : Hid (Calls Try.prog 60 #[.pointer (some ⟨B, 0, none⟩), .int .i64 (S : Int)] wr fun e w' => e = .returned (.int .i64 (Rg.num s S E)) ∧ Br w' B s E2 ∧ Only B wr w') := by rw [hE2]; exact number_yes B E S s wr HBr.out hs hin hS1 hS
              clear hE2 hin HNT
              generalize Rg.num s S E = z at *
              go_wp2_with fail
              refine HN.out.mono ?_
              rintro e w5 ⟨rfl, h1, h2⟩
              have HB5 : Hid (Br w5 B s E2) := h1
              have HO5 : Hid (Only B w w5) := HO.out.trans h2
              have HR5 : Hid (w5.heap[g]? = some (.cells (cp zs k) 3 (0, 0))) := (h2.rest g hglt (by omega)).trans HRW.out
              clear h1 h2 HN HO HRW HBr
              have hr5 : w5.heap[g]? = some (.cells (cp zs k) 3 (0, 0)) := HR5.out
              obtain ⟨hc5, hf5⟩ := row_cell hr5 (j := k) (by rw [HZL.out.1]; exact hlt)
              have HF5 : Hid ((w5.setCell ⟨g, k, none⟩ (.int .i64 z)).heap[g]? = some (.cells (cp zs (k + 1)) 3 (0, 0)) ∧ Br (w5.setCell ⟨g, k, none⟩ (.int .i64 z)) B s E2 ∧ Only B w (w5.setCell ⟨g, k, none⟩ (.int .i64 z))) := by
                have hkl : k < zs.length := by rw [HZL.out.1]; exact hlt
                refine ⟨?_, ?_, ?_⟩
                · rw [HV.out]; exact row_set hr5 hkl
                · exact (Below.heap_setCell w5 ⟨g, k, none⟩ _ B (by show B ≠ g; omega)).trans HB5.out
                · exact HO5.out.set hgw hBw k _
              clear hr5 HR5 HB5 HO5
              go_wp2_with fail
              go_roundw
              case rel => exact ⟨k + 1, by omega, by go_num, HF5.out.1, ⟨E2, HF5.out.2.1, HE2.out, hE2s⟩, HF5.out.2.2⟩
              case measure => simp [intOf]; omega
            · have HN : Hid (Calls Try.prog 60 #[.pointer (some ⟨B, 0, none⟩), .int .i64 (S : Int)] wr fun e w' => e = fault 2 ∧ Br w' B s E ∧ Only B wr w') := number_no B E S s wr HBr.out hs hEs (by omega)
              have HW : Hid (¬ Rg.There s S A n) := HNT.out (by
                have h1 := HE.out
                have h2 : k * S + S ≤ C * S := by have := Nat.mul_le_mul_right S (show k + 1 ≤ C by omega); rwa [Nat.add_mul, Nat.one_mul] at this
                omega)
              clear hin HNT HTH
              go_wp2_with fail
              refine HN.out.mono ?_
              rintro e w5 ⟨rfl, _, h2⟩
              have HO5 : Hid (Only B w w5) := HO.out.trans h2
              clear h2 HN HO
              unfold fault
              go_wp2_with fail
              exact ⟨rfl, .inr ⟨HW.out, ⟨2, rfl, by decide⟩, HO5.out⟩⟩
          · obtain rfl : k = C := by omega
            have hth := HTH.out (by have h1 := HE.out; omega)
            have HFN : Hid (PkOut w B s S A n (.returned (.slice (some ⟨g, 0, none⟩) k k)) wr) := by
              refine .inl ⟨hth.1, ⟨g, k, by rw [hth.2.2], ?_⟩, ?_, HO.out⟩
              · rw [← HZS.out]
                exact .inr ⟨g, rfl, hgw, hglt, fun i hi => by
                  obtain ⟨h1, h2⟩ := row_cell HRW.out hi
                  rw [if_pos (by rw [← HZL.out.1]; exact hi), List.getD_eq_getElem?_getD, List.getElem?_eq_getElem hi] at h1
                  exact ⟨h1, h2⟩⟩
              · rw [hth.2.1]
                have h1 := HE.out
                skip
                rw [← h1]; exact HBr.out
            clear HTH HNT HRW HBr HO hth
            go_wp2_with fail
            go_ret
            exact HFN.out
      · have HW : Hid (¬ Rg.There s S A n) := fun ht => hle (by have := ht.2.1; rw [← hH, hcnt] at this; exact this)
        have hbb : ¬ (C : Int) ≤ (n : Int) := by omega
        clear hzs hH hcnt hneed hoff hC hag
        go_wp2_with fail
        refine (insist_not _ 1 _ (by first | rfl | simp <;> omega)).mono ?_
        rintro e w2 ⟨rfl, rfl⟩
        unfold fault
        go_wp2_with fail
        exact ⟨rfl, .inr ⟨HW.out, ⟨1, rfl, by decide⟩, HO1.out.1⟩⟩
  · have HX : Hid (Calls Try.prog 48 #[.pointer (some ⟨B, 0, none⟩)] w fun e w' => e = fault 2 ∧ Br w' B s A ∧ Only B w w' ∧ w'.heap.size = w.heap.size) := nextByte_no B A s w h (by omega) (by omega)
    have HW : Hid (¬ Rg.There s S A n) := fun ht => hA ht.1
    clear h hA
    go_enter Try.func42, Try.ntmps42
    go_wp2_with fail
    refine HX.out.mono ?_
    rintro e w1 ⟨rfl, _, h2, _⟩
    unfold fault
    go_wp2_with fail
    exact ⟨rfl, .inr ⟨HW.out, ⟨2, rfl, by decide⟩, h2⟩⟩
end Go.Proofs.Ytmcjdilmmabiaaa
