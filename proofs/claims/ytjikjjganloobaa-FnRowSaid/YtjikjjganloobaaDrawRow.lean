/- The draw of the laws on rows. -/
import Derived.Test.YtjikjjganloobaaDrawWalks
import Derived.Test.YtjikjjganloobaaIntOwn
import Derived.Test.YtjikjjganloobaaPowWalks
namespace Go.Proofs.Ytjikjjganloobaa
open Go.RowKit

theorem Only.grown {B : Nat} {w a b : World} (h : Only B w a) (hB : B < w.heap.size) (g : Below w.heap.size a b) : Only B w b :=
  ⟨h.below.trans (g.mono (Nat.le_of_lt hB)), fun k hk hkB => (g.block k hk).trans (h.rest k hk hkB)⟩
theorem Only.drewN {B : Nat} {w a : World} (h : Only B w a) (m : Nat) : Only B w (a.drewN m) := ⟨below_drewN h.below m, h.rest⟩

theorem OwnI.same {w w' : World} {B n : Nat} {v : Value} {l : List Int} (h : OwnI w B v n l) (hk : ∀ k, k < w.heap.size → B ≤ k → w'.heap[k]? = w.heap[k]?) : OwnI w' B v n l := by
  refine ⟨h.1, ?_⟩
  rcases h.2 with h2 | ⟨g, cap, cur, hv, hg, hh, r⟩
  · exact .inl h2
  · have hlt : g < w.heap.size := by
      rcases Nat.lt_or_ge g w.heap.size with hlt | hge
      · exact hlt
      · rw [Array.getElem?_eq_none hge] at hh; cases hh
    exact .inr ⟨g, cap, cur, hv, hg, by rw [hk g hlt hg]; exact hh, r⟩
theorem OwnI.only {w w' : World} {B C n : Nat} {v : Value} {l : List Int} (h : OwnI w B v n l) (ho : Only C w w') (hC : C < B) : OwnI w' B v n l := h.same (fun k hk hB => ho.rest k hk (by omega))
theorem OwnI.lower {w : World} {B C n : Nat} {v : Value} {l : List Int} (h : OwnI w B v n l) (hC : C ≤ B) : OwnI w C v n l := by
  refine ⟨h.1, ?_⟩
  rcases h.2 with h2 | ⟨g, cap, cur, hv, hg, r⟩
  · exact .inl h2
  · exact .inr ⟨g, cap, cur, hv, by omega, r⟩

set_option maxHeartbeats 2000000 in
set_option maxRecDepth 20000 in
theorem l14Row_any (B p D : Nat) (w : World) (hr : RdAt w B p) (hp : p ≤ 1000) (hD : D ≤ 32) :
    Calls Try.prog 36 #[.pointer (some ⟨B, 0, none⟩), .int .i64 D] w fun e w' => (∃ (v : Value) (n : Nat) (l : List Int), e = .returned v ∧ OwnI w' w.heap.size v n l ∧ n ≤ 11 ∧ ∀ z ∈ l, 0 ≤ z ∧ z ≤ 4294967296) ∧ (∃ q, q ≤ p + 40 ∧ RdAt w' B q) ∧ Only B w w' := by
  obtain ⟨i0, hi0, hz0, hz1, hz2⟩ := info_parts info_int
  have hlt0 := hr.lt
  have hE := ownI_none w
  have HE : Hid (OwnI _ _ _ 0 []) := hE
  have HR0 : Hid (RdAt (w.alloc (.cells #[] 3)) B p) := hr.alloc _
  have HO0 : Hid (Only B w (w.alloc (.cells #[] 3))) := (Only.refl B w).alloc hlt0 _
  obtain ⟨Q, hQ⟩ : ∃ Q, Q = 2 ^ D := ⟨_, rfl⟩
  have hQ1 : 0 < Q := by rw [hQ]; exact Nat.pow_pos (by omega)
  have hQ2 : Q ≤ 4294967296 := by rw [hQ]; exact Nat.le_trans (Nat.pow_le_pow_right (by omega) hD) (by decide)
  have HP : Hid (∀ w, Calls Try.prog 37 #[.int .i64 (D : Int)] w fun e w' => e = .returned (.int .i64 (Q : Int)) ∧ w' = w) := by
    intro w; rw [hQ]; exact l1Pow_any D w (by omega)
  clear hE hr hQ
  go_enter Try.func36, Try.ntmps36
  go_wp2_with fail
  refine (pick_named B p _ _ HR0.out (by omega) (by omega) (by omega)).mono ?_
  rintro e w2 ⟨k0, rfl, hk0, hR2, hO2, hs2⟩
  have HD2 : Hid (OwnI w2 w.heap.size _ 0 []) := HE.out.only hO2 hlt0
  have HR2 : Hid (RdAt w2 B (p + 1)) := hR2
  have HO2 : Hid (Only B w w2) := HO0.out.trans hO2
  clear HE HR0 HO0 hO2 hs2 hR2
  have hk11 : k0 ≤ 11 := by omega
  clear hk0
  go_wp2_with fail
  go_loopw [5, 6] (fun v i wr => ∃ (k q n : Nat) (l : List Int), k ≤ 11 ∧ i = .int .i64 k ∧ n + k ≤ 11 ∧ q + 2 * k ≤ p + 40 ∧ RdAt wr B q ∧ OwnI wr w.heap.size v n l ∧ (∀ z ∈ l, 0 ≤ z ∧ z ≤ 4294967296) ∧ Only B w wr) (fun _ i _ => (intOf i).toNat)
  case atStart => exact ⟨k0, p + 1, 0, [], hk11, rfl, by omega, by omega, HR2.out, HD2.out, fun z hz => by simp at hz, HO2.out⟩
  case round =>
    obtain ⟨k, q, n, l, hk, rfl, hnk, hqk, hR, hD', hz, hO⟩ := hrel
    clear HR2 HD2 HO2
    have HZ : Hid (∀ z ∈ l, 0 ≤ z ∧ z ≤ 4294967296) := hz
    clear hz
    by_cases hk0 : 0 < k
    · have hki : (0 : Int) < (k : Int) := by omega
      have HR : Hid (RdAt wr B q) := hR
      have HD : Hid (OwnI wr w.heap.size _ n l) := hD'
      have HO : Hid (Only B w wr) := hO
      clear hR hD' hO
      go_wp2_with fail
      refine (pick_named B q _ _ HR.out (by omega) (by omega) (by omega)).mono ?_
      rintro e w3 ⟨x, rfl, hx, hR3, hO3, hs3⟩
      have HD3 : Hid (OwnI w3 w.heap.size _ n l) := HD.out.only hO3 hlt0
      have HR3 : Hid (RdAt w3 B (q + 1)) := hR3
      have HO3 : Hid (Only B w w3) := HO.out.trans hO3
      clear HR HD HO hR3 hO3 hs3
      go_wp2_with fail
      refine (pick_named B (q + 1) _ _ HR3.out (by omega) (by omega) (by omega)).mono ?_
      rintro e w4 ⟨y, rfl, hy, hR4, hO4, hs4⟩
      have HD4 : Hid (OwnI w4 w.heap.size _ n l) := HD3.out.only hO4 hlt0
      have HR4 : Hid (RdAt w4 B (q + 2)) := hR4
      have HO4 : Hid (Only B w w4) := HO3.out.trans hO4
      clear HR3 HD3 HO3 hR4 hO4 hs4
      go_wp2_with fail
      refine (HP.out _).mono ?_
      rintro e w5 ⟨rfl, hw5⟩
      subst hw5
      obtain ⟨M, hM⟩ : ∃ M : Nat, M = (x * 16777216 + y) % Q := ⟨_, rfl⟩
      have hMQ : M < Q := by rw [hM]; exact Nat.mod_lt _ hQ1
      have hMi : ((x : Int) * 16777216 + (y : Int)) % (Q : Int) = (M : Int) := by rw [hM]; simp
      have hMt : ((x : Int) * 16777216 + (y : Int)).tmod (Q : Int) = (M : Int) := by rw [Int.tmod_eq_emod_of_nonneg (by omega)]; exact hMi
      have hne : ((Q : Int) == 0) = false := by rw [beq_eq_false_iff_ne]; omega
      have hne' : ¬ Q = 0 := by omega
      clear hM
      have hown := HD4.out
      have hbs : w.heap.size ≤ w5.heap.size := HO4.out.below.size
      have hm63 : n + 1 ≤ maxLen := by unfold maxLen; omega
      have hlen : (n + 1) * 8 ≤ 140737488355328 := by omega
      have hone : ∀ u ∈ [Value.int .i64 (M : Int)], u.oneCell' = true := by intro u hu; simp at hu; subst hu; rfl
      clear hx hy
      go_wp2_with (at_builtin; refine wpList_append_lies _ (by rfl) _ _ _ (by rfl) w.heap.size 3 i0 (.int .i64 0) 1 8 Try.underlying22 hi0 hz0 hz1 hz2 rfl (by decide) _ n (intsV l) (by rfl) (World.ownsRow.alloc (show World.ownsRow _ _ _ _ _ _ _ from hown) _) ⟨w5.heap.size, 0, none⟩ 1 1 [.int .i64 (M : Int)] (by rfl) rfl (World.news_of_block (heap_alloc_new _ _)) hone (by decide) hm63 hlen (by simp; omega) _ rfl ?_)
      intro g cap2 w6 hown6 hgrow hat hlt6
      have hlt1 := World.ownsRow.lt hown
      have hb6 : Below w.heap.size w5 w6 := ((Below.refl w.heap.size w5).alloc hbs _).grown hgrow (by simp; omega) (fun k hk => (hlt1 k hk).1)
      have H6 : Hid (OwnI w6 w.heap.size (.slice (some ⟨g, 0, none⟩) (n + 1) cap2) (n + 1) (l ++ [(M : Int)])) := OwnI.more hown6
      have HR6 : Hid (RdAt w6 B (q + 2)) := HR4.out.kept (hb6.mono hlt0)
      have HO6 : Hid (Only B w w6) := HO4.out.grown hlt0 hb6
      have HZ6 : Hid (∀ z ∈ l ++ [(M : Int)], 0 ≤ z ∧ z ≤ 4294967296) := by
        intro z hz
        rcases List.mem_append.1 hz with h | h
        · exact HZ.out z h
        · simp at h; subst h; omega
      clear hown6 hgrow hat hlt1 hown hone hm63 hlen hlt6 hb6 HD4 HR4 HO4 hbs hMi hMt hne hne'
      go_wp2_with fail
      go_roundw
      case rel => exact ⟨k - 1, q + 2, n + 1, l ++ [(M : Int)], by omega, by go_num, by omega, by omega, HR6.out, H6.out, HZ6.out, HO6.out⟩
      case measure => simp [intOf]; omega
    · have hk' : k = 0 := by omega
      subst hk'
      have HF : Hid (RdAt wr B q ∧ OwnI wr w.heap.size _ n l ∧ Only B w wr) := ⟨hR, hD', hO⟩
      clear hR hD' hO
      go_wp2_with fail
      go_ret
      exact ⟨⟨_, n, l, rfl, HF.out.2.1, by omega, HZ.out⟩, ⟨q, by omega, HF.out.1⟩, HF.out.2.2⟩
end Go.Proofs.Ytjikjjganloobaa
