/- Lists of ints that stay, and one that is copied into a row of its own. -/
import Derived.Test.YtjmeaeimpkijmaaGreatDoorMarkWalks
import Derived.Below
namespace Go.Proofs.YtjmeaeimpkijmaaGreatDoor
open Go.RowKit

/-- a list that lay below stays -/
theorem Ints.low {w0 w w' : World} {lo : Nat} {a : Option Addr} {l : List Int} (h0 : Ints w0 a l) (h : Ints w a l) (hb : Below lo w w') (hlo : w0.heap.size ≤ lo) : Ints w' a l := by
  rcases h0 with e | ⟨b, off, rfl, hb0, _⟩
  · exact .inl e
  · rcases h with e | ⟨c, off', e, hc, hcell⟩
    · exact .inl e
    · cases e
      exact .inr ⟨b, off, rfl, Nat.lt_of_lt_of_le hc hb.size, fun i hi => (hb.cell (p := ⟨b, off + i, none⟩) (show b < lo by omega)).trans (hcell i hi)⟩

/-- a list that lay elsewhere stays -/
theorem Ints.aside {w0 w w' : World} {L : Nat} {a : Option Addr} {l : List Int} (h0 : Ints w0 a l) (h : Ints w a l) (hT : Turned L w w') (hlo : w0.heap.size ≤ L) : Ints w' a l := by
  rcases h0 with e | ⟨b, off, rfl, hb0, _⟩
  · exact .inl e
  · exact hT.ints h (fun x e => by cases e; show ¬ b = L; omega)

set_option maxHeartbeats 400000 in
theorem toInts_exact (a : Option Addr) (n cap : Nat) (zs : List Int) (w : World) (h : Ints w a zs) (hn : zs.length = n) (hl : n ≤ 2000000) :
    Calls Tryz.prog 25 #[.slice a n cap] w fun e w' => e = .returned (.slice (some ⟨w.heap.size, 0, none⟩) n n) ∧ w' = w.alloc (.cells (cp zs n) 3) := by
  have hmk := fun w => make_ints zs n hn hl w
  have HI : Hid (Ints w a zs) := h
  clear h
  have hzg : n ≤ zs.length := by omega
  clear hn
  go_enter Tryz.func25, Tryz.ntmps25
  go_wp2_with fail
  go_loopw [4] (fun i wr => ∃ k : Nat, k ≤ n ∧ i = .int .i64 k ∧ wr = w.alloc (.cells (cp zs k) 3)) (fun i _ => n - (intOf i).toNat)
  case atStart => exact ⟨0, Nat.zero_le _, rfl, rfl⟩
  case round =>
    obtain ⟨k, hk, rfl, rfl⟩ := hrel
    clear hmk
    by_cases hlt : k < n
    · have hkz : k < zs.length := by omega
      have HT : Hid ((cp zs k).setIfInBounds k (.int .i64 zs[k]) = cp zs (k + 1)) := cp_set zs k hkz
      have hg : (cp zs k)[k]? = some (.int .i64 0) := by rw [cp_get _ _ _ hkz]; simp
      rcases HI.out with h | ⟨b, off, rfl, hbB, hc⟩
      · rw [h] at hkz; simp at hkz
      · have hck := (World.cell?_alloc_past (.cells (cp zs k) 3) b (off + k) hbB).trans (hc k hkz)
        have hki : (k : Int) < (n : Int) := by omega
        clear hc
        generalize cp zs k = A at *
        generalize zs[k] = x at *
        go_wp2_with fail
        go_roundw
        case rel => exact ⟨k + 1, by omega, by go_num, by rw [HT.out]⟩
        case measure => simp [intOf]; omega
    · have hk' : k = n := by omega
      subst hk'
      go_wp2_with fail
      go_ret
      exact ⟨rfl, rfl⟩

theorem own_cp (w : World) (zs : List Int) (n : Nat) (hn : zs.length = n) : Own (w.alloc (.cells (cp zs n) 3)) w.heap.size n (fun i => zs.getD i 0) := by
  refine ⟨by simp, fun i hi => ⟨?_, ?_⟩⟩
  · rw [World.cell?_alloc_at _ _ _ _ rfl, cp_get _ _ _ (by omega), if_pos hi]
  · rw [World.frozen?_alloc_at _ _ _ _ rfl]

theorem Own.kept {w w' : World} {b n : Nat} {f : Nat → Int} (h : Own w b n f) (hb : Below w.heap.size w w') : Own w' b n f :=
  ⟨Nat.lt_of_lt_of_le h.1 hb.size, fun i hi => ⟨(hb.cell (p := ⟨b, i, none⟩) h.1).trans (h.2 i hi).1, (hb.frozen (p := ⟨b, i, none⟩) h.1).trans (h.2 i hi).2⟩⟩

theorem drewN_below (w : World) (m : Nat) : Below w.heap.size w (w.drewN m) := below_drewN (Below.refl _ _) _
end Go.Proofs.YtjmeaeimpkijmaaGreatDoor
