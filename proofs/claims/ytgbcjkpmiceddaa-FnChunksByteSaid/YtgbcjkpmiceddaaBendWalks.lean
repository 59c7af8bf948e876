/- A text of which a byte is another one. -/
import Derived.Test.YtgbcjkpmiceddaaDrawWalks
import Derived.Test.YtgbcjkpmiceddaaConvWalks
import Derived.Test.YtgbcjkpmiceddaaOnlyB
namespace Go.Proofs.Ytgbcjkpmiceddaa
open Go.RowKit

theorem size_of_empty {s : ByteArray} (h : s.toList.isEmpty = true) : s.size = 0 := by
  rw [ByteArray.toList_eq, List.isEmpty_iff] at h
  show s.data.size = 0
  rw [← Array.length_toList, h]; rfl

theorem bent_cells (s : ByteArray) (W : World) (L K v : Nat) (hK : K < s.size) (hv : v < 256) (hc : ∀ i (h : i < s.size), W.cell? ⟨L, i, none⟩ = some (.int .u8 ((s[i]).toNat : Int))) :
    ∃ l : List UInt8, l.length = s.size ∧ ∀ j (hj : j < l.length), (W.setCell ⟨L, K, none⟩ (.int .u8 (v : Int))).cell? ⟨L, j, none⟩ = some (.int .u8 ((l[j]).toNat : Int)) := by
  have hl : (s.data.toList.set K (UInt8.ofNat v)).length = s.size := by rw [List.length_set, Array.length_toList]; rfl
  refine ⟨s.data.toList.set K (UInt8.ofNat v), hl, fun j hj => ?_⟩
  by_cases e : K = j
  · subst e
    rw [World.cell?_setCell_same _ _ _ (hc K hK), List.getElem_set_self]
    simp
    omega
  · rw [World.cell?_setCell_other _ _ _ _ (fun h => e (by have := congrArg Addr.off h; simpa using this)), hc j (by rw [← hl]; exact hj), List.getElem_set_ne e]
    rfl

set_option maxHeartbeats 2000000 in
set_option maxRecDepth 20000 in
theorem l14Bend_any (B p : Nat) (s : ByteArray) (w : World) (hr : RdAt w B p) (hp : p ≤ 100000) (hs : s.size ≤ 100000) :
    Calls Try.prog 16 #[.pointer (some ⟨B, 0, none⟩), .string s] w fun e w' => (∃ t : ByteArray, e = .returned (.string t) ∧ t.size = s.size) ∧ (∃ q, q ≤ p + 2 ∧ RdAt w' B q) ∧ Only B w w' := by
  have hlt0 := hr.lt
  have HR0 : Hid (RdAt w B p) := hr
  clear hr
  by_cases hz : s.size = 0
  · have he : s = ByteArray.empty := by
      have : s.data.size = 0 := hz
      cases s with
      | mk d => simp at this; subst this; rfl
    subst he
    go_enter Try.func16, Try.ntmps16
    go_wp2_with fail
    go_ret
    exact ⟨⟨_, rfl, rfl⟩, ⟨p, by omega, HR0.out⟩, Only.refl _ _⟩
  · obtain ⟨cap, w2, hcv, hcl, belc, hsz2⟩ := conv_bytes s w
    have HCV : Hid (∀ i (h : i < s.size), w2.cell? ⟨w.heap.size, i, none⟩ = some (.int .u8 ((s[i]).toNat : Int)) ∧ w2.frozen? ⟨w.heap.size, i, none⟩ = false) := hcl
    have HR2 : Hid (RdAt w2 B p) := HR0.out.kept (belc.mono hlt0)
    have HO2 : Hid (Only B w w2) := Only.of_below belc hlt0
    have hse : s.toList.isEmpty = false := by
      rcases h : s.toList.isEmpty with _ | _
      · rfl
      · exact absurd (size_of_empty h) hz
    have hG : w.heap.size < w2.heap.size := by omega
    have hGB : w.heap.size ≠ B := by omega
    have hs1 : (1 : Int) ≤ (s.size : Int) := by omega
    clear hcl belc hsz2 HR0
    go_enter Try.func16, Try.ntmps16
    go_wp2_with fail
    clear hcv
    refine (pick_named B p _ _ HR2.out (by omega) (by omega) (by omega)).mono ?_
    rintro e w3 ⟨K, rfl, hK, hR3, hO3, -⟩
    have hKs : K < s.size := by omega
    have HC3 : Hid (∀ i (h : i < s.size), w3.cell? ⟨w.heap.size, i, none⟩ = some (.int .u8 ((s[i]).toNat : Int)) ∧ w3.frozen? ⟨w.heap.size, i, none⟩ = false) := fun i h => ⟨(hO3.cell w.heap.size i hG hGB).trans (HCV.out i h).1, (World.frozen?_of_block (w := w2) (a := ⟨w.heap.size, i, none⟩) (hO3.rest w.heap.size hG hGB)).trans (HCV.out i h).2⟩
    have HR3 : Hid (RdAt w3 B (p + 1)) := hR3
    have HO3 : Hid (Only B w w3) := HO2.out.trans hO3
    have hG3 : w.heap.size < w3.heap.size := Nat.lt_of_lt_of_le hG hO3.below.size
    clear hR3 hO3 HR2 HO2 HCV
    obtain ⟨x, hx⟩ : ∃ x : Nat, x = (s[K]'hKs).toNat := ⟨_, rfl⟩
    have hxb : x < 256 := by rw [hx]; exact UInt8.toNat_lt _
    obtain ⟨ck, fk⟩ := HC3.out K hKs
    rw [← hx] at ck
    have HV : Hid (∀ y : Nat, y < 255 → bits .xor .u8 (x : Int) (IntKind.u8.wrap (IntKind.i64.wrap (1 + (y : Int)))) = ((x ^^^ (1 + y) : Nat) : Int) ∧ x ^^^ (1 + y) < 256) := fun y hy => by
      have e1 : IntKind.i64.wrap (1 + (y : Int)) = ((1 + y : Nat) : Int) := by
        rw [← wrap_i64_nat (1 + y) (by omega)]; congr 1
      refine ⟨?_, Nat.xor_lt_two_pow (n := 8) (by omega) (by omega)⟩
      rw [e1, IntKind.wrap_u8', show ((1 + y : Nat) : Int) % 256 = ((1 + y : Nat) : Int) by omega, u8_xor_nat _ _ hxb (by omega)]
    have HX : Hid (x = (s[K]'hKs).toNat) := hx
    clear hx
    have HRd : Hid (RdAt w3.drew B (p + 1)) := HR3.out.drew
    have hKi : (K : Int) < (s.size : Int) := by omega
    go_wp2_with fail
    go_region_with (go_at_call 15; refine (pick_named B (p + 1) _ _ HRd.out (by omega) (by omega) (by omega)).mono ?_; rintro e w4 ⟨y, rfl, hy, hR4, hO4, -⟩; have HR4 : Hid (RdAt w4 B (p + 2)) := hR4; have HO4 : Hid (Only B w3.drew w4) := hO4; have ck4 : w4.cell? ⟨w.heap.size, K, none⟩ = some (.int .u8 (x : Int)) := (hO4.cell w.heap.size K hG3 hGB).trans ck; have fk4 : w4.frozen? ⟨w.heap.size, K, none⟩ = false := (World.frozen?_of_block (w := w3.drew) (a := ⟨w.heap.size, K, none⟩) (hO4.rest w.heap.size hG3 hGB)).trans fk; clear hR4 hO4)
    all_goals
      have hyn : y < 255 := by omega
      obtain ⟨hv1, hv2⟩ := HV.out y hyn
      rw [hv1]
      have hall : ∀ i (h : i < s.size), w4.cell? ⟨w.heap.size, i, none⟩ = some (.int .u8 ((s[i]).toNat : Int)) := fun i h => (HO4.out.cell w.heap.size i hG3 hGB).trans (HC3.out i h).1
      obtain ⟨l, hl, hlc⟩ := bent_cells s w4 w.heap.size K _ hKs hv2 hall
      have htb := text_back _ w.heap.size cap s.size l hl hlc
      have HF : Hid (RdAt (w4.setCell ⟨w.heap.size, K, none⟩ (.int .u8 ((x ^^^ (1 + y) : Nat) : Int))) B (p + 2) ∧ Only B w (w4.setCell ⟨w.heap.size, K, none⟩ (.int .u8 ((x ^^^ (1 + y) : Nat) : Int)))) :=
        ⟨HR4.out.kept ((Below.refl _ _).setCell (by show B + 1 ≤ w.heap.size; omega) _), ((HO3.out.drewN 1).trans HO4.out).set (Nat.le_refl _) hlt0 K _⟩
      have HL : Hid ((ByteArray.mk l.toArray).size = s.size) := by show l.toArray.size = s.size; rw [List.size_toArray]; exact hl
      clear hall hlc hl HR4 HO4 ck4 fk4 ck fk HRd HR3 HO3 HC3 HX HV hv1 hv2
      go_wp2_with fail
      go_ret
      exact ⟨⟨_, rfl, HL.out⟩, ⟨p + 2, by omega, HF.out.1⟩, HF.out.2⟩
end Go.Proofs.Ytgbcjkpmiceddaa
