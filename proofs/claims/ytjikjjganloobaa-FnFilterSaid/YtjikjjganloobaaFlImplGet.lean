/- FilterGet of the program: a row is turned back. -/
import Derived.Test.YtjikjjganloobaaFlImplPut
namespace Go.Proofs.Ytjikjjganloobaa
open Go.RowKit

set_option maxHeartbeats 2000000 in
set_option maxRecDepth 20000 in
theorem impl_filterGet_yes (K st : Nat) (s t : ByteArray) (w : World) (h : FlOk (K : Int) s.size t.size (st : Int)) :
    Calls Try.prog 24 #[.int .i64 K, .string s, .string t, .int .i64 st] w fun e w' => e = .returned (.string ⟨((Fl.get K st (byteAt s) (byteAt t) s.size).map UInt8.ofNat).toArray⟩) ∧ Below w.heap.size w w' := by
  have HAT : Hid (∀ w : World, Calls Try.prog 43 #[.int .i64 K, .string s, .string t, .int .i64 st] w fun e w' => e = .returned (.tuple #[.agg #[filV K, .string t, .int .i64 st], .bool true]) ∧ Below w.heap.size w w') := fun w => filterAt_yes K st s t w h
  obtain ⟨hk, hst, hn, hm⟩ := h
  obtain ⟨T, hT⟩ := filV_iface (K := K) (by omega)
  obtain ⟨n, hnn⟩ : ∃ n, n = s.size := ⟨_, rfl⟩
  have HNN : Hid (n = s.size) := hnn
  have hni : (s.size : Int) = (n : Int) := by omega
  have hn1 : n ≤ 1000 := by omega
  obtain ⟨r, hr⟩ : ∃ r, r = Fl.of (Fl.get K st (byteAt s) (byteAt t) n) := ⟨_, rfl⟩
  have hrb : ∀ i, r i < 256 := fun i => by rw [hr]; exact Fl.of_lt (Fl.get_byte K st (byteAt s) (byteAt t) n) i
  have HR : Hid (∀ k, k < n → r k = (byteAt s k + Fl.gs K st (upto k r) (byteAt t) k) % 256) := fun k hkn => by
    rw [hr, Fl.get_at K st (byteAt s) (byteAt t) n k (by omega) hkn]
    congr 2
    exact Fl.gs_congr (by omega) (fun i hi => (if_pos hi).symm)
  have HRA : Hid ((List.range n).map r = Fl.get K st (byteAt s) (byteAt t) n) := by
    show _ = _
    rw [hr]
    apply List.ext_getElem
    · rw [Fl.get_len]; simp
    · intro i h1 h2
      simp only [List.getElem_map, List.getElem_range]
      unfold Fl.of
      rw [List.getD_eq_getElem?_getD, List.getElem?_eq_getElem h2]; rfl
  have HUB : Hid (∀ k i, upto k r i < 256) := fun k i => by
    unfold upto; split
    · exact hrb i
    · omega
  have HG : Hid (∀ (b cap k : Nat) (w : World), OwnU w b n (upto k r) → k < n → Calls Try.prog 44 #[.agg #[.iface T (.agg #[]), .string t, .int .i64 st], .slice (some ⟨b, 0, none⟩) n cap, .int .i64 k] w fun e w' => e = .returned (.int .u8 (Fl.gs K st (upto k r) (byteAt t) k : Nat)) ∧ Below w.heap.size w w') := fun b cap k w hO hkn => by
    rw [← hT]
    exact guessAt_any K st b n cap k t (upto k r) w (by omega) hO (fun j hj => if_neg (by omega)) (HUB.out k) (by omega) (by omega) (by omega) (by omega)
  clear hr
  rw [← hnn]
  rw [hT] at HAT
  clear hk hst hm hT
  go_enter Try.func24, Try.ntmps24
  go_wp2_with fail
  refine (HAT.out _).mono ?_
  rintro e w1 ⟨rfl, b1⟩
  clear HAT
  have F1 := FBox.new w1 (.iface T (.agg #[])) t st 62
  have B1 : Below w.heap.size w (w1.alloc (.cells #[.iface T (.agg #[]), .string t, .int .i64 st] 62)) := b1.alloc b1.size _
  have hsz1 : (w1.alloc (.cells #[.iface T (.agg #[]), .string t, .int .i64 st] 62)).heap.size = w1.heap.size + 1 := by simp
  obtain ⟨w3, hmk, hO3, b3, hs3⟩ := make_bytes n (by omega) (w1.alloc (.cells #[.iface T (.agg #[]), .string t, .int .i64 st] 62))
  rw [hsz1] at hmk hO3 b3 hs3
  have F3 : FBox w3 w1.heap.size (.iface T (.agg #[])) t st := F1.kept b3 (by omega)
  have hbw : w.heap.size ≤ w1.heap.size := b1.size
  have B3 : Below w.heap.size w w3 := B1.trans (b3.mono (by omega))
  have HS : Hid (FBox w3 w1.heap.size (.iface T (.agg #[])) t st ∧ OwnU w3 (w1.heap.size + 1) n (fun _ => 0) ∧ Below w.heap.size w w3) := ⟨F3, hO3, B3⟩
  clear F1 B1 hO3 b3 hs3 F3 B3 b1 hsz1 hnn
  go_wp2_with fail
  clear hmk
  go_loopw [28] (fun i wr => ∃ k : Nat, k ≤ n ∧ i = .int .i64 k ∧ FBox wr w1.heap.size (.iface T (.agg #[])) t st ∧ OwnU wr (w1.heap.size + 1) n (upto k r) ∧ Below w.heap.size w wr) (fun i _ => n - (intOf i).toNat)
  case atStart => exact ⟨0, Nat.zero_le _, rfl, HS.out.1, by rw [upto_zero]; exact HS.out.2.1, HS.out.2.2⟩
  case round =>
    obtain ⟨k, hk, rfl, hF, hL, hbel⟩ := hrel
    clear HS
    by_cases hlt : k < n
    · obtain ⟨g, hg⟩ : ∃ g, g = Fl.gs K st (upto k r) (byteAt t) k := ⟨_, rfl⟩
      have hgb : g < 256 := by rw [hg]; exact Fl.gs_lt (HUB.out k) (byteAt_lt t) k
      obtain ⟨x, hx⟩ : ∃ x, x = byteAt s k := ⟨_, rfl⟩
      have hxb : x < 256 := by rw [hx]; exact byteAt_lt _ _
      have hks : k < s.size := by have := HNN.out; omega
      have hbe : (s[k]).toNat = x := by rw [hx]; exact byteAt_eq s k hks
      obtain ⟨y, hy⟩ : ∃ y, y = (x + g) % 256 := ⟨_, rfl⟩
      have HY : Hid (r k = y) := by show _ = _; rw [HR.out k hlt, hy, hx, hg]
      have HGK : Hid (∀ (w : World), OwnU w (w1.heap.size + 1) n (upto k r) → Calls Try.prog 44 #[.agg #[.iface T (.agg #[]), .string t, .int .i64 st], .slice (some ⟨w1.heap.size + 1, 0, none⟩) n n, .int .i64 k] w fun e w' => e = .returned (.int .u8 (g : Int)) ∧ Below w.heap.size w w') := fun w hO => by rw [hg]; exact HG.out _ _ _ w hO hlt
      have hyw : IntKind.u8.wrap ((x : Int) + (g : Int)) = (y : Int) := by rw [hy]; simp [IntKind.wrap, IntKind.bits, IntKind.signed]
      obtain ⟨hcL, hfL⟩ := hL.2 k hlt
      obtain ⟨hFB, f0, f1, f2⟩ := hF
      have hki : (k : Int) < (n : Int) := by omega
      have HK0 : Hid (FBox wr w1.heap.size (.iface T (.agg #[])) t st ∧ OwnU wr (w1.heap.size + 1) n (upto k r) ∧ Below w.heap.size w wr) := ⟨⟨hFB, f0, f1, f2⟩, hL, hbel⟩
      have HWD : Hid (OwnU wr.drew (w1.heap.size + 1) n (upto k r)) := hL
      have hL2 : w1.heap.size + 1 < wr.heap.size := hL.1
      generalize upto k r k = q at hcL
      clear hx hy hg hL hbel
      go_wp2_with fail
      go_region_held3 (fun w' => w'.cell? ⟨w1.heap.size, 0, none⟩ = some (.iface T (.agg #[])) ∧ w'.cell? ⟨w1.heap.size, 1, none⟩ = some (.string t) ∧ w'.cell? ⟨w1.heap.size, 2, none⟩ = some (.int .i64 st)) (go_keep) ((go_at_call 44; refine (HGK.out _ HWD.out).mono ?_; rintro e w4 ⟨rfl, b4⟩; have k0 := ((box_drew b4).cell (p := ⟨w1.heap.size, 0, none⟩) (by simp; omega)).trans f0; have k1 := ((box_drew b4).cell (p := ⟨w1.heap.size, 1, none⟩) (by simp; omega)).trans f1; have k2 := ((box_drew b4).cell (p := ⟨w1.heap.size, 2, none⟩) (by simp; omega)).trans f2; have k4 := ((box_drew b4).cell (p := ⟨w1.heap.size + 1, k, none⟩) (by simp; omega)).trans hcL; have k5 := ((box_drew b4).frozen (p := ⟨w1.heap.size + 1, k, none⟩) (by simp; omega)).trans hfL))
      all_goals
        have b5 : Below wr.heap.size wr w4 := box_drew b4
        have hF5 := (HK0.out.1.kept b5 (by omega)).beside (c := w1.heap.size + 1) (k := k) (u := .int .u8 (y : Int)) (by omega)
        have hL5 : OwnU (w4.setCell ⟨w1.heap.size + 1, k, none⟩ (.int .u8 (y : Int))) (w1.heap.size + 1) n (upto (k + 1) r) := (HK0.out.2.1.kept b5 (by omega)).put hlt (by rw [upto_at, HY.out]) (fun i _ hne => upto_other k _ i hne)
        have hb5 : Below w.heap.size w (w4.setCell ⟨w1.heap.size + 1, k, none⟩ (.int .u8 (y : Int))) := (HK0.out.2.2.trans (b5.mono HK0.out.2.2.size)).setCell (by show w.heap.size ≤ w1.heap.size + 1; omega) _
        have HN : Hid (_ ∧ _ ∧ _) := ⟨hF5, hL5, hb5⟩
        clear hF5 hL5 hb5 b5 b4 HK0 HY HGK HWD
        go_wp2_with fail
        go_roundw
        case rel => exact ⟨k + 1, by omega, by go_num, HN.out.1, HN.out.2.1, HN.out.2.2⟩
        case measure => simp [intOf]; omega
    · have hk' : k = n := by omega
      subst hk'
      obtain ⟨u, hu⟩ : ∃ u : ByteArray, u = ⟨((Fl.get K st (byteAt s) (byteAt t) k).map UInt8.ofNat).toArray⟩ := ⟨_, rfl⟩
      have htx : Sem.run Try.prog (convert 28 9 (.slice (some ⟨w1.heap.size + 1, 0, none⟩) k k)) wr = .ok (.string u) wr := by
        have := hL.text (cap := k)
        rw [upto_all, HRA.out] at this
        rw [hu]; exact this
      have HU : Hid (u = ⟨((Fl.get K st (byteAt s) (byteAt t) k).map UInt8.ofNat).toArray⟩) := hu
      clear hu
      have hlt' : ¬ (k : Int) < (k : Int) := by omega
      clear hF hL
      go_wp2_with fail
      go_ret
      exact ⟨by rw [← HU.out]; rfl, hbel⟩
end Go.Proofs.Ytjikjjganloobaa
