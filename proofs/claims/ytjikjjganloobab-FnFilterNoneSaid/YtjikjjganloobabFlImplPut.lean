/- FilterPut of the program: a row is turned. -/
import Derived.Test.YtjikjjganloobabFlAt
import Derived.Test.YtjikjjganloobabFlTop
namespace Go.Proofs.Ytjikjjganloobab
open Go.RowKit

/-- the first k bytes are told, noughts behind -/
def upto (k : Nat) (f : Nat → Nat) (i : Nat) : Nat := if i < k then f i else 0
theorem upto_zero (f : Nat → Nat) : upto 0 f = fun _ => 0 := funext fun i => if_neg (Nat.not_lt_zero i)
theorem upto_at (k : Nat) (f : Nat → Nat) : upto (k + 1) f k = f k := if_pos (Nat.lt_succ_self k)
theorem upto_other (k : Nat) (f : Nat → Nat) (i : Nat) (h : i ≠ k) : upto (k + 1) f i = upto k f i := by
  unfold upto
  by_cases e : i < k
  · rw [if_pos e, if_pos (by omega)]
  · rw [if_neg e, if_neg (by omega)]
theorem upto_all (n : Nat) (f : Nat → Nat) : (List.range n).map (upto n f) = (List.range n).map f := List.map_congr_left fun _ hi => if_pos (List.mem_range.1 hi)

theorem guessAt_any (K st b n cap k : Nat) (t : ByteArray) (f : Nat → Nat) (w : World) (hK : K ≤ 4)
    (h : OwnU w b n f) (h0 : ∀ j, n ≤ j → f j = 0) (hf : ∀ j, f j < 256) (hn : n ≤ 2000) (ht : t.size ≤ 2000) (hk : k ≤ 1000) (hst : st ≤ 4) :
    Calls Try.prog 33 #[.agg #[filV K, .string t, .int .i64 st], .slice (some ⟨b, 0, none⟩) n cap, .int .i64 k] w fun e w' => e = .returned (.int .u8 (Fl.gs K st f (byteAt t) k : Nat)) ∧ Below w.heap.size w w' := by
  have h5 : K = 0 ∨ K = 1 ∨ K = 2 ∨ K = 3 ∨ K = 4 := by omega
  rcases h5 with rfl | rfl | rfl | rfl | rfl
  · exact guessAt_plain st b n cap k t f w h h0 hf hn ht hk hst
  · exact guessAt_ahead st b n cap k t f w h h0 hf hn ht hk hst
  · exact guessAt_above st b n cap k t f w h h0 hf hn ht hk hst
  · exact guessAt_mean st b n cap k t f w h h0 hf hn ht hk hst
  · exact guessAt_slope st b n cap k t f w h h0 hf hn ht hk hst

/-- the filter in its block -/
def FBox (w : World) (B : Nat) (v : Value) (t : ByteArray) (st : Nat) : Prop :=
  B < w.heap.size ∧ w.cell? ⟨B, 0, none⟩ = some v ∧ w.cell? ⟨B, 1, none⟩ = some (.string t) ∧ w.cell? ⟨B, 2, none⟩ = some (.int .i64 st)
theorem FBox.kept {w w' : World} {B lo : Nat} {v : Value} {t : ByteArray} {st : Nat} (h : FBox w B v t st) (hb : Below lo w w') (hl : B < lo) : FBox w' B v t st :=
  ⟨Nat.lt_of_lt_of_le h.1 hb.size, (hb.cell (p := ⟨B, 0, none⟩) hl).trans h.2.1, (hb.cell (p := ⟨B, 1, none⟩) hl).trans h.2.2.1, (hb.cell (p := ⟨B, 2, none⟩) hl).trans h.2.2.2⟩
theorem FBox.beside {w : World} {B c k : Nat} {v u : Value} {t : ByteArray} {st : Nat} (h : FBox w B v t st) (hne : B ≠ c) : FBox (w.setCell ⟨c, k, none⟩ u) B v t st := by
  have hc : ∀ o, (w.setCell ⟨c, k, none⟩ u).cell? ⟨B, o, none⟩ = w.cell? ⟨B, o, none⟩ := fun o => World.cell?_setCell_other _ _ _ _ (fun q => hne (congrArg Addr.block q).symm)
  exact ⟨by rw [World.size_setCell]; exact h.1, (hc 0).trans h.2.1, (hc 1).trans h.2.2.1, (hc 2).trans h.2.2.2⟩
theorem FBox.new (w : World) (v : Value) (t : ByteArray) (st : Nat) (T : TypeId) : FBox (w.alloc (.cells #[v, .string t, .int .i64 st] T)) w.heap.size v t st := by
  refine ⟨by simp, ?_, ?_, ?_⟩
  · rw [World.cell?_alloc_at _ _ _ _ rfl]; rfl
  · rw [World.cell?_alloc_at _ _ _ _ rfl]; rfl
  · rw [World.cell?_alloc_at _ _ _ _ rfl]; rfl

theorem filV_iface {K : Nat} (h : K ≤ 4) : ∃ T, filV K = .iface T (.agg #[]) := by
  have h5 : K = 0 ∨ K = 1 ∨ K = 2 ∨ K = 3 ∨ K = 4 := by omega
  rcases h5 with rfl | rfl | rfl | rfl | rfl <;> exact ⟨_, rfl⟩

set_option maxHeartbeats 2000000 in
set_option maxRecDepth 20000 in
theorem impl_filterPut_yes (K st : Nat) (s t : ByteArray) (w : World) (h : FlOk (K : Int) s.size t.size (st : Int)) :
    Calls Try.prog 10 #[.int .i64 K, .string s, .string t, .int .i64 st] w fun e w' => e = .returned (.string ⟨((Fl.put K st (byteAt s) (byteAt t) s.size).map UInt8.ofNat).toArray⟩) ∧ Below w.heap.size w w' := by
  have HAT : Hid (∀ w : World, Calls Try.prog 32 #[.int .i64 K, .string s, .string t, .int .i64 st] w fun e w' => e = .returned (.tuple #[.agg #[filV K, .string t, .int .i64 st], .bool true]) ∧ Below w.heap.size w w') := fun w => filterAt_yes K st s t w h
  obtain ⟨hk, hst, hn, hm⟩ := h
  obtain ⟨T, hT⟩ := filV_iface (K := K) (by omega)
  obtain ⟨n, hnn⟩ : ∃ n, n = s.size := ⟨_, rfl⟩
  have HNN : Hid (n = s.size) := hnn
  have hni : (s.size : Int) = (n : Int) := by omega
  have hn1 : n ≤ 1000 := by omega
  have HG : Hid (∀ (b cap k : Nat) (w : World), OwnU w b n (byteAt s) → k < n → Calls Try.prog 33 #[.agg #[.iface T (.agg #[]), .string t, .int .i64 st], .slice (some ⟨b, 0, none⟩) n cap, .int .i64 k] w fun e w' => e = .returned (.int .u8 (Fl.gs K st (byteAt s) (byteAt t) k : Nat)) ∧ Below w.heap.size w w') := fun b cap k w hO hkn => by
    rw [← hT]
    exact guessAt_any K st b n cap k t (byteAt s) w (by omega) hO (fun j hj => byteAt_past s j (by omega)) (byteAt_lt s) (by omega) (by omega) (by omega) (by omega)
  rw [← hnn]
  rw [hT] at HAT
  clear hk hst hm hT
  go_enter Try.func10, Try.ntmps10
  go_wp2_with fail
  refine (HAT.out _).mono ?_
  rintro e w1 ⟨rfl, b1⟩
  clear HAT
  have F1 := FBox.new w1 (.iface T (.agg #[])) t st 52
  have B1 : Below w.heap.size w (w1.alloc (.cells #[.iface T (.agg #[]), .string t, .int .i64 st] 52)) := b1.alloc b1.size _
  obtain ⟨cap, w2, hcv, hO2, b2, hs2⟩ := conv_own s (w1.alloc (.cells #[.iface T (.agg #[]), .string t, .int .i64 st] 52))
  rw [← hnn] at hcv hO2
  have hsz1 : (w1.alloc (.cells #[.iface T (.agg #[]), .string t, .int .i64 st] 52)).heap.size = w1.heap.size + 1 := by simp
  rw [hsz1] at hcv hO2 b2 hs2
  obtain ⟨w3, hmk, hO3, b3, hs3⟩ := make_bytes n (by omega) w2
  have hsz2 : w2.heap.size = w1.heap.size + 2 := by omega
  rw [hsz2] at hmk hO3 b3 hs3
  have F3 : FBox w3 w1.heap.size (.iface T (.agg #[])) t st := (F1.kept b2 (by omega)).kept b3 (by omega)
  have hO23 : OwnU w3 (w1.heap.size + 1) n (byteAt s) := hO2.kept b3 (by omega)
  have hbw : w.heap.size ≤ w1.heap.size := b1.size
  have B3 : Below w.heap.size w w3 := (B1.trans (b2.mono (by omega))).trans (b3.mono (by omega))
  have HS : Hid (FBox w3 w1.heap.size (.iface T (.agg #[])) t st ∧ OwnU w3 (w1.heap.size + 1) n (byteAt s) ∧ OwnU w3 (w1.heap.size + 2) n (fun _ => 0) ∧ Below w.heap.size w w3) := ⟨F3, hO23, hO3, B3⟩
  clear F1 B1 hO2 b2 hs2 hO3 b3 hs3 F3 hO23 B3 b1 hnn hsz1
  go_wp2_with fail
  clear hcv hmk
  go_loopw [31] (fun i wr => ∃ k : Nat, k ≤ n ∧ i = .int .i64 k ∧ FBox wr w1.heap.size (.iface T (.agg #[])) t st ∧ OwnU wr (w1.heap.size + 1) n (byteAt s) ∧ OwnU wr (w1.heap.size + 2) n (upto k (fun j => (byteAt s j + 512 - Fl.gs K st (byteAt s) (byteAt t) j) % 256)) ∧ Below w.heap.size w wr) (fun i _ => n - (intOf i).toNat)
  case atStart => exact ⟨0, Nat.zero_le _, rfl, HS.out.1, HS.out.2.1, by rw [upto_zero]; exact HS.out.2.2.1, HS.out.2.2.2⟩
  case round =>
    obtain ⟨k, hk, rfl, hF, hW, hL, hbel⟩ := hrel
    clear HS
    by_cases hlt : k < n
    · obtain ⟨g, hg⟩ : ∃ g, g = Fl.gs K st (byteAt s) (byteAt t) k := ⟨_, rfl⟩
      have hgb : g < 256 := by rw [hg]; exact Fl.gs_lt (byteAt_lt s) (byteAt_lt t) k
      obtain ⟨x, hx⟩ : ∃ x, x = byteAt s k := ⟨_, rfl⟩
      have hxb : x < 256 := by rw [hx]; exact byteAt_lt _ _
      obtain ⟨y, hy⟩ : ∃ y, y = (x + 512 - g) % 256 := ⟨_, rfl⟩
      have HY : Hid (y = (byteAt s k + 512 - Fl.gs K st (byteAt s) (byteAt t) k) % 256) := by show _ = _; rw [hy, hx, hg]
      have HGK : Hid (∀ (w : World), OwnU w (w1.heap.size + 1) n (byteAt s) → Calls Try.prog 33 #[.agg #[.iface T (.agg #[]), .string t, .int .i64 st], .slice (some ⟨w1.heap.size + 1, 0, none⟩) n cap, .int .i64 k] w fun e w' => e = .returned (.int .u8 (g : Int)) ∧ Below w.heap.size w w') := fun w hO => by rw [hg]; exact HG.out _ _ _ w hO hlt
      have hyw : IntKind.u8.wrap ((x : Int) - (g : Int)) = (y : Int) := by rw [hy]; simp [IntKind.wrap, IntKind.bits, IntKind.signed]; omega
      have hcx := (hW.2 k hlt).1
      rw [← hx] at hcx
      obtain ⟨hcL, hfL⟩ := hL.2 k hlt
      obtain ⟨hFB, f0, f1, f2⟩ := hF
      have hki : (k : Int) < (n : Int) := by omega
      have HK0 : Hid (FBox wr w1.heap.size (.iface T (.agg #[])) t st ∧ OwnU wr (w1.heap.size + 1) n (byteAt s) ∧ OwnU wr (w1.heap.size + 2) n (upto k (fun j => (byteAt s j + 512 - Fl.gs K st (byteAt s) (byteAt t) j) % 256)) ∧ Below w.heap.size w wr) := ⟨⟨hFB, f0, f1, f2⟩, hW, hL, hbel⟩
      have hWd : OwnU wr.drew (w1.heap.size + 1) n (byteAt s) := hW
      have HWD : Hid (OwnU wr.drew (w1.heap.size + 1) n (byteAt s)) := hWd
      have hL2 : w1.heap.size + 2 < wr.heap.size := hL.1
      generalize upto k (fun j => (byteAt s j + 512 - Fl.gs K st (byteAt s) (byteAt t) j) % 256) k = q at hcL
      clear hx hy hg hW hL hbel hWd
      go_wp2_with fail
      go_region_held3 (fun w' => w'.cell? ⟨w1.heap.size, 0, none⟩ = some (.iface T (.agg #[])) ∧ w'.cell? ⟨w1.heap.size, 1, none⟩ = some (.string t) ∧ w'.cell? ⟨w1.heap.size, 2, none⟩ = some (.int .i64 st) ∧ w'.cell? ⟨w1.heap.size + 1, k, none⟩ = some (.int .u8 (x : Int))) (go_keep) ((go_at_call 33; refine (HGK.out _ HWD.out).mono ?_; rintro e w4 ⟨rfl, b4⟩; have k0 := ((box_drew b4).cell (p := ⟨w1.heap.size, 0, none⟩) (by simp; omega)).trans f0; have k1 := ((box_drew b4).cell (p := ⟨w1.heap.size, 1, none⟩) (by simp; omega)).trans f1; have k2 := ((box_drew b4).cell (p := ⟨w1.heap.size, 2, none⟩) (by simp; omega)).trans f2; have k3 := ((box_drew b4).cell (p := ⟨w1.heap.size + 1, k, none⟩) (by simp; omega)).trans hcx; have k4 := ((box_drew b4).cell (p := ⟨w1.heap.size + 2, k, none⟩) (by simp; omega)).trans hcL; have k5 := ((box_drew b4).frozen (p := ⟨w1.heap.size + 2, k, none⟩) (by simp; omega)).trans hfL))
      all_goals
        have b5 : Below wr.heap.size wr w4 := box_drew b4
        have hF5 := (HK0.out.1.kept b5 (by omega)).beside (c := w1.heap.size + 2) (k := k) (u := .int .u8 (y : Int)) (by omega)
        have hW5 := (HK0.out.2.1.kept b5 (by omega)).beside (c := w1.heap.size + 2) (k := k) (v := .int .u8 (y : Int)) (by omega)
        have hL5 : OwnU (w4.setCell ⟨w1.heap.size + 2, k, none⟩ (.int .u8 (y : Int))) (w1.heap.size + 2) n (upto (k + 1) (fun j => (byteAt s j + 512 - Fl.gs K st (byteAt s) (byteAt t) j) % 256)) := (HK0.out.2.2.1.kept b5 (by omega)).put hlt (by rw [upto_at, HY.out]) (fun i _ hne => upto_other k _ i hne)
        have hb5 : Below w.heap.size w (w4.setCell ⟨w1.heap.size + 2, k, none⟩ (.int .u8 (y : Int))) := (HK0.out.2.2.2.trans (b5.mono HK0.out.2.2.2.size)).setCell (by show w.heap.size ≤ w1.heap.size + 2; omega) _
        have HN : Hid (_ ∧ _ ∧ _ ∧ _) := ⟨hF5, hW5, hL5, hb5⟩
        clear hF5 hW5 hL5 hb5 b5 b4 HK0 HY HGK HWD
        go_wp2_with fail
        go_roundw
        case rel => exact ⟨k + 1, by omega, by go_num, HN.out.1, HN.out.2.1, HN.out.2.2.1, HN.out.2.2.2⟩
        case measure => simp [intOf]; omega
    · have hk' : k = n := by omega
      subst hk'
      obtain ⟨u, hu⟩ : ∃ u : ByteArray, u = ⟨((Fl.put K st (byteAt s) (byteAt t) k).map UInt8.ofNat).toArray⟩ := ⟨_, rfl⟩
      have htx : Sem.run Try.prog (convert 22 9 (.slice (some ⟨w1.heap.size + 2, 0, none⟩) k k)) wr = .ok (.string u) wr := by
        have := hL.text (cap := k)
        rw [upto_all] at this
        rw [hu]; exact this
      have HU : Hid (u = ⟨((Fl.put K st (byteAt s) (byteAt t) k).map UInt8.ofNat).toArray⟩) := hu
      clear hu
      have hlt' : ¬ (k : Int) < (k : Int) := by omega
      clear hF hW hL
      go_wp2_with fail
      go_ret
      exact ⟨by rw [← HU.out]; rfl, hbel⟩
end Go.Proofs.Ytjikjjganloobab
