/- RlePut of the program. -/
import Derived.Test.YtlpfedhehfbfeaaRpMem
import Derived.Test.YtlpfedhehfbfeaaReTop
import Derived.Sort.CutIn
import Derived.Maps.OwnIn
namespace Go.Proofs.Ytlpfedhehfbfeaa
open Go.RowKit Go.Shelf

attribute [local go_sem] Oper.semAt_some

/-- the text so far in a row of the call's own -/
def ReSt (w : World) (Ds : List Nat) (q : List UInt8) (W : World) : Prop :=
  (∃ v, Boxed W w.heap.size 22 v ∧ OwnT W (w.heap.size + 1) v q.length q) ∧ Below w.heap.size w W ∧ w.heap.size + 1 ≤ W.heap.size ∧ Marks (w.heap.size + 1) W.heap.size Ds W
theorem reSt_app {w W w4 : World} {Ds : List Nat} {q q2 : List UInt8} {v v4 : Value} {m m' : Nat} (hbel : Below w.heap.size w W) (hsz : w.heap.size + 1 ≤ W.heap.size) (hm : Marks (w.heap.size + 1) W.heap.size Ds W) (hv : Boxed W w.heap.size 22 v) (hr : OwnT W (w.heap.size + 1) v m q) (o : Obj)
    (hg : (W.alloc o).grownBy w4 v.ownBlock) (hown : OwnT w4 (w.heap.size + 1) v4 m' q2) : ReSt w Ds q2 (w4.setCell ⟨w.heap.size, 0, none⟩ v4) := by
  have hA : World.ownsRow (W.alloc o) _ _ _ _ _ _ := World.ownsRow.alloc (show World.ownsRow _ _ _ _ _ _ _ from hr) o
  have hW4 : WentP (fun _ => True) w.heap.size 0 47 W w4 := ((WentP.refl _ _ _ _ W).alloc (Nat.zero_le _) (by omega) o).append hA (fun _ _ => .inl trivial) (by decide) hg (Nat.zero_le _) (by omega) (by simp; omega)
  have hv4 : Boxed w4 w.heap.size 22 v := (hv.alloc o).kept hg (Boxed.not_row (hv.alloc o) (by decide) hA)
  have hW5 := hW4.store hv4 trivial (by decide) v4
  refine ⟨⟨v4, hv4.set _, ?_⟩, hbel.trans hW5.bl, Nat.le_trans hsz hW5.bs.1, (hm.others hW5.ko).up hW5.bs.1⟩
  rw [hown.len]
  exact World.ownsRow.kept (show World.ownsRow _ _ _ _ _ _ _ from hown) (grownBy_setCell' w4 w.heap.size _) (.inr (hv4.not_row (by decide) (show World.ownsRow _ _ _ _ _ _ _ from hown)).symm)
theorem Rows2.at3 {w : World} {a : Option Addr} {ls : List (List Int)} (h : Rows2 w a ls) {k : Nat} (hk : k < ls.length) : ∃ R off a' cap, a = some ⟨R, off, none⟩ ∧ R < w.heap.size ∧ w.cell? ⟨R, off + k, none⟩ = some (.slice a' ls[k].length cap) ∧ Ints w a' ls[k] ∧ ls[k].length ≤ cap := by
  rcases h with e | ⟨R, off, rfl, hR, hc⟩
  · rw [e] at hk; simp at hk
  · obtain ⟨a', cap, h1, h2, h3⟩ := hc k hk
    exact ⟨R, off, a', cap, rfl, hR, h1, h2, h3⟩
/-- where a row lies -/
theorem row_lies {w : World} {a : Option Addr} {l : List Int} (h : Ints w a l) (z : Nat) : ∃ b off, (b < w.heap.size ∨ b = z) ∧ (l.length = 0 ∨ a = some ⟨b, off, none⟩) ∧ ∀ X, Below w.heap.size w X → z < X.heap.size → RI.Lies X b off l := by
  rcases h with rfl | ⟨b, off, rfl, hb, hc⟩
  · exact ⟨z, 0, .inr rfl, .inl rfl, fun X _ hz => ⟨hz, fun i hi => by simp at hi⟩⟩
  · exact ⟨b, off, .inl hb, .inr rfl, fun X hX _ => ⟨Nat.lt_of_lt_of_le hb hX.size, fun i hi => (hX.cell (p := ⟨b, off + i, none⟩) hb).trans (hc i hi)⟩⟩

set_option linter.unusedSimpArgs false in
set_option maxRecDepth 100000 in
set_option maxHeartbeats 8000000 in
theorem impl_rlePut_in (a : Option Addr) (n cap : Nat) (ls : List (List Int)) (w : World) (h : Rows2 w a ls) (hn : ls.length = n) (hnb : n ≤ 100) (hm : ∀ l ∈ ls, l.length ≤ 2000000) :
    CallsIn Fence.wide 3 Try.prog 8 #[.slice a n cap] w fun e W' => e = .returned (.string ⟨(Re.all ls).toArray⟩) ∧ Below w.heap.size w W' := by
  have hro : Fence.wide.round = none := rfl
  obtain ⟨i0, hi0, hz0, hz1, hz2⟩ := info_parts info_u8t
  have HN : Hid (ls.length = n) := hn
  have HR : Hid (Rows2 w a ls) := h
  have HM : Hid (∀ l ∈ ls, l.length ≤ 2000000) := hm
  have d1 : decide ((n : Int) > 100) = false := by simp; omega
  clear h hn hm
  refine callsIn_of_wp_marks Try.func8 rfl trivial ?_ hro
  simp only [Try.ntmps8, List.size_toArray, List.length_cons, List.length_nil, Nat.reduceAdd, Nat.reduceSub, Array.replicate_succ, Array.replicate_zero, List.push_toArray, List.append_toArray, List.nil_append, List.cons_append]
  gi_wp2
  refine wpIn_loop (fun a' W => ∃ (k : Nat) (Ds : List Nat) (q : List UInt8), (k ≤ n ∧ Hid (q = Re.part (ls.take k) ∧ ∀ l ∈ ls.take k, Re.okRow l = true) ∧ Hid (ReSt w Ds q W)) ∧ ∃ u4 u5 u6 u13 u14 u15 u16 u17 u18 u19 u20 u21 u22 u23 u24 u25 u26 u27 u28 u29 u30 u31 u32 u33 u34 u35 u36 u37 u38 u39 u40 u41 u42 u43 u44 u45 u46 u47 u48 u49 : Value,
    a' = { tmps := #[.slice a n cap, undef, .string ⟨#[]⟩, .pointer (some ⟨w.heap.size, 0, none⟩), u4, u5, u6, .slice a n cap, .int .i64 (n : Int), .bool false, .slice a n cap, .int .i64 (n : Int), .int .i64 (k : Int), u13, u14, u15, u16, u17, u18, u19, u20, u21, u22, u23, u24, u25, u26, u27, u28, u29, u30, u31, u32, u33, u34, u35, u36, u37, u38, u39, u40, u41, u42, u43, u44, u45, u46, u47, u48, u49], defers := Ds.map markOf }) (fun a' _ => n - (intOf (a'.tmps.getD 12 undef)).toNat) ?_ ?_
  · exact ⟨0, [], [], ⟨Nat.zero_le _, ⟨by simp [Re.part], by simp⟩, ⟨_, Boxed.new w 22 _, ownT_nil _ _⟩, (Below.refl _ _).alloc (Nat.le_refl _) _, by simp, List.nodup_nil, fun D hD => by simp at hD⟩, _, _, _, _, _, _, _, _, _, _, _, _, _, _, _, _, _, _, _, _, _, _, _, _, _, _, _, _, _, _, _, _, _, _, _, _, _, _, _, _, rfl⟩
  rintro _ W ⟨k, Ds, q, ⟨hk, HQ, HS⟩, u4, u5, u6, u13, u14, u15, u16, u17, u18, u19, u20, u21, u22, u23, u24, u25, u26, u27, u28, u29, u30, u31, u32, u33, u34, u35, u36, u37, u38, u39, u40, u41, u42, u43, u44, u45, u46, u47, u48, u49, rfl⟩
  have hqb : q.length ≤ 30000 := by
    rw [HQ.out.1]
    have h1 := Re.part_len (ls.take k) (fun l hl => Re.okRow_len (HQ.out.2 l hl))
    have h2 : (ls.take k).length ≤ k := List.length_take_le _ _
    omega
  by_cases hlt : k < n
  rotate_left
  · have hki : ¬ (k : Int) < (n : Int) := by omega
    have HF : Hid (Re.all ls = q ++ [0, 1]) := by
      show _ = _
      have hte : ls.take k = ls := List.take_of_length_le (by rw [HN.out]; omega)
      have h2 := HQ.out.2
      rw [hte] at h2
      rw [HQ.out.1, hte, Re.all_good (by rw [HN.out]; exact hnb) h2]
    obtain ⟨⟨v, hv, hrow⟩, hbel, hsz, hmk⟩ := HS.out
    have HV : Hid (Boxed W w.heap.size 22 v) := hv
    have HRW : Hid (OwnT W (w.heap.size + 1) v q.length q) := hrow
    have HMK : Hid (Marks (w.heap.size + 1) W.heap.size Ds W) := hmk
    have hvc := hv.cell
    clear hrow hv hmk HS HQ
    gi_wp2_with (gi_at_builtin; refine wpListIn_append_own _ rfl _ _ 22 rfl (w.heap.size + 1) 5 i0 (.int .u8 0) 1 1 Try.underlying22 hi0 hz0 hz1 hz2 rfl (by decide) v q.length (u8V q) rfl (World.ownsRow.alloc (show World.ownsRow _ _ _ _ _ _ _ from HRW.out) _) ⟨W.heap.size, 0, none⟩ 2 2 [.int .u8 0, .int .u8 1] rfl rfl (World.news_of_block (heap_alloc_new _ _)) (fun x hx => by simp at hx; rcases hx with rfl | rfl <;> rfl) (by unfold maxLen; omega) (by omega) (Nat.le_trans hsz (by simp)) ?_)
    intro v4 w4 hown4 hg4 _
    have hown5 : OwnT w4 (w.heap.size + 1) v4 (q.length + 2) (q ++ [0, 1]) := by
      unfold OwnT
      rw [← u8V_append, show u8V [0, 1] = [.int .u8 0, .int .u8 1] from rfl]
      exact hown4
    have htx := hown5.text
    have HB : Hid (Below w.heap.size w w4 ∧ Marks (w.heap.size + 1) W.heap.size Ds w4) := by
      have hA : World.ownsRow (W.alloc (.cells #[.int .u8 0, .int .u8 1] 5)) _ _ _ _ _ _ := World.ownsRow.alloc (show World.ownsRow _ _ _ _ _ _ _ from HRW.out) _
      have hW4 : WentP (fun _ => True) w.heap.size 0 47 W w4 := ((WentP.refl _ _ _ _ W).alloc (Nat.zero_le _) (by omega) (.cells #[.int .u8 0, .int .u8 1] 5)).append hA (fun _ _ => .inl trivial) (by decide) hg4 (Nat.zero_le _) (by omega) (by simp; omega)
      exact ⟨hbel.trans hW4.bl, HMK.out.others hW4.ko⟩
    clear hown4 hg4 hown5 HMK HRW hvc
    gi_wp2
    refine leaves_marks (fun _ => results_tmp rfl _ _ _) (w.heap.size + 1) W.heap.size Ds _ HB.out.2 (fun W' hW' => ⟨by rw [HF.out]; rfl, HB.out.1.trans (hW'.mono (by omega))⟩)
  have hki : (k : Int) < (n : Int) := by omega
  have hkl : k < ls.length := by rw [HN.out]; exact hlt
  obtain ⟨R, off0, a', cap', rfl, hR, hcell0, hints, hcap'⟩ := HR.out.at3 hkl
  have hmb : ls[k].length ≤ 2000000 := HM.out _ (List.getElem_mem hkl)
  have hcell : W.cell? ⟨R, off0 + k, none⟩ = some (.slice a' ls[k].length cap') := (HS.out.2.1.cell (p := ⟨R, off0 + k, none⟩) hR).trans hcell0
  have HIN : Hid (Ints w a' ls[k]) := hints
  have HIW : Hid (Ints W a' ls[k]) := hints.kept HS.out.2.1
  obtain ⟨l, hl⟩ : ∃ l, l = ls[k] := ⟨_, rfl⟩
  have HLK : Hid (l = ls[k]) := hl
  rw [← hl] at hcell HIN HIW hmb hcap'
  obtain ⟨m, hm⟩ : ∃ m, m = l.length := ⟨_, rfl⟩
  have HML : Hid (m = l.length) := hm
  rw [← hm] at hcell hmb hcap'
  clear hints hcell0 hl hm
  by_cases hbig : 100 < m
  · have hbi : decide ((m : Int) > 100) = true := by simp; omega
    have HF : Hid (Re.all ls = []) := Re.all_bad k hkl (Re.okRow_long (by rw [← HLK.out, ← HML.out]; exact hbig))
    have HMK : Hid (Marks (w.heap.size + 1) W.heap.size Ds W) := HS.out.2.2.2
    have HBL : Hid (Below w.heap.size w W) := HS.out.2.1
    clear HIN HIW HS HQ HR
    gi_wp2
    refine ⟨trivial, ?_⟩
    gi_wp2
    refine leaves_marks (fun _ => results_tmp rfl _ _ _) (w.heap.size + 1) W.heap.size Ds _ HMK.out (fun W' hW' => ⟨by rw [HF.out]; rfl, HBL.out.trans (hW'.mono (by omega))⟩)
  have hbi : decide ((m : Int) > 100) = false := by simp; omega
  have HNF : Hid (Calls Try.prog 23 #[.slice a' m cap', .int .i64 8] W fun e w' => e = .returned (.bool (Rt.fit 1 l)) ∧ w' = W) := numbersFit_any a' m cap' 8 1 l W HIW.out HML.out.symm hmb rfl (by omega)
  cases hft : Rt.fit 1 l with
  | false =>
    have HF : Hid (Re.all ls = []) := Re.all_bad k hkl (by unfold Re.okRow; rw [← HLK.out, hft, Bool.and_false])
    have HMK : Hid (Marks (w.heap.size + 1) W.heap.size Ds W) := HS.out.2.2.2
    have HBL : Hid (Below w.heap.size w W) := HS.out.2.1
    rw [hft] at HNF
    clear HIN HIW HS HQ HR hft
    gi_wp2
    refine ⟨trivial, ?_⟩
    gi_wp2
    refine (callsIn_wide.2 HNF.out).mono ?_
    rintro e w2 ⟨rfl, hw2⟩
    subst hw2
    clear HNF
    gi_wp2
    refine leaves_marks (fun _ => results_tmp rfl _ _ _) (w.heap.size + 1) w2.heap.size Ds _ HMK.out (fun W' hW' => ⟨by rw [HF.out]; rfl, HBL.out.trans (hW'.mono (by omega))⟩)
  | true =>
    have HFT : Hid (Rt.fit 1 l = true) := hft
    rw [hft] at HNF
    have HOK : Hid (Re.okRow l = true) := by unfold Re.okRow; show _ = true; rw [hft, ← HML.out, decide_eq_true (by omega)]; rfl
    obtain ⟨q2, hq2⟩ : ∃ q2, q2 = q ++ Re.sep k n := ⟨_, rfl⟩
    have HQ2 : Hid (q2 = q ++ Re.sep k n) := hq2
    clear hft hq2 HIW
    gi_upto_region 7 with fail
    gi_wp2
    refine ⟨trivial, ?_⟩
    gi_upto_if 26 with fail
    refine (callsIn_wide.2 HNF.out).mono ?_
    rintro e w2 ⟨rfl, hw2⟩
    replace hw2 := hw2.symm
    subst hw2
    clear HNF
    gi_upto_if 26 with fail
    gi_cut [] from 13 (fun wc => Hid (ReSt w Ds q2 wc))
    case first =>
      clear HR HM HIN HFT HOK hcell
      obtain ⟨⟨v, hv, hrow⟩, hbel, hsz, hmk⟩ := HS.out
      by_cases hk0 : 0 < k
      · have hq2 : q2 = q ++ [0, 0] := by rw [HQ2.out]; unfold Re.sep; rw [if_pos ⟨hk0, hlt⟩]
        have HQ3 : Hid (q2 = q ++ [0, 0]) := hq2
        have HV : Hid (Boxed W w.heap.size 22 v) := hv
        have HRW : Hid (OwnT W (w.heap.size + 1) v q.length q) := hrow
        have HMK : Hid (Marks (w.heap.size + 1) W.heap.size Ds W) := hmk
        have hvc := hv.cell
        clear hrow hv hmk HS HQ hq2 HQ2
        gi_wp2_with (gi_at_builtin; refine wpListIn_append_own _ rfl _ _ 22 rfl (w.heap.size + 1) 5 i0 (.int .u8 0) 1 1 Try.underlying22 hi0 hz0 hz1 hz2 rfl (by decide) v q.length (u8V q) rfl (World.ownsRow.alloc (show World.ownsRow _ _ _ _ _ _ _ from HRW.out) _) ⟨W.heap.size, 0, none⟩ 2 2 [.int .u8 0, .int .u8 0] rfl rfl (World.news_of_block (heap_alloc_new _ _)) (fun x hx => by simp at hx; rw [hx]; rfl) (by unfold maxLen; omega) (by omega) (Nat.le_trans hsz (by simp)) ?_)
        intro v4 w4 hown4 hg4 _
        obtain ⟨g, cap4, rfl⟩ := ownsRow_succ hown4
        have hown5 : OwnT w4 (w.heap.size + 1) (.slice (some ⟨g, 0, none⟩) (q.length + 2) cap4) (q.length + 2) q2 := by
          unfold OwnT
          rw [HQ3.out, ← u8V_append, show u8V [0, 0] = [.int .u8 0, .int .u8 0] from rfl]
          exact hown4
        have HE : Hid (ReSt w Ds q2 (w4.setCell ⟨w.heap.size, 0, none⟩ (.slice (some ⟨g, 0, none⟩) (q.length + 2) cap4))) := reSt_app hbel hsz HMK.out HV.out HRW.out _ hg4 hown5
        have hA : World.ownsRow (W.alloc (.cells #[.int .u8 0, .int .u8 0] 5)) _ _ _ _ _ _ := World.ownsRow.alloc (show World.ownsRow _ _ _ _ _ _ _ from HRW.out) _
        have hv4 : Boxed w4 w.heap.size 22 v := (HV.out.alloc _).kept hg4 (Boxed.not_row (HV.out.alloc _) (by decide) hA)
        have hv4c := hv4.cell
        have hv4f := hv4.frozen
        clear hown4 hg4 hown5 HMK HRW hvc hA hv4
        gi_wp2
        gi_meet
        case rel => exact HE
      · have hq2 : q2 = q := by rw [HQ2.out]; unfold Re.sep; rw [if_neg (by omega), List.append_nil]
        have HE : Hid (ReSt w Ds q2 W) := by rw [hq2]; exact HS
        have hk00 : k = 0 := by omega
        clear hq2 HQ2 HQ HS hv hrow hmk
        gi_wp2
        gi_meet
        case rel => exact HE
    case rest =>
      have HC : Hid (ReSt w Ds q2 wc) := hcut
      have hq2b : q2.length ≤ 30002 := by
        rw [HQ2.out, List.length_append]
        have : (Re.sep k n).length ≤ 2 := by unfold Re.sep; split <;> simp
        omega
      clear hcut HS hcell
      gi_wp2
      refine ⟨trivial, ?_⟩
      gi_wp2
      refine (callsIn_wide.2 (RI.stretchesOf_any a' m cap' 1 255 _)).mono ?_
      rintro e w3 ⟨rfl, hw3⟩
      gi_wp2
      clear hw3
      obtain ⟨⟨v, hv, hrow⟩, hbel, hsz, hmk⟩ := HC.out
      obtain ⟨b, off, hbb, hba, hlies⟩ := row_lies HIN.out wc.heap.size
      obtain ⟨P, hP⟩ : ∃ P : Nat → Prop, P = fun j => j = w.heap.size ∨ some j = v.ownBlock := ⟨_, rfl⟩
      have hvlo : ∀ j, v.ownBlock = some j → w.heap.size + 1 ≤ j ∧ j < wc.heap.size := fun j hj => World.ownsRow.lt (show World.ownsRow _ _ _ _ _ _ _ from hrow) j hj
      have HPN : ∀ j, wc.heap.size ≤ j → ¬ P j := fun j hj hp => by
        rw [hP] at hp
        rcases hp with hp | hp
        · omega
        · have := hvlo j hp.symm; omega
      have HPB : Hid (¬ P b) := by
        rcases hbb with hbb | hbb
        · intro hp
          rw [hP] at hp
          rcases hp with hp | hp
          · omega
          · have := hvlo b hp.symm; omega
        · exact HPN b (by omega)
      have HLI : Hid (∀ X, Below w.heap.size w X → wc.heap.size + 3 ≤ X.heap.size → RI.Lies X b off l) := fun X h1 h2 => hlies X h1 (by omega)
      have HPA : Hid (P w.heap.size) := by rw [hP]; exact .inl rfl
      have HPV : ∀ j, v.ownBlock = some j → P j ∨ wc.heap.size + 3 ≤ j := fun j hj => by rw [hP]; exact .inl (.inr hj.symm)
      have hbn : b < wc.heap.size + 3 := by omega
      have hbA : b ≠ w.heap.size := by omega
      obtain ⟨W0, hW0⟩ : ∃ W0, ((wc.alloc (.cells #[.slice a' m cap'] 26)).alloc (.cells #[.int .i64 1] 3)).alloc (.cells #[.int .i64 255] 3) = W0 := ⟨_, rfl⟩
      rw [hW0]
      have HZ : Hid (W0.heap.size = wc.heap.size + 3) := by show _ = _; rw [← hW0]; simp
      have HB0 : Hid (Below wc.heap.size wc W0) := by
        show Below _ _ _
        rw [← hW0]; exact (((Below.refl _ wc).alloc (Nat.le_refl _) _).alloc (by simp) _).alloc (by simp; omega) _
      have HBw : Hid (Below w.heap.size w W0) := hbel.trans (HB0.out.mono (by omega))
      have HBx : Hid (Boxed W0 w.heap.size 22 v) := by
        show Boxed _ _ _ _
        rw [← hW0]; exact ((hv.alloc _).alloc _).alloc _
      have HRx : Hid (OwnT W0 (w.heap.size + 1) v q2.length q2) := by
        show OwnT _ _ _ _ _
        rw [← hW0]; exact ((hrow.alloc _).alloc _).alloc _
      have HH : Hid (RI.Held W0 a' wc.heap.size (wc.heap.size + 2) (wc.heap.size + 1) b off cap' m 1 255 l) := by
        refine ⟨?_, ?_, ?_, hlies W0 HBw.out (by rw [HZ.out]; omega)⟩
        · rw [← hW0]
          exact (((Boxed.new wc 26 _).alloc _).alloc _).cell
        · rw [← hW0, show wc.heap.size + 2 = ((wc.alloc (.cells #[.slice a' m cap'] 26)).alloc (.cells #[.int .i64 1] 3)).heap.size by simp]
          exact (Boxed.new _ 3 _).cell
        · rw [← hW0, show wc.heap.size + 1 = (wc.alloc (.cells #[.slice a' m cap'] 26)).heap.size by simp]
          exact ((Boxed.new _ 3 _).alloc _).cell
      have HMK : Hid (Marks (w.heap.size + 1) (wc.heap.size + 3) Ds W0) := (hmk.below HB0.out (Nat.le_refl _)).up (by omega)
      clear hW0 hP hlies hmk hrow hv
      have HS := RI.stretchesP_stops 2 (by omega) a' wc.heap.size (wc.heap.size + 2) (wc.heap.size + 1) b off cap' m 1 255 (wc.heap.size + 3) P l W0 (by omega) (by omega) (by omega) hbn (HPN _ (Nat.le_refl _)) (HPN _ (by omega)) (HPN _ (by omega)) HPB.out (by rw [HZ.out]; exact Nat.le_refl _)
        HML.out.symm (by omega) (by omega) (by omega) (by omega) hcap' (by rw [← HML.out] at hba; exact hba) HH.out
      refine wpIn_rangeFunc_ownH hro (by omega) (gf := 41) (lb := _) rfl trivial (enters_of Try.func41 (by kernel_rfl) rfl)
        HS BsP.trans (BsP.book (by rw [HZ.out]; exact Nat.le_refl _)) (Below.refl _ _) (fun _ => rfl)
        (ReI w P (wc.heap.size + 3) Ds q2 l m) (fun _ _ _ => False) (reI_own w P _ Ds q2 l m _ (by rw [HZ.out]; exact Nat.le_refl _) (by omega)) (fun _ _ _ _ _ hs _ _ => hs)
        ⟨⟨v, HBx.out, by simp only [List.map_nil, Re.flat, List.flatMap_nil, List.append_nil]; exact HRx.out, HPV⟩, HBw.out, by rw [HZ.out]; exact Nat.le_refl _, HMK.out⟩
        (fun x a1 X => ∃ Bx, wc.heap.size + 3 ≤ Bx ∧ X.heap[Bx]? = some (.cells #[.slice (some ⟨b, off + x.1.1, none⟩) x.1.2.1 (cap' - x.1.1), .bool x.1.2.2] 47 (0, 0)) ∧
          a1 = { tmps := #[.slice (some ⟨R, off0, none⟩) n cap, undef, .string ⟨#[]⟩, .pointer (some ⟨w.heap.size, 0, none⟩), .int .i64 (k : Int), .slice a' m cap', .pointer (some ⟨Bx, 0, none⟩), .slice (some ⟨R, off0, none⟩) n cap, .int .i64 (n : Int), .bool false, .slice (some ⟨R, off0, none⟩) n cap, .int .i64 (n : Int), .int .i64 (k : Int), u13, u14, u15, u16, u17, u18, u19, u20, u21, u22, u23, u24, u25, u26, u27, u28, u29, .slice a' m cap', .func (.func 41) #[] #[.pointer (some ⟨wc.heap.size, 0, none⟩), .pointer (some ⟨wc.heap.size + 2, 0, none⟩), .pointer (some ⟨wc.heap.size + 1, 0, none⟩)], .agg #[.slice (some ⟨b, off + x.1.1, none⟩) x.1.2.1 (cap' - x.1.1), .bool x.1.2.2], u33, u34, u35, u36, u37, u38, u39, u40, u41, u42, u43, u44, u45, u46, u47, u48, u49], defers := [] })
        ?ax ?assign ?body ?done ?stop
      case ax =>
        rintro x a1 _ X Y row ⟨Bx, h1, h2, h3⟩ hg hrow
        refine ⟨Bx, h1, (hg.block Bx (lt_of_at h2) (fun e => ?_)).trans h2, h3⟩
        obtain ⟨_, o, ho, hc⟩ := hrow Bx e.symm
        rw [h2] at ho; cases ho; cases hc
      case assign =>
        rintro r pre x X K hi hK
        dsimp only [RI.enc]
        gi_wp2
        have hsX := hi.2.2.1
        exact hK _ _ ((KeepsOthers.alloc _ _).from _) (BsP.of ((Below.refl _ X).alloc hsX _)) ((reI_own w P _ Ds q2 l m _ (Nat.le_refl _) (by omega)).alloc _ hi) ⟨X.heap.size, hsX, heap_alloc_new _ _, rfl⟩
      case body =>
        rintro r pre ⟨⟨i, z, ag⟩, hk1, hzl, hzm⟩ a1 X _ ⟨rr, hrr⟩ hI ⟨Bx, hBx, hbx, rfl⟩ hpl
        have HI : Hid (ReI w P (wc.heap.size + 3) Ds q2 l m pre X) := hI
        obtain ⟨⟨v1, hv1, hrow1, hP1⟩, hbelX, hsX, hmkX⟩ := hI
        dsimp only at hk1 hzl hzm hbx
        have hfl := Re.flat_len l (pre.map Subtype.val)
        rw [List.length_map] at hfl
        have hpl2 : pre.length ≤ 100 := by
          have h1 := Rn.all_len (least := 1) (m := 255) (l := l) (l.length - 0) 0
          have h2 : (Rn.from_ 1 255 l 0).length ≤ l.length - 0 := h1
          rw [← HML.out] at h2
          omega
        obtain ⟨q1, hq1⟩ : ∃ q1, q1 = q2 ++ Re.flat l (pre.map Subtype.val) := ⟨_, rfl⟩
        obtain ⟨m1, hm1⟩ : ∃ m1, m1 = q1.length := ⟨_, rfl⟩
        rw [← hq1, ← hm1] at hrow1
        have hmb1 : m1 ≤ 40000 := by rw [hm1, hq1, List.length_append]; omega
        have HR1 : Hid (OwnT X (w.heap.size + 1) v1 m1 q1) := hrow1
        have HV1 : Hid (Boxed X w.heap.size 22 v1) := hv1
        have HP1 : Hid (∀ j, v1.ownBlock = some j → P j ∨ wc.heap.size + 3 ≤ j) := hP1
        have HX : Hid (X.heap[Bx]? = some (.cells #[.slice (some ⟨b, off + i, none⟩) z (cap' - i), .bool ag] 47 (0, 0))) := hbx
        have hBA : Bx ≠ w.heap.size := by omega
        have hAX : w.heap.size + 1 ≤ X.heap.size := by omega
        have hck : 1 ≤ cap' - i := by omega
        have hzck : z ≤ cap' - i := by omega
        have c0 := cell_two0 hbx
        have hvc := hv1.cell
        have hvf := hv1.frozen
        have hil : i < l.length := by rw [← HML.out]; omega
        obtain ⟨y, hy⟩ : ∃ y, y = (l[i]).toNat := ⟨_, rfl⟩
        have hfi := Rt.fit_at HFT.out i hil
        have e256 : ((256 ^ 1 : Nat) : Int) = 256 := by decide
        rw [e256] at hfi
        have hyl : l[i] = (y : Int) := by rw [hy]; omega
        have hyb : y < 256 := by omega
        have cy : X.cell? ⟨b, off + i, none⟩ = some (.int .i64 (y : Int)) := by
          have h1 := (HLI.out X hbelX hsX).2 i hil
          rw [h1, hyl]
        obtain ⟨u, hu⟩ : ∃ u, u = (UInt8.ofNat z).toNat := ⟨_, rfl⟩
        have e2 : IntKind.u8.wrap (z : Int) = (u : Int) := by rw [hu]; simp [IntKind.wrap, IntKind.bits, IntKind.signed]
        have e3 : IntKind.u8.wrap (y : Int) = (y : Int) := by simp [IntKind.wrap, IntKind.bits, IntKind.signed]; omega
        have HU : Hid (u8V [UInt8.ofNat z, UInt8.ofNat y] = [.int .u8 (u : Int), .int .u8 (y : Int)]) := by
          show _ = _
          rw [hu]; simp [u8V]; omega
        have HQ1 : Hid (q1 ++ [UInt8.ofNat z, UInt8.ofNat y] = q2 ++ Re.flat l (pre.map Subtype.val) ++ Re.piece l (i, z, ag)) := by
          show _ = _
          rw [hq1]
          unfold Re.piece
          rw [show l.getD i 0 = l[i] by rw [List.getD_eq_getElem?_getD, List.getElem?_eq_getElem hil]; rfl, ← hy]
        have SA0 : (X.drew.alloc (.cells #[.int .u8 (u : Int), .int .u8 (y : Int)] 5)).cell? ⟨Bx, 0, none⟩ = some (.slice (some ⟨b, off + i, none⟩) z (cap' - i)) := (World.cell?_alloc_some X _ _ (by rw [c0]; rfl)).trans c0
        have SA1 : (X.drew.alloc (.cells #[.int .u8 (u : Int), .int .u8 (y : Int)] 5)).cell? ⟨b, off + i, none⟩ = some (.int .i64 (y : Int)) := (World.cell?_alloc_some X _ _ (by rw [cy]; rfl)).trans cy
        have hzc : 0 < z := by omega
        clear hrow1 hv1 hbx hfl hpl hm1 hq1 HS HH HB0 HBx HRx hrr hy hyl hfi hu hil e256 HQ2 HQ HBw HC HPN hmkX hP1 hpl2
        gi_wp2
        refine round_region_held (S := fun w' => w'.cell? ⟨Bx, 0, none⟩ = some (.slice (some ⟨b, off + i, none⟩) z (cap' - i)) ∧ w'.cell? ⟨b, off + i, none⟩ = some (.int .i64 (y : Int))) (by kernel_rfl) (fun _ _ h => h) (by kernel_rfl) ⟨c0, cy⟩ (fun _ => ?_)
        refine wpAnyH_take (i := 1) (v := .pointer (some ⟨Bx, 0, none⟩)) rfl (by kernel_rfl) (by kernel_rfl) (by kernel_rfl) (fun _ _ _ h => h) (Or.inl ⟨by rfl, ?_⟩) ⟨c0, cy⟩ ?_
        · rintro w' ⟨s1, s2⟩
          go_simp
        try simp only [Act.put, List.setIfInBounds_toArray, List.set_cons_zero, List.set_cons_succ]
        refine wpAnyH_take (i := 2) (v := .slice (some ⟨b, off + i, none⟩) z (cap' - i)) rfl (by kernel_rfl) (by kernel_rfl) (by kernel_rfl) (fun _ _ _ h => h) (Or.inl ⟨by rfl, ?_⟩) ⟨c0, cy⟩ ?_
        · rintro w' ⟨s1, s2⟩
          go_simp
        try simp only [Act.put, List.setIfInBounds_toArray, List.set_cons_zero, List.set_cons_succ]
        refine wpAnyH_take (i := 3) (v := .int .i64 (z : Int)) rfl (by kernel_rfl) (by kernel_rfl) (by kernel_rfl) (fun _ _ _ h => h) (Or.inl ⟨by rfl, ?_⟩) ⟨c0, cy⟩ ?_
        · rintro w' ⟨s1, s2⟩
          go_simp
        try simp only [Act.put, List.setIfInBounds_toArray, List.set_cons_zero, List.set_cons_succ]
        refine wpAnyH_take (i := 4) (v := .int .u8 (u : Int)) rfl (by kernel_rfl) (by kernel_rfl) (by kernel_rfl) (fun _ _ _ h => h) (Or.inl ⟨by rfl, ?_⟩) ⟨c0, cy⟩ ?_
        · rintro w' ⟨s1, s2⟩
          go_simp
        try simp only [Act.put, List.setIfInBounds_toArray, List.set_cons_zero, List.set_cons_succ]
        refine wpAnyH_take (i := 5) (v := .pointer (some ⟨Bx, 0, none⟩)) rfl (by kernel_rfl) (by kernel_rfl) (by kernel_rfl) (fun _ _ _ h => h) (Or.inl ⟨by rfl, ?_⟩) ⟨c0, cy⟩ ?_
        · rintro w' ⟨s1, s2⟩
          go_simp
        try simp only [Act.put, List.setIfInBounds_toArray, List.set_cons_zero, List.set_cons_succ]
        refine wpAnyH_take (i := 6) (v := .slice (some ⟨b, off + i, none⟩) z (cap' - i)) rfl (by kernel_rfl) (by kernel_rfl) (by kernel_rfl) (fun _ _ _ h => h) (Or.inl ⟨by rfl, ?_⟩) ⟨c0, cy⟩ ?_
        · rintro w' ⟨s1, s2⟩
          go_simp
        try simp only [Act.put, List.setIfInBounds_toArray, List.set_cons_zero, List.set_cons_succ]
        refine wpAnyH_take (i := 7) (v := .pointer (some ⟨b, off + i, none⟩)) rfl (by kernel_rfl) (by kernel_rfl) (by kernel_rfl) (fun _ _ _ h => h) (Or.inl ⟨by rfl, ?_⟩) ⟨c0, cy⟩ ?_
        · rintro w' ⟨s1, s2⟩
          go_simp
        try simp only [Act.put, List.setIfInBounds_toArray, List.set_cons_zero, List.set_cons_succ]
        refine wpAnyH_take (i := 8) (v := .int .i64 (y : Int)) rfl (by kernel_rfl) (by kernel_rfl) (by kernel_rfl) (fun _ _ _ h => h) (Or.inl ⟨by rfl, ?_⟩) ⟨c0, cy⟩ ?_
        · rintro w' ⟨s1, s2⟩
          go_simp
        try simp only [Act.put, List.setIfInBounds_toArray, List.set_cons_zero, List.set_cons_succ]
        refine wpAnyH_take (i := 9) (v := .int .u8 (y : Int)) rfl (by kernel_rfl) (by kernel_rfl) (by kernel_rfl) (fun _ _ _ h => h) (Or.inl ⟨by rfl, ?_⟩) ⟨c0, cy⟩ ?_
        · rintro w' ⟨s1, s2⟩
          go_simp
        try simp only [Act.put, List.setIfInBounds_toArray, List.set_cons_zero, List.set_cons_succ]
        refine wpAnyH_ready (rs := [0, 10]) (by kernel_rfl) (by simp) ?_
        refine AllReadyH.cons rfl (fun K hK => ?_) (AllReadyH.cons rfl (fun K hK => ?_) AllReadyH.nil)
        · go_simp
          refine hK.out _ _ ⟨c0, cy⟩ (fun _ => ?_)
          clear hK K
          try simp only [Act.put, List.setIfInBounds_toArray, List.set_cons_zero, List.set_cons_succ]
          refine wpAnyH_ready (rs := [10]) (by kernel_rfl) (by simp) ?_
          refine AllReadyH.cons rfl (fun K hK => ?_) AllReadyH.nil
          go_simp
          refine hK.out _ _ ⟨SA0, SA1⟩ (fun _ => ?_)
          clear hK K
          try simp only [Act.put, List.setIfInBounds_toArray, List.set_cons_zero, List.set_cons_succ]
          refine wpAnyH_ready (rs := [11]) (by kernel_rfl) (by simp) ?_
          refine AllReadyH.cons rfl (fun K hK => ?_) AllReadyH.nil
          refine step_append_lies _ (by rfl) _ _ _ (by rfl) (w.heap.size + 1) 5 i0 (.int .u8 0) 1 1 Try.underlying22 hi0 hz0 hz1 hz2 rfl (by decide) v1 m1 (u8V q1) (by rfl) (World.ownsRow.alloc (show World.ownsRow _ _ _ _ _ _ _ from HR1.out) _) ⟨X.heap.size, 0, none⟩ 2 2 [.int .u8 (u : Int), .int .u8 (y : Int)] (by rfl) rfl (World.news_of_block (heap_alloc_new _ _)) (fun x hx => by simp at hx; rcases hx with rfl | rfl <;> rfl) (by decide) (by unfold maxLen; omega) (by omega) (Nat.le_trans hAX (by simp)) _ rfl ?_
          intro g cap4 w4 hown4 hg4 hg5 _
          have hW4 : WentP P w.heap.size (wc.heap.size + 3) 47 X w4 := (((WentP.refl _ _ _ _ X).drew.alloc (X := X.drew) hsX (show w.heap.size ≤ X.heap.size by omega) (.cells #[.int .u8 (u : Int), .int .u8 (y : Int)] 5))).append (World.ownsRow.alloc (show World.ownsRow _ _ _ _ _ _ _ from HR1.out) _) HP1.out (by decide) hg4 (Nat.le_trans hsX (by simp)) (by omega) (by simp; omega)
          have hvA' : Boxed (X.alloc (.cells #[.int .u8 (u : Int), .int .u8 (y : Int)] 5)).drew w.heap.size 22 v1 := HV1.out.alloc (.cells #[.int .u8 (u : Int), .int .u8 (y : Int)] 5)
          have hv4 : Boxed w4 w.heap.size 22 v1 := hvA'.kept hg4 (Boxed.not_row hvA' (by decide) (World.ownsRow.alloc (show World.ownsRow _ _ _ _ _ _ _ from HR1.out) _))
          have hx4 := hW4.bx _ _ _ HX.out
          have hown5 : OwnT w4 (w.heap.size + 1) (.slice (some ⟨g, 0, none⟩) (m1 + 2) cap4) (m1 + 2) (q1 ++ [UInt8.ofNat z, UInt8.ofNat y]) := by
            unfold OwnT
            rw [← u8V_append, HU.out]
            exact hown4
          have hP4 : ∀ j, (Value.slice (some ⟨g, 0, none⟩) (m1 + 2) cap4).ownBlock = some j → P j ∨ wc.heap.size + 3 ≤ j := fun j hj => by
            simp [Value.ownBlock] at hj
            subst hj
            rcases hg5 with hg5 | hg5
            · exact HP1.out _ hg5
            · right; rw [hg5]; simp; omega
          have c0' := cell_two0 hx4
          have cy' : w4.cell? ⟨b, off + i, none⟩ = some (.int .i64 (y : Int)) := (World.cell?_of_block (w := X) (a := ⟨b, off + i, none⟩) (hW4.bs.2 b hbn HPB.out)).trans cy
          refine hK.out _ _ ⟨c0', cy'⟩ (fun _ => ?_)
          clear hK K
          try simp only [Act.put, List.setIfInBounds_toArray, List.set_cons_zero, List.set_cons_succ]
          refine wpAnyH_ready (rs := [12]) (by kernel_rfl) (by simp) ?_
          refine AllReadyH.cons rfl (fun K hK => ?_) AllReadyH.nil
          have hv4c := hv4.cell
          have hv4f := hv4.frozen
          go_simp
          refine hK.out _ _ ⟨(World.cell?_setCell_other _ _ _ _ (fun e => hBA (congrArg Addr.block e).symm)).trans c0', (World.cell?_setCell_other _ _ _ _ (fun e => hbA (congrArg Addr.block e).symm)).trans cy'⟩ (fun _ => ?_)
          clear hK K
          try simp only [Act.put, List.setIfInBounds_toArray, List.set_cons_zero, List.set_cons_succ]
          refine wpAnyH_done (by kernel_rfl) ?_ _
          exact re_end HI.out (hW4.store hv4 HPA.out (by decide) _) (hv4.set _) (World.ownsRow.kept (show World.ownsRow _ _ _ _ _ _ _ from hown5) (grownBy_setCell' w4 w.heap.size _) (.inr (hv4.not_row (by decide) (show World.ownsRow _ _ _ _ _ _ _ from hown5)).symm)) hP4 HQ1.out _
        · go_simp
          refine hK.out _ _ ⟨SA0, SA1⟩ (fun _ => ?_)
          clear hK K
          try simp only [Act.put, List.setIfInBounds_toArray, List.set_cons_zero, List.set_cons_succ]
          refine wpAnyH_ready (rs := [0]) (by kernel_rfl) (by simp) ?_
          refine AllReadyH.cons rfl (fun K hK => ?_) AllReadyH.nil
          have hvA : (X.alloc (.cells #[.int .u8 (u : Int), .int .u8 (y : Int)] 5)).cell? ⟨w.heap.size, 0, none⟩ = some v1 := (HV1.out.alloc (.cells #[.int .u8 (u : Int), .int .u8 (y : Int)] 5)).cell
          go_simp
          refine hK.out _ _ ⟨SA0, SA1⟩ (fun _ => ?_)
          clear hK K
          try simp only [Act.put, List.setIfInBounds_toArray, List.set_cons_zero, List.set_cons_succ]
          refine wpAnyH_ready (rs := [11]) (by kernel_rfl) (by simp) ?_
          refine AllReadyH.cons rfl (fun K hK => ?_) AllReadyH.nil
          refine step_append_lies _ (by rfl) _ _ _ (by rfl) (w.heap.size + 1) 5 i0 (.int .u8 0) 1 1 Try.underlying22 hi0 hz0 hz1 hz2 rfl (by decide) v1 m1 (u8V q1) (by rfl) (World.ownsRow.alloc (show World.ownsRow _ _ _ _ _ _ _ from HR1.out) _) ⟨X.heap.size, 0, none⟩ 2 2 [.int .u8 (u : Int), .int .u8 (y : Int)] (by rfl) rfl (World.news_of_block (heap_alloc_new _ _)) (fun x hx => by simp at hx; rcases hx with rfl | rfl <;> rfl) (by decide) (by unfold maxLen; omega) (by omega) (Nat.le_trans hAX (by simp)) _ rfl ?_
          intro g cap4 w4 hown4 hg4 hg5 _
          have hW4 : WentP P w.heap.size (wc.heap.size + 3) 47 X w4 := (((WentP.refl _ _ _ _ X).drew.alloc (X := X.drew) hsX (show w.heap.size ≤ X.heap.size by omega) (.cells #[.int .u8 (u : Int), .int .u8 (y : Int)] 5))).append (World.ownsRow.alloc (show World.ownsRow _ _ _ _ _ _ _ from HR1.out) _) HP1.out (by decide) hg4 (Nat.le_trans hsX (by simp)) (by omega) (by simp; omega)
          have hvA' : Boxed (X.alloc (.cells #[.int .u8 (u : Int), .int .u8 (y : Int)] 5)).drew w.heap.size 22 v1 := HV1.out.alloc (.cells #[.int .u8 (u : Int), .int .u8 (y : Int)] 5)
          have hv4 : Boxed w4 w.heap.size 22 v1 := hvA'.kept hg4 (Boxed.not_row hvA' (by decide) (World.ownsRow.alloc (show World.ownsRow _ _ _ _ _ _ _ from HR1.out) _))
          have hx4 := hW4.bx _ _ _ HX.out
          have hown5 : OwnT w4 (w.heap.size + 1) (.slice (some ⟨g, 0, none⟩) (m1 + 2) cap4) (m1 + 2) (q1 ++ [UInt8.ofNat z, UInt8.ofNat y]) := by
            unfold OwnT
            rw [← u8V_append, HU.out]
            exact hown4
          have hP4 : ∀ j, (Value.slice (some ⟨g, 0, none⟩) (m1 + 2) cap4).ownBlock = some j → P j ∨ wc.heap.size + 3 ≤ j := fun j hj => by
            simp [Value.ownBlock] at hj
            subst hj
            rcases hg5 with hg5 | hg5
            · exact HP1.out _ hg5
            · right; rw [hg5]; simp; omega
          have c0' := cell_two0 hx4
          have cy' : w4.cell? ⟨b, off + i, none⟩ = some (.int .i64 (y : Int)) := (World.cell?_of_block (w := X) (a := ⟨b, off + i, none⟩) (hW4.bs.2 b hbn HPB.out)).trans cy
          refine hK.out _ _ ⟨c0', cy'⟩ (fun _ => ?_)
          clear hK K
          try simp only [Act.put, List.setIfInBounds_toArray, List.set_cons_zero, List.set_cons_succ]
          refine wpAnyH_ready (rs := [12]) (by kernel_rfl) (by simp) ?_
          refine AllReadyH.cons rfl (fun K hK => ?_) AllReadyH.nil
          have hv4c := hv4.cell
          have hv4f := hv4.frozen
          go_simp
          refine hK.out _ _ ⟨(World.cell?_setCell_other _ _ _ _ (fun e => hBA (congrArg Addr.block e).symm)).trans c0', (World.cell?_setCell_other _ _ _ _ (fun e => hbA (congrArg Addr.block e).symm)).trans cy'⟩ (fun _ => ?_)
          clear hK K
          try simp only [Act.put, List.setIfInBounds_toArray, List.set_cons_zero, List.set_cons_succ]
          refine wpAnyH_done (by kernel_rfl) ?_ _
          exact re_end HI.out (hW4.store hv4 HPA.out (by decide) _) (hv4.set _) (World.ownsRow.kept (show World.ownsRow _ _ _ _ _ _ _ from hown5) (grownBy_setCell' w4 w.heap.size _) (.inr (hv4.not_row (by decide) (show World.ownsRow _ _ _ _ _ _ _ from hown5)).symm)) hP4 HQ1.out _
      case done =>
        rintro D ys X hD hys ⟨⟨v1, hv1, hrow1, hP1⟩, hbelX, hsX, hmkX⟩ hK
        rw [hys] at hrow1
        have HQN : Hid (q2 ++ Re.flat l (Rn.from_ 1 255 l 0) = Re.part (ls.take (k + 1)) ∧ ∀ l ∈ ls.take (k + 1), Re.okRow l = true) := by
          refine ⟨?_, fun r hr => ?_⟩
          · rw [HQ2.out, HQ.out.1, ← Re.part_step hkl, HN.out, ← HLK.out]; rfl
          · rw [List.take_succ_eq_append_getElem hkl, List.mem_append, List.mem_singleton] at hr
            rcases hr with hr | hr
            · exact HQ.out.2 r hr
            · rw [hr, ← HLK.out]; exact HOK.out
        have HSN : Hid (ReSt w (D :: Ds) (q2 ++ Re.flat l (Rn.from_ 1 255 l 0)) X) := ⟨⟨v1, hv1, hrow1⟩, hbelX, by omega, hmkX.cons (by rw [HZ.out] at hD; exact hD) (by rw [HZ.out] at hD; omega) hK (lt_of_at hK)⟩
        have hk62 : k < 1000 := by omega
        clear HS HC hv1 hrow1 hP1 hmkX
        gi_wp2
        refine ⟨⟨k + 1, D :: Ds, _, ⟨by omega, HQN, HSN⟩, _, _, _, _, _, _, _, _, _, _, _, _, _, _, _, _, _, _, _, _, _, _, _, _, _, _, _, _, _, _, _, _, _, _, _, _, _, _, _, _, rfl⟩, ?_⟩
        simp [intOf]
        omega
      case stop =>
        rintro D c pre X _ _ h _
        exact h.elim
end Go.Proofs.Ytlpfedhehfbfeaa
