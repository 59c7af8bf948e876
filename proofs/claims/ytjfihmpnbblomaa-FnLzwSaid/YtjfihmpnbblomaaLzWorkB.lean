/- All numbers of a text are read: the work inside lzwRead[byte]. -/
import Derived.Test.YtjfihmpnbblomaaLzKeep
namespace Go.Proofs.Ytjfihmpnbblomaa
open Go.RowKit

/-- what was kept -/
def LzKeptB (w wr : World) (B KB g0 : Nat) (dn : List (Nat × ByteArray)) : Prop :=
  ∃ kv, Boxed wr KB 22 kv ∧ KpB wr w.heap.size kv dn ∧ LzF B KB g0 w wr
/-- how far it is -/
structure LzGoesB (w wr : World) (B b : Nat) (wide : Bool) (s : ByteArray) (KB g0 lo : Nat) (Rs : Except Int (List (Nat × ByteArray))) (dn : List (Nat × ByteArray)) (kv : Value) (p : Nat) (l : List ByteArray) (last : ByteArray) (left g n cap f : Nat) : Prop where
  rdr : LzR wr B b wide s p (.slice (some ⟨g, 0, none⟩) n cap) last left
  own : OwnL wr lo (.slice (some ⟨g, 0, none⟩) n cap) n l
  gB : g ≠ B
  gg : g = g0 ∨ w.heap.size ≤ g
  cap_ : n ≤ cap
  good : Lz.Good b l last
  left_ : left ≤ 5000
  p_ : p ≤ 8 * s.size
  f_ : 8 * s.size + 1 ≤ p + f
  d_ : dn.length ≤ p
  z_ : (textsOf dn).length + left ≤ 5000
  rs : Rs = (Lz.go s b wide f p l last left).map (dn ++ ·)
  box : Boxed wr KB 22 kv
  kept : KpB wr w.heap.size kv dn
  frame : LzF B KB g0 w wr
def LzInvB (w : World) (B b : Nat) (wide : Bool) (s : ByteArray) (KB g0 lo : Nat) (Rs : Except Int (List (Nat × ByteArray))) (e : Value) (wr : World) : Prop :=
  (e = .bool true ∧ ∃ dn, Rs = .ok dn ∧ LzKeptB w wr B KB g0 dn) ∨
  (e = .bool false ∧ ∃ dn kv p l last left g n cap f, LzGoesB w wr B b wide s KB g0 lo Rs dn kv p l last left g n cap f)
def lzMeasB (B z : Nat) (e : Value) (wr : World) : Nat :=
  match e with
  | .bool true => 0
  | _ => match wr.cell? ⟨B, 4, none⟩ with
    | some (.int _ p) => 8 * z + 1 - p.toNat
    | _ => 0

/-- how the work ends -/
def LzWkB (w : World) (B KB g0 : Nat) (Rs : Except Int (List (Nat × ByteArray))) (e : Ending) (w' : World) : Prop :=
  ((∃ v, e = .returned v) ∧ ∃ dn, Rs = .ok dn ∧ LzKeptB w w' B KB g0 dn) ∨ ∃ c, e = fault c ∧ c ≠ 0 ∧ Rs = .error c ∧ LzF B KB g0 w w'

theorem map_moreB (X : Except Int (List (Nat × ByteArray))) (dn : List (Nat × ByteArray)) (z : Nat × ByteArray) : (X.map (z :: ·)).map (dn ++ ·) = X.map ((dn ++ [z]) ++ ·) := by
  cases X <;> simp [Except.map]

set_option linter.unusedSimpArgs false in
set_option maxHeartbeats 4000000 in
set_option maxRecDepth 20000 in
theorem lzWorkB (IB FB KB B b lo g0 n0 cap0 limit : Nat) (wide : Bool) (s : ByteArray) (Rs : Except Int (List (Nat × ByteArray))) (w : World)
    (hIB : Boxed w IB 79 (.pointer (some ⟨B, 0, none⟩))) (hFB : Boxed w FB 46 (.func (.func 29) #[] #[])) (hKB : Boxed w KB 22 (.slice none 0 0))
    (h : LzR w B b wide s 0 (.slice (some ⟨g0, 0, none⟩) n0 cap0) ⟨#[]⟩ limit) (ho : OwnL w lo (.slice (some ⟨g0, 0, none⟩) n0 cap0) n0 (Lz.start b)) (hb : b ≤ 8) (hsz : s.size ≤ 9000) (hlim : limit ≤ 5000)
    (hRs : Rs = Lz.go s b wide (8 * s.size + 1) 0 (Lz.start b) ⟨#[]⟩ limit)
    (d1 : IB ≠ B) (d2 : IB ≠ KB) (d3 : IB ≠ g0) (d4 : FB ≠ B) (d5 : FB ≠ KB) (d6 : FB ≠ g0) (d7 : g0 ≠ B) (d8 : KB ≠ B) (d9 : KB ≠ g0) (hlo : lo ≤ w.heap.size) :
    Calls Try.prog 52 #[.pointer (some ⟨IB, 0, none⟩), .pointer (some ⟨FB, 0, none⟩), .pointer (some ⟨KB, 0, none⟩)] w (LzWkB w B KB g0 Rs) := by
  have start : LzInvB w B b wide s KB g0 lo Rs (.bool false) w := .inr ⟨rfl, [], .slice none 0 0, 0, Lz.start b, ⟨#[]⟩, limit, g0, n0, cap0, 8 * s.size + 1,
    { rdr := h, own := ho, gB := d7, gg := .inl rfl, cap_ := own_capL ho, good := Lz.good_start hb, left_ := hlim, p_ := by omega, f_ := by omega, d_ := by simp, z_ := by simp [textsOf]; omega, rs := by rw [hRs]; cases Lz.go s b wide (8 * s.size + 1) 0 (Lz.start b) ⟨#[]⟩ limit <;> simp [Except.map], box := hKB, kept := kpB_nil w _, frame := LzF.refl _ _ _ _ }⟩
  have HST : Hid (LzInvB w B b wide s KB g0 lo Rs (.bool false) w) := start
  have HK : Hid (Boxed w IB 79 (.pointer (some ⟨B, 0, none⟩)) ∧ Boxed w FB 46 (.func (.func 29) #[] #[]) ∧ Boxed w KB 22 (.slice none 0 0) ∧ B < w.heap.size) := ⟨hIB, hFB, hKB, h.lt⟩
  have HEN : Hid (∀ w', Calls Try.prog 42 #[.agg #[.int .i64 (b : Int), .bool wide]] w' fun e w'' => e = .returned (.int .i64 ((2 ^ b + 1 : Nat) : Int)) ∧ Below w'.heap.size w' w'') := fun w' => lzEnd_any b hb wide w'
  clear hIB hFB hKB h ho start hRs
  go_enter Try.func52, Try.ntmps52
  go_wp2_with fail
  go_loopw [3] (fun e wr => LzInvB w B b wide s KB g0 lo Rs e wr) (fun e wr => lzMeasB B s.size e wr)
  case atStart => exact HST.out
  case round =>
    clear HST
    rcases hrel with ⟨rfl, dn, hR, hK⟩ | ⟨rfl, dn, kv, p, l, last, left, g, n, cap, f, hG⟩
    · have HFIN : Hid (LzWkB w B KB g0 Rs (.returned (.tuple #[])) wr) := .inl ⟨⟨_, rfl⟩, dn, hR, hK⟩
      clear hR hK
      go_wp2_with fail
      go_end0
      exact HFIN.out
    · have HGO : Hid (LzGoesB w wr B b wide s KB g0 lo Rs dn kv p l last left g n cap f) := hG
      clear hG
      have hms : lzMeasB B s.size (.bool false) wr = 8 * s.size + 1 - p := by
        unfold lzMeasB
        rw [HGO.out.rdr.rd.c2]
        simp
      have HMS : Hid (lzMeasB B s.size (.bool false) wr = 8 * s.size + 1 - p) := hms
      clear hms
      have hp := HGO.out.p_
      have hdl := HGO.out.d_
      have hzl := HGO.out.z_
      have ci := (HGO.out.frame.box HK.out.1 d1 d2 d3).cell
      go_wp2_with fail
      refine (lzTake_any B b p left lo n g cap wide s last l wr hb hsz hp HGO.out.rdr HGO.out.own HGO.out.gB (Nat.le_trans hlo HGO.out.frame.size) HGO.out.cap_ HGO.out.good HGO.out.left_).mono ?_
      rintro e w1 (⟨c, hc0, hst, rfl, hg1⟩ | ⟨v, t, l2, last2, left2, hst, rfl, hpN, hgood2, hleft2, hln⟩)
      · have HFIN : Hid (LzWkB w B KB g0 Rs (fault c) w1) := .inr ⟨c, rfl, hc0, by
          obtain ⟨f', rfl⟩ : ∃ f', f = f' + 1 := ⟨f - 1, by have := HGO.out.f_; omega⟩
          rw [HGO.out.rs, Lz.go_err hst]; rfl, HGO.out.frame.take hg1 HGO.out.gg⟩
        clear hst hg1 HGO ci
        unfold fault
        go_wp2_with fail
        exact ⟨rfl, HFIN.out⟩
      · have HSTP : Hid (Lz.step s b wide p l last left = .ok (v, t, l2, last2, left2) ∧ p + Lz.width b wide l.length ≤ 8 * s.size ∧ Lz.Good b l2 last2 ∧ left2 ≤ 5000) := ⟨hst, hpN, hgood2, hleft2⟩
        have hlf := Lz.step_left hst
        obtain ⟨g2, n2, cap2, hg2B, hcap2, hr2, ho2, hg2⟩ := hln
        have HR2 : Hid (LzR w1 B b wide s (p + Lz.width b wide l.length) (.slice (some ⟨g2, 0, none⟩) n2 cap2) last2 left2) := hr2
        have HO2 : Hid (OwnL w1 lo (.slice (some ⟨g2, 0, none⟩) n2 cap2) n2 l2) := ho2
        have HF1 : Hid (LzF B KB g0 w w1) := HGO.out.frame.take hg2 HGO.out.gg
        have hKBg : KB ≠ g := fun e => by
          rcases HGO.out.gg with e2 | e2
          · exact d9 (e.trans e2)
          · have := HK.out.2.2.1.lt; omega
        have hgk : kv.ownBlock ≠ some g := HGO.out.kept.apart HGO.out.own
        have HKB1 : Hid (Boxed w1 KB 22 kv) := (hg2.block KB HGO.out.box.lt d8 (fun e => hKBg (by cases e; rfl))).trans HGO.out.box
        have HKV1 : Hid (KpB w1 w.heap.size kv dn) := HGO.out.kept.besides (fun k hk => hg2.block k (HGO.out.kept.lt k hk).2 (fun e => by have := (HGO.out.kept.lt k hk).1; have := HK.out.2.2.2; omega) (fun e => hgk (by rw [hk, e]; rfl)))
        have HGG2 : Hid (g2 = g0 ∨ w.heap.size ≤ g2) := by
          rcases hg2.at_ with e2 | e2
          · have e3 : g2 = g := by cases e2; rfl
            rw [e3]; exact HGO.out.gg
          · exact .inr (Nat.le_trans HGO.out.frame.size (e2 g2 rfl))
        have cf := (HF1.out.box HK.out.2.1 d4 d5 d6).cell
        have ck := HKB1.out.cell
        have kf := HKB1.out.frozen
        have hs1 : w.heap.size ≤ w1.heap.size := HF1.out.size
        clear hst hpN hgood2 hleft2 hr2 ho2 hg2 ci hgk
        have HNEW : Hid (∀ k, kv.ownBlock = some k → w.heap.size ≤ k) := fun k hk => (HKV1.out.lt k hk).1
        have hKBw := HK.out.2.2.1.lt
        have hBw := HK.out.2.2.2
        have hg2w := (HO2.out.lt g2 rfl).2
        have hgk2 : kv.ownBlock ≠ some g2 := HKV1.out.apart HO2.out
        have hg2K : g2 ≠ KB := fun e => by
          rcases HGG2.out with e2 | e2
          · exact d9 (e.symm.trans e2)
          · omega
        go_wp2_with fail
        refine (lzKeepB w.heap.size kv dn v t w1 HKV1.out (by omega) (by omega) hs1).mono ?_
        rintro e w2 ⟨ao, M, cap3, rfl, ho3, hg3⟩
        have hw12 := hg3.size
        have hKB2 : Boxed w2 KB 22 kv := (hg3.block KB (by have := HF1.out.size; omega) (fun e => by have := HNEW.out KB e.symm; omega)).trans HKB1.out
        have ck2 := hKB2.cell
        have kf2 := hKB2.frozen
        obtain ⟨W3, hW3⟩ : ∃ W3, W3 = w2.setCell ⟨KB, 0, none⟩ (.slice ao M cap3) := ⟨_, rfl⟩
        have hoth : ∀ k, k ≠ KB → W3.heap[k]? = w2.heap[k]? := fun k hk => by rw [hW3]; exact Below.heap_setCell w2 ⟨KB, 0, none⟩ _ k hk
        have HF3 : Hid (LzF B KB g0 w W3) := by show LzF _ _ _ _ _; rw [hW3]; exact (HF1.out.keep hg3 HNEW.out).set _
        have HR3 : Hid (LzR W3 B b wide s (p + Lz.width b wide l.length) (.slice (some ⟨g2, 0, none⟩) n2 cap2) last2 left2) := HR2.out.same ((hoth B (Ne.symm d8)).trans (hg3.block B HR2.out.lt (fun e => by have := HNEW.out B e.symm; omega)))
        have HO3 : Hid (OwnL W3 lo (.slice (some ⟨g2, 0, none⟩) n2 cap2) n2 l2) := HO2.out.kept (fun k hk => by
          have e : k = g2 := by cases hk; rfl
          subst e
          exact (hoth k hg2K).trans (hg3.block k hg2w (fun e => hgk2 e.symm)))
        have HKB3 : Hid (Boxed W3 KB 22 (.slice ao M cap3)) := by show Boxed _ _ _ _; rw [hW3]; exact hKB2.set _
        have HKV3 : Hid (KpB W3 w.heap.size (.slice ao M cap3) (dn ++ [(v, t)])) := ho3.besides (fun k hk => hoth k (fun e => by have := (ho3.lt k hk).1; omega))
        have ci3 := (HF3.out.box HK.out.1 d1 d2 d3).cell
        have c30 := HR3.out.c0
        have c31 := HR3.out.c1
        clear ho3 hg3 hoth hKB2 HF1 HR2 HO2 HKB1 HKV1 cf ck kf hs1 hg2w
        have HW3 : Hid (w2.setCell ⟨KB, 0, none⟩ (.slice ao M cap3) = W3) := hW3.symm
        rw [hW3] at ci3 c30 c31
        clear hW3
        go_wp2_with fail
        refine (HEN.out _).mono ?_
        rintro e w4 ⟨rfl, b4⟩
        rw [HW3.out] at b4
        have hdn : (dn ++ [(v, t)]).length = dn.length + 1 := by rw [List.length_append]; rfl
        have hzn := textsOf_more dn v t
        have hNb := Lz.width_bd hb wide l.length
        have HBX : Hid (Boxed w4 KB 22 (.slice ao M cap3)) := (b4.block KB HKB3.out.lt).trans HKB3.out
        have HKV4 : Hid (KpB w4 w.heap.size (.slice ao M cap3) (dn ++ [(v, t)])) := HKV3.out.besides (fun k hk => b4.block k (HKV3.out.lt k hk).2)
        have HF4 : Hid (LzF B KB g0 w w4) := HF3.out.below b4
        have HR4 : Hid (LzR w4 B b wide s (p + Lz.width b wide l.length) (.slice (some ⟨g2, 0, none⟩) n2 cap2) last2 left2) := HR3.out.kept b4
        have HO4 : Hid (OwnL w4 lo (.slice (some ⟨g2, 0, none⟩) n2 cap2) n2 l2) := HO3.out.up b4
        have HDN : Hid ((dn ++ [(v, t)]).length = dn.length + 1 ∧ (textsOf (dn ++ [(v, t)])).length = (textsOf dn).length + t.size) := ⟨hdn, hzn⟩
        clear b4 HF3 HR3 HO3 HKB3 HKV3 ci3 c30 c31 HW3 ck2 kf2 hdn hzn
        obtain ⟨f', hf'⟩ : ∃ f', f = f' + 1 := ⟨f - 1, by have := HGO.out.f_; omega⟩
        by_cases hve : v = 2 ^ b + 1
        · have HEND : Hid (LzInvB w B b wide s KB g0 lo Rs (.bool true) w4) := .inl ⟨rfl, dn ++ [(v, t)], by rw [HGO.out.rs, hf', Lz.go_end HSTP.out.1 hve]; rfl, _, HBX.out, HKV4.out, HF4.out⟩
          have hbe : ((v : Int) == ((2 ^ b + 1 : Nat) : Int)) = true := by rw [hve]; simp
          generalize 2 ^ b + 1 = E at *
          clear HEN HBX HKV4 HF4 HR4 HO4 HSTP HGO hve hf' HDN hlf
          go_wp2_with fail
          go_roundw
          case rel => first | exact HEND.out | (rw [hbe]; exact HEND.out)
          case measure =>
            have h1 := HMS.out
            have h2 : lzMeasB B s.size (.bool true) w4 = 0 := rfl
            first | omega | (rw [hbe, h1, h2]; omega)
        · have HGO2 : Hid (LzInvB w B b wide s KB g0 lo Rs (.bool false) w4) := .inr ⟨rfl, dn ++ [(v, t)], _, _, l2, last2, left2, g2, n2, cap2, f',
            { rdr := HR4.out, own := HO4.out, gB := hg2B, gg := HGG2.out, cap_ := hcap2, good := HSTP.out.2.2.1, left_ := HSTP.out.2.2.2, p_ := HSTP.out.2.1, f_ := by have := HGO.out.f_; omega, d_ := by rw [HDN.out.1]; omega, z_ := by rw [HDN.out.2]; omega, rs := by rw [HGO.out.rs, hf', Lz.go_on HSTP.out.1 hve, map_moreB], box := HBX.out, kept := HKV4.out, frame := HF4.out }⟩
          have hms4 : lzMeasB B s.size (.bool false) w4 = 8 * s.size + 1 - (p + Lz.width b wide l.length) := by
            unfold lzMeasB
            rw [HR4.out.rd.c2]
            rfl
          have HMS4 : Hid (lzMeasB B s.size (.bool false) w4 = 8 * s.size + 1 - (p + Lz.width b wide l.length)) := hms4
          have hbe : ((v : Int) == ((2 ^ b + 1 : Nat) : Int)) = false := by rw [beq_eq_false_iff_ne]; omega
          have hpN := HSTP.out.2.1
          generalize 2 ^ b + 1 = E at *
          clear HEN HBX HKV4 HF4 HR4 HO4 HSTP HGO hms4 hf' HDN hlf
          go_wp2_with fail
          go_roundw
          case rel => first | exact HGO2.out | (rw [hbe]; exact HGO2.out)
          case measure =>
            have h1 := HMS.out
            have h2 := HMS4.out
            first | omega | (rw [hbe, h1, h2]; omega)
end Go.Proofs.Ytjfihmpnbblomaa
