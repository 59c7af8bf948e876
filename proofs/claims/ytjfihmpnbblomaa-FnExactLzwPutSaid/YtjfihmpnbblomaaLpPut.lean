/- A text is packed by LZW: l6Put and LzwPut of the specification. -/
import Derived.Test.YtjfihmpnbblomaaLpSmall
import Derived.Test.YtjfihmpnbblomaaLzKeep
import Derived.Test.YtjfihmpnbblomaaBpSpecTop
namespace Go.Proofs.Ytjfihmpnbblomaa
open Go.RowKit

theorem wpList_appP {ops : Array Oper} {rest : List Oper} {o : Oper} {a : Act} {Q : Exit → Act → World → Prop} (w0 : World) (hgd : o.guard = none) (s x : Operand)
    (ho : o.op = .call { callee := .builtin .append, args := #[s, x], argTypes := #[61, 61] })
    (base : Nat) (v : Value) (n : Nat) (l : List (Int × Int)) (z : Int × Int) (hs : a.eval s = v) (hown : OwnP w0 base v n l) (hx : a.eval x = .slice (some ⟨w0.heap.size, 0, none⟩) 1 1) (hn : n ≤ 2000000) (hb : base ≤ w0.heap.size)
    (h : ∀ g cap w', OwnP w' base (.slice (some ⟨g, 0, none⟩) (n + 1) cap) (n + 1) (l ++ [z]) → Grew base w0 w' v g → wpList Try.prog ops Q rest (a.put o.dst (.slice (some ⟨g, 0, none⟩) (n + 1) cap)) w') :
    wpList Try.prog ops Q (o :: rest) a (w0.alloc (.cells #[.int .i64 z.1, .int .i64 z.2] 94)) := by
  obtain ⟨i0, hi0, hz0, hz1, hz2⟩ := info_parts info_bit
  refine wpList_append_lies _ hgd s x _ ho base 94 i0 (.agg #[.int .i64 0, .int .i64 0]) 2 16 Try.underlying61 hi0 hz0 hz1 hz2 rfl (by decide) v n (cellsOf l) hs (World.ownsRow.alloc (show World.ownsRow _ _ _ _ _ _ _ from hown) _) ⟨w0.heap.size, 0, none⟩ 1 1 [.int .i64 z.1, .int .i64 z.2] hx rfl (World.news_of_block (heap_alloc_new _ _)) (fun u hu => by simp at hu; rcases hu with rfl | rfl <;> rfl) (by decide) (by unfold maxLen; omega) (by omega) (by rw [World.size_alloc]; omega) _ rfl ?_
  intro g cap w' hown' hg hat hlt
  exact h g cap w' (OwnP.more hown') (Grew.of hown hg hat hlt)

/-- a row that stays beside one that grew -/
theorem row_grew {w w' : World} {base lo e e' z z' n n' g : Nat} {v v' : Value} {l l' : List Value} (hr : w.ownsRow lo e z v n l) (ho : w.ownsRow base e' z' v' n' l') (hne : e' ≠ e) (hg : Grew base w w' v' g) : w'.ownsRow lo e z v n l :=
  ownsRow_besides hr (fun k hk => hg.block k (World.ownsRow.lt hr k hk).2 (fun q => rows_apart ho hr hne k q.symm hk))
theorem row_below {w w' : World} {lo e z n : Nat} {v : Value} {l : List Value} (hr : w.ownsRow lo e z v n l) (hb : Below w.heap.size w w') : w'.ownsRow lo e z v n l :=
  ownsRow_besides hr (fun k hk => hb.block k (World.ownsRow.lt hr k hk).2)

/-- what lies in memory between two bytes -/
structure LpM (w : World) (b : Nat) (wide : Bool) (s : ByteArray) (k : Nat) (t : Lp.St) (g cap : Nat) (ov : Value) (wr : World) : Prop where
  eq : t = Lp.at b wide s k
  ol : OwnL wr w.heap.size (.slice (some ⟨g, 0, none⟩) t.l.length cap) t.l.length t.l
  op : OwnP wr w.heap.size ov t.out.length t.out
  bel : Below w.heap.size w wr

theorem Lp.one_stay {b : Nat} {wide : Bool} {t : Lp.St} {x : ByteArray} (h : 0 ≤ Lp.num t.l (t.last ++ x)) : Lp.one b wide t x = ⟨t.l, t.out, t.last ++ x⟩ := by unfold Lp.one; rw [if_pos h]
theorem Lp.one_full {b : Nat} {wide : Bool} {t : Lp.St} {x : ByteArray} (h : ¬ 0 ≤ Lp.num t.l (t.last ++ x)) (h2 : Lp.full wide ≤ t.l.length + 1) : Lp.one b wide t x = ⟨Lz.start b, (t.out ++ [Lp.code b wide (Lp.num t.l t.last) t.l.length]) ++ [Lp.code b wide ((2 ^ b : Nat) : Int) (t.l.length + 1)], x⟩ := by unfold Lp.one; rw [if_neg h, if_pos h2]
theorem Lp.one_add {b : Nat} {wide : Bool} {t : Lp.St} {x : ByteArray} (h : ¬ 0 ≤ Lp.num t.l (t.last ++ x)) (h2 : ¬ Lp.full wide ≤ t.l.length + 1) : Lp.one b wide t x = ⟨t.l ++ [t.last ++ x], t.out ++ [Lp.code b wide (Lp.num t.l t.last) t.l.length], x⟩ := by unfold Lp.one; rw [if_neg h, if_neg h2]

/-- what l6Put answers -/
def LpOut (w : World) (L : List (Int × Int)) (e : Ending) (w' : World) : Prop := ∃ ao cap, e = .returned (.slice ao L.length cap) ∧ Bits2 w' ao L ∧ Below w.heap.size w w'

set_option linter.unusedSimpArgs false in
set_option maxHeartbeats 4000000 in
set_option maxRecDepth 20000 in
theorem l6Put_any (b : Nat) (wide : Bool) (s : ByteArray) (w : World) (hb : b ≤ 8) (hsz : s.size ≤ 5000) (hsm : Lp.small b s) :
    Calls Try.prog 46 #[.string s, .int .i64 (b : Int), .bool wide] w (LpOut w (Lp.all b wide s)) := by
  have HPW : Hid (∀ w', Calls Try.prog 35 #[.int .i64 (b : Int)] w' fun e w'' => e = .returned (.int .i64 ((2 ^ b : Nat) : Int)) ∧ w'' = w') := fun w' => l1Pow_any b w' (by omega)
  have HST : Hid (∀ w', Calls Try.prog 54 #[.int .i64 (b : Int)] w' fun e w'' => ∃ g cap, e = .returned (.slice (some ⟨g, 0, none⟩) (2 ^ b + 2) cap) ∧ OwnL w'' w'.heap.size (.slice (some ⟨g, 0, none⟩) (2 ^ b + 2) cap) (2 ^ b + 2) (Lz.start b) ∧ Below w'.heap.size w' w'') := fun w' => l6Start_any b hb w'
  have HNU : Hid (∀ (base n g cap : Nat) (l : List ByteArray) (x : ByteArray) (w' : World), OwnL w' base (.slice (some ⟨g, 0, none⟩) n cap) n l → n ≤ 5000 → x.size ≤ 6000 → Calls Try.prog 64 #[.slice (some ⟨g, 0, none⟩) n cap, .string x] w' fun e w'' => e = .returned (.int .i64 (Lp.num l x)) ∧ w'' = w') := fun base n g cap l x w' => l6Num_any base n g cap l x w'
  have HCO : Hid (∀ (n cap : Nat) (ao : Option Addr) (v : Int) (w' : World), n ≤ 5000 → 1 ≤ n → Calls Try.prog 65 #[.int .i64 v, .slice ao n cap, .int .i64 (b : Int), .bool wide] w' fun e w'' => e = .returned (.agg #[.int .i64 (Lp.code b wide v n).1, .int .i64 (Lp.code b wide v n).2]) ∧ Below w'.heap.size w' w'') := fun n cap ao v w' => l6Code_any b n cap ao v wide w' hb
  have HFU : Hid (∀ w', Calls Try.prog 66 #[.bool wide] w' fun e w'' => e = .returned (.int .i64 (Lp.full wide : Int)) ∧ w'' = w') := fun w' => l6Full_any wide w'
  have HGD : Hid (∀ k, k ≤ s.size → Lp.Good b wide k (Lp.at b wide s k)) := fun k hk => Lp.good_at hb wide hsm k hk
  have hpw := Lz.pow_le hb
  have hfb := Lp.full_bd wide
  have HFIN : Hid (∀ t, t = Lp.at b wide s s.size → Lp.all b wide s = Lp.close b wide t) := fun t e => by rw [e]; rfl
  obtain ⟨P, hP⟩ : ∃ P : Nat, P = 2 ^ b := ⟨_, rfl⟩
  have HP : Hid (P = 2 ^ b) := hP
  rw [← hP] at HPW hpw HST
  obtain ⟨LL, hLL⟩ : ∃ LL, LL = Lp.all b wide s := ⟨_, rfl⟩
  rw [← hLL] at HFIN ⊢
  clear hP hsm hLL
  have e1 : IntKind.i64.wrap ((b : Int) + 1) = ((b + 1 : Nat) : Int) := by
    have := wrap_i64_nat (b + 1) (by omega)
    simpa using this
  go_enter Try.func46, Try.ntmps46
  go_wp2_with fail
  refine (HPW.out _).mono ?_
  rintro e w1 ⟨rfl, hw1⟩
  replace hw1 := hw1.symm
  subst hw1
  go_wp2_with fail
  refine (HST.out _).mono ?_
  rintro e w2 ⟨g0, cap0, rfl, ho2, b2⟩
  have hbz := b2.size
  have H0 : Hid (∃ t g cap ov, LpM w b wide s 0 t g cap ov (w2.alloc (.cells #[.int .i64 (P : Int), .int .i64 ((b : Int) + 1)] 94)) ∧ Value.slice (some ⟨g0, 0, none⟩) (P + 2) cap0 = .slice (some ⟨g, 0, none⟩) t.l.length cap ∧ Value.slice (some ⟨w2.heap.size, 0, none⟩) 1 1 = ov ∧ Value.string ⟨#[]⟩ = .string t.last) := by
    have hl : (Lp.init b).l.length = P + 2 := by show (Lz.start b).length = _; rw [Lz.start_len, HP.out]
    refine ⟨Lp.init b, g0, cap0, _, ⟨rfl, ?_, ?_, b2.alloc hbz _⟩, by rw [hl], rfl, rfl⟩
    · rw [hl]; exact (ho2.down (Nat.le_refl _)).alloc _
    · have hlit := World.ownsRow_lit (base := w.heap.size) (e := 94) (size := 2) w2 #[.int .i64 (P : Int), .int .i64 ((b : Int) + 1)] 1 hbz (by decide) rfl
      have ec : (#[Value.int .i64 (P : Int), .int .i64 ((b : Int) + 1)] : Array Value).toList = cellsOf (Lp.init b).out := by
        rw [HP.out]
        simp [Lp.init, cellsOf]
      rw [ec] at hlit
      exact hlit
  clear ho2 b2 hbz HPW
  go_wp2_with fail
  go_loopw [8, 9, 10, 11] (fun lv ov xv iv wr => ∃ k : Nat, k ≤ s.size ∧ iv = .int .i64 (k : Int) ∧ ∃ t g cap ov', LpM w b wide s k t g cap ov' wr ∧ lv = .slice (some ⟨g, 0, none⟩) t.l.length cap ∧ ov = ov' ∧ xv = .string t.last) (fun _ _ _ iv _ => s.size - (intOf iv).toNat)
  case atStart => exact ⟨0, Nat.zero_le _, rfl, H0.out⟩
  case round =>
    clear H0
    obtain ⟨k, hk, rfl, t, g, cap, ov, hM, rfl, rfl, rfl⟩ := hrel
    have HM : Hid (LpM w b wide s k t g cap u9 wr) := hM
    have HG : Hid (Lp.Good b wide k t) := by show Lp.Good _ _ _ _; rw [hM.eq]; exact HGD.out k hk
    have hlo := HG.out.lo
    have hhi := HG.out.hi
    have hla := HG.out.last
    have hol := Lp.len_bd hb HG.out (by omega)
    rw [← HP.out] at hlo
    have hbw := hM.bel.size
    clear hM
    obtain ⟨n, hn⟩ : ∃ n, n = t.l.length := ⟨_, rfl⟩
    have HN : Hid (n = t.l.length) := hn
    rw [← hn] at hlo hhi ⊢
    clear hn
    have HOL : Hid (OwnL wr w.heap.size (.slice (some ⟨g, 0, none⟩) n cap) n t.l) := by show OwnL _ _ _ _ _; rw [HN.out]; exact HM.out.ol
    by_cases hlt : k < s.size
    · obtain ⟨x, hx⟩ : ∃ x, x = s.extract k (k + 1) := ⟨_, rfl⟩
      have HX : Hid (x = s.extract k (k + 1)) := hx
      have hxs : x.size = 1 := by rw [hx, ByteArray.size_extract]; omega
      obtain ⟨z, hz⟩ : ∃ z, z = t.last ++ x := ⟨_, rfl⟩
      have HZ : Hid (z = t.last ++ x) := hz
      have hzs : z.size = t.last.size + 1 := by rw [hz, ByteArray.size_append, hxs]
      have hxe : s.extract k (k + 1) = x := hx.symm
      have hze : t.last ++ x = z := hz.symm
      have hik : (k : Int) < (s.size : Int) := by omega
      have hlz : ¬ 9223372036854775807 < t.last.size + x.size := by omega
      have HNX : Hid (Lp.at b wide s (k + 1) = Lp.one b wide t x) := by show _ = _; rw [HM.out.eq, HX.out]; rfl
      have HN1 : Hid (∀ w', w' = wr → Calls Try.prog 64 #[.slice (some ⟨g, 0, none⟩) n cap, .string z] w' fun e w'' => e = .returned (.int .i64 (Lp.num t.l z)) ∧ w'' = w') := fun w' e => by subst e; exact HNU.out w.heap.size n g cap t.l z w' HOL.out (by omega) (by omega)
      have HN2 : Hid (∀ w', w' = wr → Calls Try.prog 64 #[.slice (some ⟨g, 0, none⟩) n cap, .string t.last] w' fun e w'' => e = .returned (.int .i64 (Lp.num t.l t.last)) ∧ w'' = w') := fun w' e => by subst e; exact HNU.out w.heap.size n g cap t.l t.last w' HOL.out (by omega) (by omega)
      clear hx hz hzs HNU HFIN
      by_cases hst : 0 ≤ Lp.num t.l z
      · have HNEW : Hid (LpM w b wide s (k + 1) ⟨t.l, t.out, z⟩ g cap u9 wr) := by
          refine ⟨?_, HM.out.ol, HM.out.op, HM.out.bel⟩
          rw [HNX.out, Lp.one_stay (by rw [← HZ.out]; exact hst), ← HZ.out]
        have HFL : Hid (∃ t' g' cap' ov', LpM w b wide s (k + 1) t' g' cap' ov' wr ∧ Value.slice (some ⟨g, 0, none⟩) n cap = .slice (some ⟨g', 0, none⟩) t'.l.length cap' ∧ u9 = ov' ∧ Value.string z = .string t'.last) := ⟨_, g, cap, u9, HNEW.out, by rw [HN.out], rfl, rfl⟩
        have hge : (Lp.num t.l z) ≥ 0 := hst
        generalize Lp.num t.l z = V at *
        clear HNEW HM HG HN2 HNX HOL
        go_wp2_with fail
        refine (HN1.out _ rfl).mono ?_
        rintro e w1 ⟨rfl, hw1⟩
        replace hw1 := hw1.symm
        subst hw1
        go_wp2_with fail
        go_roundw
        case rel => exact ⟨k + 1, by omega, by go_num, HFL.out⟩
        case measure => simp [intOf]; omega
      · have HNS : Hid (Lp.num t.l (t.last ++ x) < 0) := by show _ < _; rw [← HZ.out]; omega
        have hlt0 : ¬ (Lp.num t.l z) ≥ 0 := hst
        have HOP : Hid (OwnP wr w.heap.size u9 t.out.length t.out) := HM.out.op
        have HBE : Hid (Below w.heap.size w wr) := HM.out.bel
        generalize hV : Lp.num t.l z = V at *
        clear hV
        obtain ⟨V2, hV2⟩ : ∃ V2, V2 = Lp.num t.l t.last := ⟨_, rfl⟩
        have HV2 : Hid (V2 = Lp.num t.l t.last) := hV2
        rw [← hV2] at HN2
        obtain ⟨C, hC⟩ : ∃ C, C = Lp.code b wide V2 n := ⟨_, rfl⟩
        have HC : Hid (C = Lp.code b wide V2 n) := hC
        have HCC : Hid (∀ w' ca ao, Calls Try.prog 65 #[.int .i64 V2, .slice ao n ca, .int .i64 (b : Int), .bool wide] w' fun e w'' => e = .returned (.agg #[.int .i64 C.1, .int .i64 C.2]) ∧ Below w'.heap.size w' w'') := fun w' ca ao => by rw [hC]; exact HCO.out n ca ao V2 w' (by omega) (by omega)
        obtain ⟨M, hMo⟩ : ∃ M, M = t.out.length := ⟨_, rfl⟩
        have HMo : Hid (M = t.out.length) := hMo
        have hMb : M ≤ 5002 := by rw [hMo]; exact hol
        clear hV2 hC hMo hol
        go_wp2_with fail
        refine (HN1.out _ rfl).mono ?_
        rintro e w1 ⟨rfl, hw1⟩
        replace hw1 := hw1.symm
        subst hw1
        clear HN1
        go_wp2_with fail
        refine (HN2.out _ rfl).mono ?_
        rintro e w1 ⟨rfl, hw1⟩
        replace hw1 := hw1.symm
        subst hw1
        clear HN2
        go_wp2_with fail
        refine (HCC.out _ _ _).mono ?_
        rintro e w3 ⟨rfl, b3⟩
        have HOL3 : Hid (OwnL w3 w.heap.size (.slice (some ⟨g, 0, none⟩) n cap) n t.l) := row_below HOL.out b3
        have HOP3 : Hid (OwnP w3 w.heap.size u9 M t.out) := by show OwnP _ _ _ _ _; rw [HMo.out]; exact row_below HOP.out b3
        have HBE3 : Hid (Below w.heap.size w w3) := HBE.out.trans (b3.mono hbw)
        have hbw3 : w.heap.size ≤ w3.heap.size := Nat.le_trans hbw b3.size
        clear b3 HOL HOP HBE HCC hbw
        go_wp2_with (at_builtin; refine wpList_appP w3 (by rfl) _ _ (by rfl) w.heap.size _ M t.out C (by rfl) HOP3.out (by rfl) (by omega) hbw3 ?_)
        intro g4 cap4 w4 ho4 hg4
        have HOP4 : Hid (OwnP w4 w.heap.size (.slice (some ⟨g4, 0, none⟩) (M + 1) cap4) (M + 1) (t.out ++ [C])) := ho4
        have HOL4 : Hid (OwnL w4 w.heap.size (.slice (some ⟨g, 0, none⟩) n cap) n t.l) := row_grew HOL3.out HOP3.out (by decide) hg4
        have HBE4 : Hid (Below w.heap.size w w4) := hg4.below HBE3.out (Nat.le_refl _) hbw3
        have hbw4 : w.heap.size ≤ w4.heap.size := HBE4.out.size
        clear ho4 hg4 HOL3 HOP3 HBE3 hbw3
        go_wp2_with (at_builtin; refine wpList_appL w4 (by rfl) _ _ (by rfl) w.heap.size _ n t.l z (by rfl) HOL4.out (by rfl) (by omega) hbw4 ?_)
        intro g5 cap5 w5 ho5 hg5
        have HOL5 : Hid (OwnL w5 w.heap.size (.slice (some ⟨g5, 0, none⟩) (n + 1) cap5) (n + 1) (t.l ++ [z])) := ho5
        have HOP5 : Hid (OwnP w5 w.heap.size (.slice (some ⟨g4, 0, none⟩) (M + 1) cap4) (M + 1) (t.out ++ [C])) := row_grew HOP4.out HOL4.out (by decide) hg5
        have HBE5 : Hid (Below w.heap.size w w5) := hg5.below HBE4.out (Nat.le_refl _) hbw4
        have hbw5 : w.heap.size ≤ w5.heap.size := HBE5.out.size
        clear ho5 hg5 HOL4 HOP4 HBE4 hbw4
        by_cases hfull : Lp.full wide ≤ n + 1
        · have HNXT : Hid (Lp.at b wide s (k + 1) = ⟨Lz.start b, (t.out ++ [C]) ++ [Lp.code b wide ((2 ^ b : Nat) : Int) (n + 1)], x⟩) := by
            show _ = _
            rw [HNX.out, Lp.one_full (by have := HNS.out; omega) (by rw [← HN.out]; exact hfull), HC.out, HV2.out, HN.out]
          obtain ⟨D, hD⟩ : ∃ D, D = Lp.code b wide ((P : Nat) : Int) (n + 1) := ⟨_, rfl⟩
          have HD : Hid (D = Lp.code b wide ((P : Nat) : Int) (n + 1)) := hD
          have HCD : Hid (∀ w' ca ao, Calls Try.prog 65 #[.int .i64 (P : Int), .slice ao (n + 1) ca, .int .i64 (b : Int), .bool wide] w' fun e w'' => e = .returned (.agg #[.int .i64 D.1, .int .i64 D.2]) ∧ Below w'.heap.size w' w'') := fun w' ca ao => by rw [hD]; exact HCO.out (n + 1) ca ao (P : Int) w' (by omega) (by omega)
          have hge2 : ((n : Int) + 1) ≥ (Lp.full wide : Int) := by omega
          obtain ⟨F, hF⟩ : ∃ F, F = Lp.full wide := ⟨_, rfl⟩
          rw [← hF] at HFU hge2 hfull hfb
          clear hD hF HG HM HNX HNS
          go_wp2_with fail
          refine (HFU.out _).mono ?_
          rintro e w6 ⟨rfl, hw6⟩
          replace hw6 := hw6.symm
          subst hw6
          go_wp2_with fail
          refine (HCD.out _ _ _).mono ?_
          rintro e w6 ⟨rfl, b6⟩
          have HOP6 : Hid (OwnP w6 w.heap.size (.slice (some ⟨g4, 0, none⟩) (M + 1) cap4) (M + 1) (t.out ++ [C])) := row_below HOP5.out b6
          have HBE6 : Hid (Below w.heap.size w w6) := HBE5.out.trans (b6.mono hbw5)
          have hbw6 : w.heap.size ≤ w6.heap.size := HBE6.out.size
          clear b6 HOL5 HOP5 HBE5 hbw5 HCD
          go_wp2_with (at_builtin; refine wpList_appP w6 (by rfl) _ _ (by rfl) w.heap.size _ (M + 1) (t.out ++ [C]) D (by rfl) HOP6.out (by rfl) (by omega) hbw6 ?_)
          intro g7 cap7 w7 ho7 hg7
          have HOP7 : Hid (OwnP w7 w.heap.size (.slice (some ⟨g7, 0, none⟩) (M + 1 + 1) cap7) (M + 1 + 1) ((t.out ++ [C]) ++ [D])) := by show OwnP _ _ _ _ _; rw [List.append_assoc]; exact ho7
          have HBE7 : Hid (Below w.heap.size w w7) := hg7.below HBE6.out (Nat.le_refl _) hbw6
          have hbw7 : w.heap.size ≤ w7.heap.size := HBE7.out.size
          clear ho7 hg7 HOP6 HBE6 hbw6
          go_wp2_with fail
          refine (HST.out _).mono ?_
          rintro e w8 ⟨g8, cap8, rfl, ho8, b8⟩
          have HFL : Hid (∃ t' g' cap' ov', LpM w b wide s (k + 1) t' g' cap' ov' w8 ∧ Value.slice (some ⟨g8, 0, none⟩) (P + 2) cap8 = .slice (some ⟨g', 0, none⟩) t'.l.length cap' ∧ Value.slice (some ⟨g7, 0, none⟩) (M + 1 + 1) cap7 = ov' ∧ Value.string x = .string t'.last) := by
            have hl : (Lz.start b).length = P + 2 := by rw [Lz.start_len, HP.out]
            refine ⟨_, g8, cap8, _, ⟨rfl, ?_, ?_, HBE7.out.trans (b8.mono hbw7)⟩, ?_, rfl, ?_⟩
            · rw [HNXT.out]; show OwnL _ _ (.slice _ (Lz.start b).length _) (Lz.start b).length (Lz.start b); rw [hl]; exact ho8.down hbw7
            · rw [HNXT.out]
              show OwnP _ _ _ ((t.out ++ [C]) ++ [Lp.code b wide ((2 ^ b : Nat) : Int) (n + 1)]).length ((t.out ++ [C]) ++ [Lp.code b wide ((2 ^ b : Nat) : Int) (n + 1)])
              rw [← HP.out, ← HD.out]
              have hlM : ((t.out ++ [C]) ++ [D]).length = M + 1 + 1 := by rw [List.length_append, List.length_append, ← HMo.out]; rfl
              rw [hlM]
              exact row_below HOP7.out b8
            · rw [HNXT.out]; show _ = Value.slice _ (Lz.start b).length _; rw [hl]
            · rw [HNXT.out]
          clear ho8 b8 HOP7 HBE7 hbw7 HNXT
          go_wp2_with fail
          go_roundw
          case rel => first | exact ⟨k + 1, by omega, by go_num, HFL.out⟩ | exact ⟨k + 1, by omega, by go_num, by simpa using HFL.out⟩
          case measure => simp [intOf]; omega
        · have HNXT : Hid (Lp.at b wide s (k + 1) = ⟨t.l ++ [z], t.out ++ [C], x⟩) := by
            show _ = _
            rw [HNX.out, Lp.one_add (by have := HNS.out; omega) (by rw [← HN.out]; exact hfull), HC.out, HV2.out, HN.out, HZ.out]
          have hge2 : ¬ ((n : Int) + 1) ≥ (Lp.full wide : Int) := by omega
          have HFL : Hid (∃ t' g' cap' ov', LpM w b wide s (k + 1) t' g' cap' ov' w5 ∧ Value.slice (some ⟨g5, 0, none⟩) (n + 1) cap5 = .slice (some ⟨g', 0, none⟩) t'.l.length cap' ∧ Value.slice (some ⟨g4, 0, none⟩) (M + 1) cap4 = ov' ∧ Value.string x = .string t'.last) := by
            have hl : (t.l ++ [z]).length = n + 1 := by rw [List.length_append, ← HN.out]; rfl
            refine ⟨_, g5, cap5, _, ⟨rfl, ?_, ?_, HBE5.out⟩, ?_, rfl, ?_⟩
            · rw [HNXT.out]; show OwnL _ _ (.slice _ (t.l ++ [z]).length _) (t.l ++ [z]).length (t.l ++ [z]); rw [hl]; exact HOL5.out
            · rw [HNXT.out]
              show OwnP _ _ _ (t.out ++ [C]).length (t.out ++ [C])
              have hlM : (t.out ++ [C]).length = M + 1 := by rw [List.length_append, ← HMo.out]; rfl
              rw [hlM]
              exact HOP5.out
            · rw [HNXT.out]; show _ = Value.slice _ (t.l ++ [z]).length _; rw [hl]
            · rw [HNXT.out]
          obtain ⟨F, hF⟩ : ∃ F, F = Lp.full wide := ⟨_, rfl⟩
          rw [← hF] at HFU hge2 hfull hfb
          clear hF HG HM HNX HNS HOL5 HOP5 HBE5 hbw5 HNXT
          go_wp2_with fail
          refine (HFU.out _).mono ?_
          rintro e w6 ⟨rfl, hw6⟩
          replace hw6 := hw6.symm
          subst hw6
          go_wp2_with fail
          go_roundw
          case rel => exact ⟨k + 1, by omega, by go_num, HFL.out⟩
          case measure => simp [intOf]; omega
    · have hks : k = s.size := by omega
      have HALL : Hid (LL = Lp.close b wide t) := HFIN.out t (by rw [HM.out.eq, hks])
      have HOP : Hid (OwnP wr w.heap.size u9 t.out.length t.out) := HM.out.op
      have HBE : Hid (Below w.heap.size w wr) := HM.out.bel
      have hik : ¬ (k : Int) < (s.size : Int) := by omega
      obtain ⟨M, hMo⟩ : ∃ M, M = t.out.length := ⟨_, rfl⟩
      have HMo : Hid (M = t.out.length) := hMo
      have hMb : M ≤ 5002 := by rw [hMo]; exact hol
      clear hks hMo hol HFIN HFU HST
      by_cases hl0 : t.last.size = 0
      · have HA2 : Hid (LL = t.out ++ [Lp.code b wide ((P : Int) + 1) n]) := by
          show _ = _
          rw [HALL.out]; unfold Lp.close; rw [if_pos hl0, HP.out, HN.out]
        have hem : t.last.toList.isEmpty = true := by
          rw [List.isEmpty_iff]
          exact List.eq_nil_of_length_eq_zero (by rw [toList_len]; exact hl0)
        obtain ⟨D, hD⟩ : ∃ D, D = Lp.code b wide ((P : Int) + 1) n := ⟨_, rfl⟩
        rw [← hD] at HA2
        have HCD : Hid (∀ w' ca ao, Calls Try.prog 65 #[.int .i64 ((P : Int) + 1), .slice ao n ca, .int .i64 (b : Int), .bool wide] w' fun e w'' => e = .returned (.agg #[.int .i64 D.1, .int .i64 D.2]) ∧ Below w'.heap.size w' w'') := fun w' ca ao => by rw [hD]; exact HCO.out n ca ao ((P : Int) + 1) w' (by omega) (by omega)
        clear hD HM HG HNU HALL
        go_wp2_with fail
        refine (HCD.out _ _ _).mono ?_
        rintro e w3 ⟨rfl, b3⟩
        have HOP3 : Hid (OwnP w3 w.heap.size u9 M t.out) := by show OwnP _ _ _ _ _; rw [HMo.out]; exact row_below HOP.out b3
        have HBE3 : Hid (Below w.heap.size w w3) := HBE.out.trans (b3.mono hbw)
        have hbw3 : w.heap.size ≤ w3.heap.size := HBE3.out.size
        clear b3 HOP HBE HCD
        go_wp2_with (at_builtin; refine wpList_appP w3 (by rfl) _ _ (by rfl) w.heap.size _ M t.out D (by rfl) HOP3.out (by rfl) (by omega) hbw3 ?_)
        intro g4 cap4 w4 ho4 hg4
        have HF : Hid (LpOut w LL (.returned (.slice (some ⟨g4, 0, none⟩) (M + 1) cap4)) w4) := by
          obtain ⟨ao, c2, he, hbits⟩ := OwnP.bits ho4
          cases he
          refine ⟨_, cap4, ?_, by rw [HA2.out]; exact hbits, hg4.below HBE3.out (Nat.le_refl _) hbw3⟩
          rw [HA2.out, List.length_append, ← HMo.out]; rfl
        clear ho4 hg4
        go_wp2_with fail
        go_ret
        exact HF.out
      · have HA2 : Hid (LL = (t.out ++ [Lp.code b wide (Lp.num t.l t.last) n]) ++ [Lp.code b wide ((P : Int) + 1) (n + 1)]) := by
          show _ = _
          rw [HALL.out]; unfold Lp.close; rw [if_neg hl0, HP.out, HN.out]
        have hem : t.last.toList.isEmpty = false := by
          rw [← Bool.not_eq_true, List.isEmpty_iff]
          exact fun e => hl0 (by have h := congrArg List.length e; rw [toList_len] at h; exact h)
        have HN2 : Hid (∀ w', w' = wr → Calls Try.prog 64 #[.slice (some ⟨g, 0, none⟩) n cap, .string t.last] w' fun e w'' => e = .returned (.int .i64 (Lp.num t.l t.last)) ∧ w'' = w') := fun w' e => by subst e; exact HNU.out w.heap.size n g cap t.l t.last w' HOL.out (by omega) (by omega)
        obtain ⟨V2, hV2⟩ : ∃ V2, V2 = Lp.num t.l t.last := ⟨_, rfl⟩
        rw [← hV2] at HN2 HA2
        obtain ⟨C, hC⟩ : ∃ C, C = Lp.code b wide V2 n := ⟨_, rfl⟩
        have HCC : Hid (∀ w' ca ao, Calls Try.prog 65 #[.int .i64 V2, .slice ao n ca, .int .i64 (b : Int), .bool wide] w' fun e w'' => e = .returned (.agg #[.int .i64 C.1, .int .i64 C.2]) ∧ Below w'.heap.size w' w'') := fun w' ca ao => by rw [hC]; exact HCO.out n ca ao V2 w' (by omega) (by omega)
        obtain ⟨D, hD⟩ : ∃ D, D = Lp.code b wide ((P : Int) + 1) (n + 1) := ⟨_, rfl⟩
        rw [← hD, ← hC] at HA2
        have HCD : Hid (∀ w' ca ao, Calls Try.prog 65 #[.int .i64 ((P : Int) + 1), .slice ao (n + 1) ca, .int .i64 (b : Int), .bool wide] w' fun e w'' => e = .returned (.agg #[.int .i64 D.1, .int .i64 D.2]) ∧ Below w'.heap.size w' w'') := fun w' ca ao => by rw [hD]; exact HCO.out (n + 1) ca ao ((P : Int) + 1) w' (by omega) (by omega)
        clear hD hC hV2 HM HG HNU HALL
        go_wp2_with fail
        refine (HN2.out _ rfl).mono ?_
        rintro e w1 ⟨rfl, hw1⟩
        replace hw1 := hw1.symm
        subst hw1
        go_wp2_with fail
        refine (HCC.out _ _ _).mono ?_
        rintro e w3 ⟨rfl, b3⟩
        have HOP3 : Hid (OwnP w3 w.heap.size u9 M t.out) := by show OwnP _ _ _ _ _; rw [HMo.out]; exact row_below HOP.out b3
        have HOL3 : Hid (OwnL w3 w.heap.size (.slice (some ⟨g, 0, none⟩) n cap) n t.l) := row_below HOL.out b3
        have HBE3 : Hid (Below w.heap.size w w3) := HBE.out.trans (b3.mono hbw)
        have hbw3 : w.heap.size ≤ w3.heap.size := HBE3.out.size
        clear b3 HOP HBE HCC HN2 HOL
        go_wp2_with (at_builtin; refine wpList_appP w3 (by rfl) _ _ (by rfl) w.heap.size _ M t.out C (by rfl) HOP3.out (by rfl) (by omega) hbw3 ?_)
        intro g4 cap4 w4 ho4 hg4
        have HOP4 : Hid (OwnP w4 w.heap.size (.slice (some ⟨g4, 0, none⟩) (M + 1) cap4) (M + 1) (t.out ++ [C])) := ho4
        have HOL4 : Hid (OwnL w4 w.heap.size (.slice (some ⟨g, 0, none⟩) n cap) n t.l) := row_grew HOL3.out HOP3.out (by decide) hg4
        have HBE4 : Hid (Below w.heap.size w w4) := hg4.below HBE3.out (Nat.le_refl _) hbw3
        have hbw4 : w.heap.size ≤ w4.heap.size := HBE4.out.size
        clear ho4 hg4 HOL3 HOP3 HBE3 hbw3
        go_wp2_with (at_builtin; refine wpList_appL w4 (by rfl) _ _ (by rfl) w.heap.size _ n t.l ⟨#[]⟩ (by rfl) HOL4.out (by rfl) (by omega) hbw4 ?_)
        intro g5 cap5 w5 ho5 hg5
        have HOP5 : Hid (OwnP w5 w.heap.size (.slice (some ⟨g4, 0, none⟩) (M + 1) cap4) (M + 1) (t.out ++ [C])) := row_grew HOP4.out HOL4.out (by decide) hg5
        have HBE5 : Hid (Below w.heap.size w w5) := hg5.below HBE4.out (Nat.le_refl _) hbw4
        have hbw5 : w.heap.size ≤ w5.heap.size := HBE5.out.size
        clear ho5 hg5 HOL4 HOP4 HBE4 hbw4
        go_wp2_with fail
        refine (HCD.out _ _ _).mono ?_
        rintro e w6 ⟨rfl, b6⟩
        have HOP6 : Hid (OwnP w6 w.heap.size (.slice (some ⟨g4, 0, none⟩) (M + 1) cap4) (M + 1) (t.out ++ [C])) := row_below HOP5.out b6
        have HBE6 : Hid (Below w.heap.size w w6) := HBE5.out.trans (b6.mono hbw5)
        have hbw6 : w.heap.size ≤ w6.heap.size := HBE6.out.size
        clear b6 HOP5 HBE5 hbw5 HCD
        go_wp2_with (at_builtin; refine wpList_appP w6 (by rfl) _ _ (by rfl) w.heap.size _ (M + 1) (t.out ++ [C]) D (by rfl) HOP6.out (by rfl) (by omega) hbw6 ?_)
        intro g7 cap7 w7 ho7 hg7
        have HF : Hid (LpOut w LL (.returned (.slice (some ⟨g7, 0, none⟩) (M + 1 + 1) cap7)) w7) := by
          obtain ⟨ao, c2, he, hbits⟩ := OwnP.bits ho7
          cases he
          refine ⟨_, cap7, ?_, by rw [HA2.out, List.append_assoc]; exact hbits, hg7.below HBE6.out (Nat.le_refl _) hbw6⟩
          rw [HA2.out, List.length_append, List.length_append, ← HMo.out]; rfl
        clear ho7 hg7
        go_wp2_with fail
        go_ret
        exact HF.out

/-- the text that LzwPut answers -/
def Lp.ok (s : ByteArray) (b : Int) (wide : Bool) : Bool := Lz.ok b wide && decide (s.size ≤ 5000) && Lp.smallB b.toNat s
def Lp.ans (s : ByteArray) (b : Int) (wide : Bool) : List UInt8 := if Lp.ok s b wide then (Bp.text wide (Lp.all b.toNat wide s)).map UInt8.ofNat else []
theorem Lz.ok_rng {b : Int} {wide : Bool} (h : Lz.ok b wide = true) : 2 ≤ b ∧ b ≤ 8 := by
  unfold Lz.ok at h
  split at h
  · have := eq_of_beq h; omega
  · simp at h; omega
theorem Lp.ans_len (s : ByteArray) (b : Int) (wide : Bool) : (Lp.ans s b wide).length ≤ 9000 := by
  unfold Lp.ans
  split
  · rename_i h
    unfold Lp.ok at h
    simp only [Bool.and_eq_true, decide_eq_true_eq] at h
    obtain ⟨⟨h1, h2⟩, h3⟩ := h
    have hb := Lz.ok_rng h1
    have hf := Lp.all_ok (b := b.toNat) (by omega) (by omega) wide (Lp.small_of h3) h2
    have ht := Bp.fits_tot hf.1 (Nat.le_refl _) (Nat.le_refl _)
    rw [List.length_map]
    unfold Bp.text
    rw [Bp.pack_len]
    omega
  · simp

set_option maxHeartbeats 1000000 in
theorem spec_lzwPut (s : ByteArray) (b : Int) (wide : Bool) (w : World) (hs : s.size ≤ 3000000)
    (HOK0 : ∀ w, Calls Try.prog 31 #[.int .i64 b, .bool wide] w fun e w' => e = .returned (.bool (Lz.ok b wide)) ∧ w' = w) :
    Calls Try.prog 14 #[.string s, .int .i64 b, .bool wide] w fun e w' => e = .returned (.string ⟨(Lp.ans s b wide).toArray⟩) ∧ Below w.heap.size w w' := by
  have HOK : Hid (∀ w, Calls Try.prog 31 #[.int .i64 b, .bool wide] w fun e w' => e = .returned (.bool (Lz.ok b wide)) ∧ w' = w) := HOK0
  clear HOK0
  cases hk : Lz.ok b wide with
  | false =>
    have HA : Hid (Lp.ans s b wide = []) := by show _ = _; unfold Lp.ans Lp.ok; rw [hk]; rfl
    rw [hk] at HOK
    rw [HA.out]
    clear hk
    go_enter Try.func14, Try.ntmps14
    go_wp2_with fail
    refine (HOK.out _).mono ?_
    rintro e w1 ⟨rfl, hw1⟩
    replace hw1 := hw1.symm
    subst hw1
    go_wp2_with fail
    go_ret
    exact ⟨rfl, Below.refl _ _⟩
  | true =>
    have hbd := Lz.ok_rng hk
    obtain ⟨B, rfl⟩ := Int.eq_ofNat_of_zero_le (show 0 ≤ b by omega)
    have HAN : Hid (Lp.ans s B wide = if (decide (s.size ≤ 5000) && Lp.smallB B s) then (Bp.text wide (Lp.all B wide s)).map UInt8.ofNat else []) := by show _ = _; unfold Lp.ans Lp.ok; rw [hk, Bool.true_and, Int.toNat_natCast]
    rw [hk] at HOK
    clear hk
    by_cases h5 : 5000 < s.size
    · have HA : Hid (Lp.ans s B wide = []) := by show _ = _; rw [HAN.out, decide_eq_false (by omega)]; rfl
      rw [HA.out]
      have d1 : decide ((s.size : Int) > 5000) = true := decide_eq_true (by omega)
      clear HAN
      go_enter Try.func14, Try.ntmps14
      go_wp2_with fail
      refine (HOK.out _).mono ?_
      rintro e w1 ⟨rfl, hw1⟩
      replace hw1 := hw1.symm
      subst hw1
      go_wp2_with fail
      go_ret
      exact ⟨rfl, Below.refl _ _⟩
    · have d1 : decide ((s.size : Int) > 5000) = false := decide_eq_false (by omega)
      have HFT : Hid (∀ w, Calls Try.prog 44 #[.string s, .int .i64 (B : Int)] w fun e w' => e = .returned (.bool (Lp.smallB B s)) ∧ ∃ m, w' = w.drewN m) := fun w => l6Fits_any B s w (by omega) (by omega)
      cases hsm : Lp.smallB B s with
      | false =>
        have HA : Hid (Lp.ans s B wide = []) := by show _ = _; rw [HAN.out, hsm, Bool.and_false]; rfl
        rw [HA.out]
        rw [hsm] at HFT
        clear HAN hsm
        go_enter Try.func14, Try.ntmps14
        go_wp2_with fail
        refine (HOK.out _).mono ?_
        rintro e w1 ⟨rfl, hw1⟩
        replace hw1 := hw1.symm
        subst hw1
        go_wp2_with fail
        refine (HFT.out _).mono ?_
        rintro e w1 ⟨rfl, m, rfl⟩
        go_wp2_with fail
        go_ret
        exact ⟨rfl, below_drewN (Below.refl _ _) _⟩
      | true =>
        have HA : Hid (Lp.ans s B wide = (Bp.text wide (Lp.all B wide s)).map UInt8.ofNat) := by show _ = _; rw [HAN.out, hsm, Bool.and_true, decide_eq_true (by omega)]; rfl
        have hf := Lp.all_ok (b := B) (by omega) (by omega) wide (Lp.small_of hsm) (by omega)
        have HPU : Hid (∀ w, Calls Try.prog 46 #[.string s, .int .i64 (B : Int), .bool wide] w (LpOut w (Lp.all B wide s))) := fun w => l6Put_any B wide s w (by omega) (by omega) (Lp.small_of hsm)
        rw [HA.out]
        rw [hsm] at HFT
        generalize Lp.all B wide s = L at *
        have HPK : Hid (∀ (a : Option Addr) (cap : Nat) (w : World), Bits2 w a L → Calls Try.prog 45 #[.slice a L.length cap, .bool wide] w fun e w' => e = .returned (.string ⟨((Bp.text wide L).map UInt8.ofNat).toArray⟩) ∧ Below w.heap.size w w') := fun a cap w h => l1Put_any wide a L.length cap L w h rfl (by omega) hf.1
        generalize hT : (Bp.text wide L).map UInt8.ofNat = T at *
        clear HAN hsm hf HA hT
        go_enter Try.func14, Try.ntmps14
        go_wp2_with fail
        refine (HOK.out _).mono ?_
        rintro e w1 ⟨rfl, hw1⟩
        replace hw1 := hw1.symm
        subst hw1
        go_wp2_with fail
        refine (HFT.out _).mono ?_
        rintro e w1 ⟨rfl, m, hw1⟩
        have B1 : Hid (Below w.heap.size w w1) := by show Below _ _ _; rw [hw1]; exact below_drewN (Below.refl _ _) _
        clear hw1
        go_wp2_with fail
        refine (HPU.out _).mono ?_
        rintro e w2 ⟨ao, cap, rfl, hbits, b2⟩
        have B2 : Hid (Below w.heap.size w w2) := B1.out.trans (b2.mono B1.out.size)
        have HBI : Hid (Bits2 w2 ao L) := hbits
        clear b2 hbits
        go_wp2_with fail
        refine (HPK.out ao cap w2 HBI.out).mono ?_
        rintro e w3 ⟨rfl, b3⟩
        have B3 : Hid (Below w.heap.size w w3) := B2.out.trans (b3.mono B2.out.size)
        clear b3
        go_wp2_with fail
        go_ret
        exact ⟨rfl, B3.out⟩
end Go.Proofs.Ytjfihmpnbblomaa
