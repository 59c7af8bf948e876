/- Texts laid together: BpSpec, BpAnswer, BpSpecTop, LpPut, BpImplTop, BpTop, LqTop, LqMain, LqEx, LrMath, BpBack, LrTop, LawLzw, DrawLzwGet, WiPow, WiInts, LawLzwCodes. -/
import Derived.Test.YtjfihmpnbblomaaInWalks
import Derived.Test.YtjfihmpnbblomaaPowWalks
import Derived.Test.YtjfihmpnbblomaaBitRow
import Derived.Test.YtjfihmpnbblomaaBpMath
import Derived.Deep.RegionHeld3
import Derived.Test.YtjfihmpnbblomaaBpPutH
import Derived.Test.YtjfihmpnbblomaaKFnLzwCodes
import Derived.Test.YtjfihmpnbblomaaLzKeep
import Derived.Test.YtjfihmpnbblomaaBpMove
import Derived.Test.YtjfihmpnbblomaaK1FnLzwCodes
import Derived.Test.YtjfihmpnbblomaaBgBits
import Derived.Test.YtjfihmpnbblomaaProg
import Derived.Test.YtjfihmpnbblomaaBase
import Derived.Test.YtjfihmpnbblomaaIntsWalks
/- Bits packed into bytes, as the specification does it. -/
namespace Go.Proofs.Ytjfihmpnbblomaa
open Go.RowKit

end Go.Proofs.Ytjfihmpnbblomaa

/- What BitsPut answers, in plain mathematics. -/
namespace Go.Proofs.Ytjfihmpnbblomaa

/-- what BitsPut answers -/
def Bp.answer (hi : Bool) (l : List (Int × Int)) : List Nat := if (∀ j (h : j < l.length), Bp.okB l[j] = true ∧ Bp.tot l (j + 1) ≤ 72000) then Bp.text hi l else []

theorem Bp.answer_yes {hi : Bool} {l : List (Int × Int)} (h : Bp.Fits l l.length) : Bp.answer hi l = Bp.text hi l := by
  unfold Bp.answer
  rw [if_pos (fun j hj => ⟨Bp.okB_true (h j hj hj).1, (h j hj hj).2⟩)]
theorem Bp.answer_no {hi : Bool} {l : List (Int × Int)} (h : ¬ Bp.Fits l l.length) : Bp.answer hi l = [] := by
  unfold Bp.answer
  rw [if_neg (fun g => h (fun j hj _ => ⟨Bp.okB_ok (g j hj).1, (g j hj).2⟩))]

end Go.Proofs.Ytjfihmpnbblomaa

/- BitsPut of the specification, for every list of bits. -/
namespace Go.Proofs.Ytjfihmpnbblomaa
open Go.RowKit

theorem l1Put_any (hi : Bool) (a : Option Addr) (n cap : Nat) (l : List (Int × Int)) (w : World) (h : Bits2 w a l) (hn : l.length = n) (hl : n ≤ 2000000) (hf : Bp.Fits l l.length) :
    Calls Try.prog 45 #[.slice a n cap, .bool hi] w fun e w' => e = .returned (.string ⟨((Bp.text hi l).map UInt8.ofNat).toArray⟩) ∧ Below w.heap.size w w' := by
  cases hi
  · exact l1Put_low a n cap l w h hn hl hf
  · exact l1Put_high a n cap l w h hn hl hf

end Go.Proofs.Ytjfihmpnbblomaa

/- A text is packed by LZW: l6Put and LzwPut of the specification. -/
namespace Go.Proofs.Ytjfihmpnbblomaa
open Go.RowKit

theorem wpList_appP {ops : Array Oper} {rest : List Oper} {o : Oper} {a : Act} {Q : Exit → Act → World → Prop} (w0 : World) (hgd : o.guard = none) (s x : Operand)
    (ho : o.op = .call { callee := .builtin .append, args := #[s, x], argTypes := #[61, 61] })
    (base : Nat) (v : Value) (n : Nat) (l : List (Int × Int)) (z : Int × Int) (hs : a.eval s = v) (hown : OwnP w0 base v n l) (hx : a.eval x = .slice (some ⟨w0.heap.size, 0, none⟩) 1 1) (hn : n ≤ 2000000) (hb : base ≤ w0.heap.size)
    (h : ∀ g cap w', OwnP w' base (.slice (some ⟨g, 0, none⟩) (n + 1) cap) (n + 1) (l ++ [z]) → Grew base w0 w' v g → wpList Try.prog ops Q rest (a.put o.dst (.slice (some ⟨g, 0, none⟩) (n + 1) cap)) w') :
    wpList Try.prog ops Q (o :: rest) a (w0.alloc (.cells #[.int .i64 z.1, .int .i64 z.2] 94)) := by
  obtain ⟨i0, hi0, hz0, hz1, hz2⟩ := info_parts info_bit
  refine wpList_append_lies _ hgd s x _ ho base 94 i0 (.agg #[.int .i64 0, .int .i64 0]) 2 16 Try.underlying61 hi0 hz0 hz1 hz2 rfl (by decide) v n (cellsOf l) hs (World.ownsRow.alloc (show World.ownsRow _ _ _ _ _ _ _ from hown) _) ⟨w0.heap.size, 0, none⟩ 1 1 [.int .i64 z.1, .int .i64 z.2] hx rfl (World.news_of_block (heap_alloc_new _ _)) (fun u hu => by simp at hu; rcases hu with rfl | rfl <;> rfl) (by decide) (by unfold maxLen; omega) (by omega) (by rw [World.size_alloc]; omega) _ rfl ?_
  intro g cap w' hown' hg hat hlt
  exact h g cap w' (OwnP.more hown') (Grew.of hown hg hat hlt)

/-- a row that stays beside one that grew -/
theorem row_grew {w w' : World} {base lo e e' z z' n n' g : Nat} {v v' : Value} {l l' : List Value} (hr : w.ownsRow lo e z v n l) (ho : w.ownsRow base e' z' v' n' l') (hne : e' ≠ e) (hg : Grew base w w' v' g) : w'.ownsRow lo e z v n l :=
  ownsRow_besides hr (fun k hk => hg.block k (World.ownsRow.lt hr k hk).2 (fun q => rows_apart ho hr hne k q.symm hk))
theorem row_below {w w' : World} {lo e z n : Nat} {v : Value} {l : List Value} (hr : w.ownsRow lo e z v n l) (hb : Below w.heap.size w w') : w'.ownsRow lo e z v n l :=
  ownsRow_besides hr (fun k hk => hb.block k (World.ownsRow.lt hr k hk).2)

/-- what lies in memory between two bytes -/
structure LpM (w : World) (b : Nat) (wide : Bool) (s : ByteArray) (k : Nat) (t : Lp.St) (g cap : Nat) (ov : Value) (wr : World) : Prop where
  eq : t = Lp.at b wide s k
  ol : OwnL wr w.heap.size (.slice (some ⟨g, 0, none⟩) t.l.length cap) t.l.length t.l
  op : OwnP wr w.heap.size ov t.out.length t.out
  bel : Below w.heap.size w wr

theorem Lp.one_stay {b : Nat} {wide : Bool} {t : Lp.St} {x : ByteArray} (h : 0 ≤ Lp.num t.l (t.last ++ x)) : Lp.one b wide t x = ⟨t.l, t.out, t.last ++ x⟩ := by unfold Lp.one; rw [if_pos h]
theorem Lp.one_full {b : Nat} {wide : Bool} {t : Lp.St} {x : ByteArray} (h : ¬ 0 ≤ Lp.num t.l (t.last ++ x)) (h2 : Lp.full wide ≤ t.l.length + 1) : Lp.one b wide t x = ⟨Lz.start b, (t.out ++ [Lp.code b wide (Lp.num t.l t.last) t.l.length]) ++ [Lp.code b wide ((2 ^ b : Nat) : Int) (t.l.length + 1)], x⟩ := by unfold Lp.one; rw [if_neg h, if_pos h2]
theorem Lp.one_add {b : Nat} {wide : Bool} {t : Lp.St} {x : ByteArray} (h : ¬ 0 ≤ Lp.num t.l (t.last ++ x)) (h2 : ¬ Lp.full wide ≤ t.l.length + 1) : Lp.one b wide t x = ⟨t.l ++ [t.last ++ x], t.out ++ [Lp.code b wide (Lp.num t.l t.last) t.l.length], x⟩ := by unfold Lp.one; rw [if_neg h, if_neg h2]

/-- what l6Put answers -/
def LpOut (w : World) (L : List (Int × Int)) (e : Ending) (w' : World) : Prop := ∃ ao cap, e = .returned (.slice ao L.length cap) ∧ Bits2 w' ao L ∧ Below w.heap.size w w'

set_option linter.unusedSimpArgs false in
set_option maxHeartbeats 4000000 in
set_option maxRecDepth 20000 in
theorem l6Put_any (b : Nat) (wide : Bool) (s : ByteArray) (w : World) (hb : b ≤ 8) (hsz : s.size ≤ 5000) (hsm : Lp.small b s) :
    Calls Try.prog 46 #[.string s, .int .i64 (b : Int), .bool wide] w (LpOut w (Lp.all b wide s)) := by
  have HPW : Hid (∀ w', Calls Try.prog 35 #[.int .i64 (b : Int)] w' fun e w'' => e = .returned (.int .i64 ((2 ^ b : Nat) : Int)) ∧ w'' = w') := fun w' => l1Pow_any b w' (by omega)
  have HST : Hid (∀ w', Calls Try.prog 54 #[.int .i64 (b : Int)] w' fun e w'' => ∃ g cap, e = .returned (.slice (some ⟨g, 0, none⟩) (2 ^ b + 2) cap) ∧ OwnL w'' w'.heap.size (.slice (some ⟨g, 0, none⟩) (2 ^ b + 2) cap) (2 ^ b + 2) (Lz.start b) ∧ Below w'.heap.size w' w'') := fun w' => l6Start_any b hb w'
  have HNU : Hid (∀ (base n g cap : Nat) (l : List ByteArray) (x : ByteArray) (w' : World), OwnL w' base (.slice (some ⟨g, 0, none⟩) n cap) n l → n ≤ 5000 → x.size ≤ 6000 → Calls Try.prog 64 #[.slice (some ⟨g, 0, none⟩) n cap, .string x] w' fun e w'' => e = .returned (.int .i64 (Lp.num l x)) ∧ w'' = w') := fun base n g cap l x w' => l6Num_any base n g cap l x w'
  have HCO : Hid (∀ (n cap : Nat) (ao : Option Addr) (v : Int) (w' : World), n ≤ 5000 → 1 ≤ n → Calls Try.prog 65 #[.int .i64 v, .slice ao n cap, .int .i64 (b : Int), .bool wide] w' fun e w'' => e = .returned (.agg #[.int .i64 (Lp.code b wide v n).1, .int .i64 (Lp.code b wide v n).2]) ∧ Below w'.heap.size w' w'') := fun n cap ao v w' => l6Code_any b n cap ao v wide w' hb
  have HFU : Hid (∀ w', Calls Try.prog 66 #[.bool wide] w' fun e w'' => e = .returned (.int .i64 (Lp.full wide : Int)) ∧ w'' = w') := fun w' => l6Full_any wide w'
  have HGD : Hid (∀ k, k ≤ s.size → Lp.Good b wide k (Lp.at b wide s k)) := fun k hk => Lp.good_at hb wide hsm k hk
  have hpw := Lz.pow_le hb
  have hfb := Lp.full_bd wide
  have HFIN : Hid (∀ t, t = Lp.at b wide s s.size → Lp.all b wide s = Lp.close b wide t) := fun t e => by rw [e]; rfl
  obtain ⟨P, hP⟩ : ∃ P : Nat, P = 2 ^ b := ⟨_, rfl⟩
  have HP : Hid (P = 2 ^ b) := hP
  rw [← hP] at HPW hpw HST
  obtain ⟨LL, hLL⟩ : ∃ LL, LL = Lp.all b wide s := ⟨_, rfl⟩
  rw [← hLL] at HFIN ⊢
  clear hP hsm hLL
  have e1 : IntKind.i64.wrap ((b : Int) + 1) = ((b + 1 : Nat) : Int) := by
    have := wrap_i64_nat (b + 1) (by omega)
    simpa using this
  go_enter Try.func46, Try.ntmps46
  go_wp2_with fail
  refine (HPW.out _).mono ?_
  rintro e w1 ⟨rfl, hw1⟩
  replace hw1 := hw1.symm
  subst hw1
  go_wp2_with fail
  refine (HST.out _).mono ?_
  rintro e w2 ⟨g0, cap0, rfl, ho2, b2⟩
  have hbz := b2.size
  have H0 : Hid (∃ t g cap ov, LpM w b wide s 0 t g cap ov (w2.alloc (.cells #[.int .i64 (P : Int), .int .i64 ((b : Int) + 1)] 94)) ∧ Value.slice (some ⟨g0, 0, none⟩) (P + 2) cap0 = .slice (some ⟨g, 0, none⟩) t.l.length cap ∧ Value.slice (some ⟨w2.heap.size, 0, none⟩) 1 1 = ov ∧ Value.string ⟨#[]⟩ = .string t.last) := by
    have hl : (Lp.init b).l.length = P + 2 := by show (Lz.start b).length = _; rw [Lz.start_len, HP.out]
    refine ⟨Lp.init b, g0, cap0, _, ⟨rfl, ?_, ?_, b2.alloc hbz _⟩, by rw [hl], rfl, rfl⟩
    · rw [hl]; exact (ho2.down (Nat.le_refl _)).alloc _
    · have hlit := World.ownsRow_lit (base := w.heap.size) (e := 94) (size := 2) w2 #[.int .i64 (P : Int), .int .i64 ((b : Int) + 1)] 1 hbz (by decide) rfl
      have ec : (#[Value.int .i64 (P : Int), .int .i64 ((b : Int) + 1)] : Array Value).toList = cellsOf (Lp.init b).out := by
        rw [HP.out]
        simp [Lp.init, cellsOf]
      rw [ec] at hlit
      exact hlit
  clear ho2 b2 hbz HPW
  go_wp2_with fail
  go_loopw [8, 9, 10, 11] (fun lv ov xv iv wr => ∃ k : Nat, k ≤ s.size ∧ iv = .int .i64 (k : Int) ∧ ∃ t g cap ov', LpM w b wide s k t g cap ov' wr ∧ lv = .slice (some ⟨g, 0, none⟩) t.l.length cap ∧ ov = ov' ∧ xv = .string t.last) (fun _ _ _ iv _ => s.size - (intOf iv).toNat)
  case atStart => exact ⟨0, Nat.zero_le _, rfl, H0.out⟩
  case round =>
    clear H0
    obtain ⟨k, hk, rfl, t, g, cap, ov, hM, rfl, rfl, rfl⟩ := hrel
    have HM : Hid (LpM w b wide s k t g cap u9 wr) := hM
    have HG : Hid (Lp.Good b wide k t) := by show Lp.Good _ _ _ _; rw [hM.eq]; exact HGD.out k hk
    have hlo := HG.out.lo
    have hhi := HG.out.hi
    have hla := HG.out.last
    have hol := Lp.len_bd hb HG.out (by omega)
    rw [← HP.out] at hlo
    have hbw := hM.bel.size
    clear hM
    obtain ⟨n, hn⟩ : ∃ n, n = t.l.length := ⟨_, rfl⟩
    have HN : Hid (n = t.l.length) := hn
    rw [← hn] at hlo hhi ⊢
    clear hn
    have HOL : Hid (OwnL wr w.heap.size (.slice (some ⟨g, 0, none⟩) n cap) n t.l) := by show OwnL _ _ _ _ _; rw [HN.out]; exact HM.out.ol
    by_cases hlt : k < s.size
    · obtain ⟨x, hx⟩ : ∃ x, x = s.extract k (k + 1) := ⟨_, rfl⟩
      have HX : Hid (x = s.extract k (k + 1)) := hx
      have hxs : x.size = 1 := by rw [hx, ByteArray.size_extract]; omega
      obtain ⟨z, hz⟩ : ∃ z, z = t.last ++ x := ⟨_, rfl⟩
      have HZ : Hid (z = t.last ++ x) := hz
      have hzs : z.size = t.last.size + 1 := by rw [hz, ByteArray.size_append, hxs]
      have hxe : s.extract k (k + 1) = x := hx.symm
      have hze : t.last ++ x = z := hz.symm
      have hik : (k : Int) < (s.size : Int) := by omega
      have hlz : ¬ 9223372036854775807 < t.last.size + x.size := by omega
      have HNX : Hid (Lp.at b wide s (k + 1) = Lp.one b wide t x) := by show _ = _; rw [HM.out.eq, HX.out]; rfl
      have HN1 : Hid (∀ w', w' = wr → Calls Try.prog 64 #[.slice (some ⟨g, 0, none⟩) n cap, .string z] w' fun e w'' => e = .returned (.int .i64 (Lp.num t.l z)) ∧ w'' = w') := fun w' e => by subst e; exact HNU.out w.heap.size n g cap t.l z w' HOL.out (by omega) (by omega)
      have HN2 : Hid (∀ w', w' = wr → Calls Try.prog 64 #[.slice (some ⟨g, 0, none⟩) n cap, .string t.last] w' fun e w'' => e = .returned (.int .i64 (Lp.num t.l t.last)) ∧ w'' = w') := fun w' e => by subst e; exact HNU.out w.heap.size n g cap t.l t.last w' HOL.out (by omega) (by omega)
      clear hx hz hzs HNU HFIN
      by_cases hst : 0 ≤ Lp.num t.l z
      · have HNEW : Hid (LpM w b wide s (k + 1) ⟨t.l, t.out, z⟩ g cap u9 wr) := by
          refine ⟨?_, HM.out.ol, HM.out.op, HM.out.bel⟩
          rw [HNX.out, Lp.one_stay (by rw [← HZ.out]; exact hst), ← HZ.out]
        have HFL : Hid (∃ t' g' cap' ov', LpM w b wide s (k + 1) t' g' cap' ov' wr ∧ Value.slice (some ⟨g, 0, none⟩) n cap = .slice (some ⟨g', 0, none⟩) t'.l.length cap' ∧ u9 = ov' ∧ Value.string z = .string t'.last) := ⟨_, g, cap, u9, HNEW.out, by rw [HN.out], rfl, rfl⟩
        have hge : (Lp.num t.l z) ≥ 0 := hst
        generalize Lp.num t.l z = V at *
        clear HNEW HM HG HN2 HNX HOL
        go_wp2_with fail
        refine (HN1.out _ rfl).mono ?_
        rintro e w1 ⟨rfl, hw1⟩
        replace hw1 := hw1.symm
        subst hw1
        go_wp2_with fail
        go_roundw
        case rel => exact ⟨k + 1, by omega, by go_num, HFL.out⟩
        case measure => simp [intOf]; omega
      · have HNS : Hid (Lp.num t.l (t.last ++ x) < 0) := by show _ < _; rw [← HZ.out]; omega
        have hlt0 : ¬ (Lp.num t.l z) ≥ 0 := hst
        have HOP : Hid (OwnP wr w.heap.size u9 t.out.length t.out) := HM.out.op
        have HBE : Hid (Below w.heap.size w wr) := HM.out.bel
        generalize hV : Lp.num t.l z = V at *
        clear hV
        obtain ⟨V2, hV2⟩ : ∃ V2, V2 = Lp.num t.l t.last := ⟨_, rfl⟩
        have HV2 : Hid (V2 = Lp.num t.l t.last) := hV2
        rw [← hV2] at HN2
        obtain ⟨C, hC⟩ : ∃ C, C = Lp.code b wide V2 n := ⟨_, rfl⟩
        have HC : Hid (C = Lp.code b wide V2 n) := hC
        have HCC : Hid (∀ w' ca ao, Calls Try.prog 65 #[.int .i64 V2, .slice ao n ca, .int .i64 (b : Int), .bool wide] w' fun e w'' => e = .returned (.agg #[.int .i64 C.1, .int .i64 C.2]) ∧ Below w'.heap.size w' w'') := fun w' ca ao => by rw [hC]; exact HCO.out n ca ao V2 w' (by omega) (by omega)
        obtain ⟨M, hMo⟩ : ∃ M, M = t.out.length := ⟨_, rfl⟩
        have HMo : Hid (M = t.out.length) := hMo
        have hMb : M ≤ 5002 := by rw [hMo]; exact hol
        clear hV2 hC hMo hol
        go_wp2_with fail
        refine (HN1.out _ rfl).mono ?_
        rintro e w1 ⟨rfl, hw1⟩
        replace hw1 := hw1.symm
        subst hw1
        clear HN1
        go_wp2_with fail
        refine (HN2.out _ rfl).mono ?_
        rintro e w1 ⟨rfl, hw1⟩
        replace hw1 := hw1.symm
        subst hw1
        clear HN2
        go_wp2_with fail
        refine (HCC.out _ _ _).mono ?_
        rintro e w3 ⟨rfl, b3⟩
        have HOL3 : Hid (OwnL w3 w.heap.size (.slice (some ⟨g, 0, none⟩) n cap) n t.l) := row_below HOL.out b3
        have HOP3 : Hid (OwnP w3 w.heap.size u9 M t.out) := by show OwnP _ _ _ _ _; rw [HMo.out]; exact row_below HOP.out b3
        have HBE3 : Hid (Below w.heap.size w w3) := HBE.out.trans (b3.mono hbw)
        have hbw3 : w.heap.size ≤ w3.heap.size := Nat.le_trans hbw b3.size
        clear b3 HOL HOP HBE HCC hbw
        go_wp2_with (at_builtin; refine wpList_appP w3 (by rfl) _ _ (by rfl) w.heap.size _ M t.out C (by rfl) HOP3.out (by rfl) (by omega) hbw3 ?_)
        intro g4 cap4 w4 ho4 hg4
        have HOP4 : Hid (OwnP w4 w.heap.size (.slice (some ⟨g4, 0, none⟩) (M + 1) cap4) (M + 1) (t.out ++ [C])) := ho4
        have HOL4 : Hid (OwnL w4 w.heap.size (.slice (some ⟨g, 0, none⟩) n cap) n t.l) := row_grew HOL3.out HOP3.out (by decide) hg4
        have HBE4 : Hid (Below w.heap.size w w4) := hg4.below HBE3.out (Nat.le_refl _) hbw3
        have hbw4 : w.heap.size ≤ w4.heap.size := HBE4.out.size
        clear ho4 hg4 HOL3 HOP3 HBE3 hbw3
        go_wp2_with (at_builtin; refine wpList_appL w4 (by rfl) _ _ (by rfl) w.heap.size _ n t.l z (by rfl) HOL4.out (by rfl) (by omega) hbw4 ?_)
        intro g5 cap5 w5 ho5 hg5
        have HOL5 : Hid (OwnL w5 w.heap.size (.slice (some ⟨g5, 0, none⟩) (n + 1) cap5) (n + 1) (t.l ++ [z])) := ho5
        have HOP5 : Hid (OwnP w5 w.heap.size (.slice (some ⟨g4, 0, none⟩) (M + 1) cap4) (M + 1) (t.out ++ [C])) := row_grew HOP4.out HOL4.out (by decide) hg5
        have HBE5 : Hid (Below w.heap.size w w5) := hg5.below HBE4.out (Nat.le_refl _) hbw4
        have hbw5 : w.heap.size ≤ w5.heap.size := HBE5.out.size
        clear ho5 hg5 HOL4 HOP4 HBE4 hbw4
        by_cases hfull : Lp.full wide ≤ n + 1
        · have HNXT : Hid (Lp.at b wide s (k + 1) = ⟨Lz.start b, (t.out ++ [C]) ++ [Lp.code b wide ((2 ^ b : Nat) : Int) (n + 1)], x⟩) := by
            show _ = _
            rw [HNX.out, Lp.one_full (by have := HNS.out; omega) (by rw [← HN.out]; exact hfull), HC.out, HV2.out, HN.out]
          obtain ⟨D, hD⟩ : ∃ D, D = Lp.code b wide ((P : Nat) : Int) (n + 1) := ⟨_, rfl⟩
          have HD : Hid (D = Lp.code b wide ((P : Nat) : Int) (n + 1)) := hD
          have HCD : Hid (∀ w' ca ao, Calls Try.prog 65 #[.int .i64 (P : Int), .slice ao (n + 1) ca, .int .i64 (b : Int), .bool wide] w' fun e w'' => e = .returned (.agg #[.int .i64 D.1, .int .i64 D.2]) ∧ Below w'.heap.size w' w'') := fun w' ca ao => by rw [hD]; exact HCO.out (n + 1) ca ao (P : Int) w' (by omega) (by omega)
          have hge2 : ((n : Int) + 1) ≥ (Lp.full wide : Int) := by omega
          obtain ⟨F, hF⟩ : ∃ F, F = Lp.full wide := ⟨_, rfl⟩
          rw [← hF] at HFU hge2 hfull hfb
          clear hD hF HG HM HNX HNS
          go_wp2_with fail
          refine (HFU.out _).mono ?_
          rintro e w6 ⟨rfl, hw6⟩
          replace hw6 := hw6.symm
          subst hw6
          go_wp2_with fail
          refine (HCD.out _ _ _).mono ?_
          rintro e w6 ⟨rfl, b6⟩
          have HOP6 : Hid (OwnP w6 w.heap.size (.slice (some ⟨g4, 0, none⟩) (M + 1) cap4) (M + 1) (t.out ++ [C])) := row_below HOP5.out b6
          have HBE6 : Hid (Below w.heap.size w w6) := HBE5.out.trans (b6.mono hbw5)
          have hbw6 : w.heap.size ≤ w6.heap.size := HBE6.out.size
          clear b6 HOL5 HOP5 HBE5 hbw5 HCD
          go_wp2_with (at_builtin; refine wpList_appP w6 (by rfl) _ _ (by rfl) w.heap.size _ (M + 1) (t.out ++ [C]) D (by rfl) HOP6.out (by rfl) (by omega) hbw6 ?_)
          intro g7 cap7 w7 ho7 hg7
          have HOP7 : Hid (OwnP w7 w.heap.size (.slice (some ⟨g7, 0, none⟩) (M + 1 + 1) cap7) (M + 1 + 1) ((t.out ++ [C]) ++ [D])) := by show OwnP _ _ _ _ _; rw [List.append_assoc]; exact ho7
          have HBE7 : Hid (Below w.heap.size w w7) := hg7.below HBE6.out (Nat.le_refl _) hbw6
          have hbw7 : w.heap.size ≤ w7.heap.size := HBE7.out.size
          clear ho7 hg7 HOP6 HBE6 hbw6
          go_wp2_with fail
          refine (HST.out _).mono ?_
          rintro e w8 ⟨g8, cap8, rfl, ho8, b8⟩
          have HFL : Hid (∃ t' g' cap' ov', LpM w b wide s (k + 1) t' g' cap' ov' w8 ∧ Value.slice (some ⟨g8, 0, none⟩) (P + 2) cap8 = .slice (some ⟨g', 0, none⟩) t'.l.length cap' ∧ Value.slice (some ⟨g7, 0, none⟩) (M + 1 + 1) cap7 = ov' ∧ Value.string x = .string t'.last) := by
            have hl : (Lz.start b).length = P + 2 := by rw [Lz.start_len, HP.out]
            refine ⟨_, g8, cap8, _, ⟨rfl, ?_, ?_, HBE7.out.trans (b8.mono hbw7)⟩, ?_, rfl, ?_⟩
            · rw [HNXT.out]; show OwnL _ _ (.slice _ (Lz.start b).length _) (Lz.start b).length (Lz.start b); rw [hl]; exact ho8.down hbw7
            · rw [HNXT.out]
              show OwnP _ _ _ ((t.out ++ [C]) ++ [Lp.code b wide ((2 ^ b : Nat) : Int) (n + 1)]).length ((t.out ++ [C]) ++ [Lp.code b wide ((2 ^ b : Nat) : Int) (n + 1)])
              rw [← HP.out, ← HD.out]
              have hlM : ((t.out ++ [C]) ++ [D]).length = M + 1 + 1 := by rw [List.length_append, List.length_append, ← HMo.out]; rfl
              rw [hlM]
              exact row_below HOP7.out b8
            · rw [HNXT.out]; show _ = Value.slice _ (Lz.start b).length _; rw [hl]
            · rw [HNXT.out]
          clear ho8 b8 HOP7 HBE7 hbw7 HNXT
          go_wp2_with fail
          go_roundw
          case rel => first | exact ⟨k + 1, by omega, by go_num, HFL.out⟩ | exact ⟨k + 1, by omega, by go_num, by simpa using HFL.out⟩
          case measure => simp [intOf]; omega
        · have HNXT : Hid (Lp.at b wide s (k + 1) = ⟨t.l ++ [z], t.out ++ [C], x⟩) := by
            show _ = _
            rw [HNX.out, Lp.one_add (by have := HNS.out; omega) (by rw [← HN.out]; exact hfull), HC.out, HV2.out, HN.out, HZ.out]
          have hge2 : ¬ ((n : Int) + 1) ≥ (Lp.full wide : Int) := by omega
          have HFL : Hid (∃ t' g' cap' ov', LpM w b wide s (k + 1) t' g' cap' ov' w5 ∧ Value.slice (some ⟨g5, 0, none⟩) (n + 1) cap5 = .slice (some ⟨g', 0, none⟩) t'.l.length cap' ∧ Value.slice (some ⟨g4, 0, none⟩) (M + 1) cap4 = ov' ∧ Value.string x = .string t'.last) := by
            have hl : (t.l ++ [z]).length = n + 1 := by rw [List.length_append, ← HN.out]; rfl
            refine ⟨_, g5, cap5, _, ⟨rfl, ?_, ?_, HBE5.out⟩, ?_, rfl, ?_⟩
            · rw [HNXT.out]; show OwnL _ _ (.slice _ (t.l ++ [z]).length _) (t.l ++ [z]).length (t.l ++ [z]); rw [hl]; exact HOL5.out
            · rw [HNXT.out]
              show OwnP _ _ _ (t.out ++ [C]).length (t.out ++ [C])
              have hlM : (t.out ++ [C]).length = M + 1 := by rw [List.length_append, ← HMo.out]; rfl
              rw [hlM]
              exact HOP5.out
            · rw [HNXT.out]; show _ = Value.slice _ (t.l ++ [z]).length _; rw [hl]
            · rw [HNXT.out]
          obtain ⟨F, hF⟩ : ∃ F, F = Lp.full wide := ⟨_, rfl⟩
          rw [← hF] at HFU hge2 hfull hfb
          clear hF HG HM HNX HNS HOL5 HOP5 HBE5 hbw5 HNXT
          go_wp2_with fail
          refine (HFU.out _).mono ?_
          rintro e w6 ⟨rfl, hw6⟩
          replace hw6 := hw6.symm
          subst hw6
          go_wp2_with fail
          go_roundw
          case rel => exact ⟨k + 1, by omega, by go_num, HFL.out⟩
          case measure => simp [intOf]; omega
    · have hks : k = s.size := by omega
      have HALL : Hid (LL = Lp.close b wide t) := HFIN.out t (by rw [HM.out.eq, hks])
      have HOP : Hid (OwnP wr w.heap.size u9 t.out.length t.out) := HM.out.op
      have HBE : Hid (Below w.heap.size w wr) := HM.out.bel
      have hik : ¬ (k : Int) < (s.size : Int) := by omega
      obtain ⟨M, hMo⟩ : ∃ M, M = t.out.length := ⟨_, rfl⟩
      have HMo : Hid (M = t.out.length) := hMo
      have hMb : M ≤ 5002 := by rw [hMo]; exact hol
      clear hks hMo hol HFIN HFU HST
      by_cases hl0 : t.last.size = 0
      · have HA2 : Hid (LL = t.out ++ [Lp.code b wide ((P : Int) + 1) n]) := by
          show _ = _
          rw [HALL.out]; unfold Lp.close; rw [if_pos hl0, HP.out, HN.out]
        have hem : t.last.toList.isEmpty = true := by
          rw [List.isEmpty_iff]
          exact List.eq_nil_of_length_eq_zero (by rw [toList_len]; exact hl0)
        obtain ⟨D, hD⟩ : ∃ D, D = Lp.code b wide ((P : Int) + 1) n := ⟨_, rfl⟩
        rw [← hD] at HA2
        have HCD : Hid (∀ w' ca ao, Calls Try.prog 65 #[.int .i64 ((P : Int) + 1), .slice ao n ca, .int .i64 (b : Int), .bool wide] w' fun e w'' => e = .returned (.agg #[.int .i64 D.1, .int .i64 D.2]) ∧ Below w'.heap.size w' w'') := fun w' ca ao => by rw [hD]; exact HCO.out n ca ao ((P : Int) + 1) w' (by omega) (by omega)
        clear hD HM HG HNU HALL
        go_wp2_with fail
        refine (HCD.out _ _ _).mono ?_
        rintro e w3 ⟨rfl, b3⟩
        have HOP3 : Hid (OwnP w3 w.heap.size u9 M t.out) := by show OwnP _ _ _ _ _; rw [HMo.out]; exact row_below HOP.out b3
        have HBE3 : Hid (Below w.heap.size w w3) := HBE.out.trans (b3.mono hbw)
        have hbw3 : w.heap.size ≤ w3.heap.size := HBE3.out.size
        clear b3 HOP HBE HCD
        go_wp2_with (at_builtin; refine wpList_appP w3 (by rfl) _ _ (by rfl) w.heap.size _ M t.out D (by rfl) HOP3.out (by rfl) (by omega) hbw3 ?_)
        intro g4 cap4 w4 ho4 hg4
        have HF : Hid (LpOut w LL (.returned (.slice (some ⟨g4, 0, none⟩) (M + 1) cap4)) w4) := by
          obtain ⟨ao, c2, he, hbits⟩ := OwnP.bits ho4
          cases he
          refine ⟨_, cap4, ?_, by rw [HA2.out]; exact hbits, hg4.below HBE3.out (Nat.le_refl _) hbw3⟩
          rw [HA2.out, List.length_append, ← HMo.out]; rfl
        clear ho4 hg4
        go_wp2_with fail
        go_ret
        exact HF.out
      · have HA2 : Hid (LL = (t.out ++ [Lp.code b wide (Lp.num t.l t.last) n]) ++ [Lp.code b wide ((P : Int) + 1) (n + 1)]) := by
          show _ = _
          rw [HALL.out]; unfold Lp.close; rw [if_neg hl0, HP.out, HN.out]
        have hem : t.last.toList.isEmpty = false := by
          rw [← Bool.not_eq_true, List.isEmpty_iff]
          exact fun e => hl0 (by have h := congrArg List.length e; rw [toList_len] at h; exact h)
        have HN2 : Hid (∀ w', w' = wr → Calls Try.prog 64 #[.slice (some ⟨g, 0, none⟩) n cap, .string t.last] w' fun e w'' => e = .returned (.int .i64 (Lp.num t.l t.last)) ∧ w'' = w') := fun w' e => by subst e; exact HNU.out w.heap.size n g cap t.l t.last w' HOL.out (by omega) (by omega)
        obtain ⟨V2, hV2⟩ : ∃ V2, V2 = Lp.num t.l t.last := ⟨_, rfl⟩
        rw [← hV2] at HN2 HA2
        obtain ⟨C, hC⟩ : ∃ C, C = Lp.code b wide V2 n := ⟨_, rfl⟩
        have HCC : Hid (∀ w' ca ao, Calls Try.prog 65 #[.int .i64 V2, .slice ao n ca, .int .i64 (b : Int), .bool wide] w' fun e w'' => e = .returned (.agg #[.int .i64 C.1, .int .i64 C.2]) ∧ Below w'.heap.size w' w'') := fun w' ca ao => by rw [hC]; exact HCO.out n ca ao V2 w' (by omega) (by omega)
        obtain ⟨D, hD⟩ : ∃ D, D = Lp.code b wide ((P : Int) + 1) (n + 1) := ⟨_, rfl⟩
        rw [← hD, ← hC] at HA2
        have HCD : Hid (∀ w' ca ao, Calls Try.prog 65 #[.int .i64 ((P : Int) + 1), .slice ao (n + 1) ca, .int .i64 (b : Int), .bool wide] w' fun e w'' => e = .returned (.agg #[.int .i64 D.1, .int .i64 D.2]) ∧ Below w'.heap.size w' w'') := fun w' ca ao => by rw [hD]; exact HCO.out (n + 1) ca ao ((P : Int) + 1) w' (by omega) (by omega)
        clear hD hC hV2 HM HG HNU HALL
        go_wp2_with fail
        refine (HN2.out _ rfl).mono ?_
        rintro e w1 ⟨rfl, hw1⟩
        replace hw1 := hw1.symm
        subst hw1
        go_wp2_with fail
        refine (HCC.out _ _ _).mono ?_
        rintro e w3 ⟨rfl, b3⟩
        have HOP3 : Hid (OwnP w3 w.heap.size u9 M t.out) := by show OwnP _ _ _ _ _; rw [HMo.out]; exact row_below HOP.out b3
        have HOL3 : Hid (OwnL w3 w.heap.size (.slice (some ⟨g, 0, none⟩) n cap) n t.l) := row_below HOL.out b3
        have HBE3 : Hid (Below w.heap.size w w3) := HBE.out.trans (b3.mono hbw)
        have hbw3 : w.heap.size ≤ w3.heap.size := HBE3.out.size
        clear b3 HOP HBE HCC HN2 HOL
        go_wp2_with (at_builtin; refine wpList_appP w3 (by rfl) _ _ (by rfl) w.heap.size _ M t.out C (by rfl) HOP3.out (by rfl) (by omega) hbw3 ?_)
        intro g4 cap4 w4 ho4 hg4
        have HOP4 : Hid (OwnP w4 w.heap.size (.slice (some ⟨g4, 0, none⟩) (M + 1) cap4) (M + 1) (t.out ++ [C])) := ho4
        have HOL4 : Hid (OwnL w4 w.heap.size (.slice (some ⟨g, 0, none⟩) n cap) n t.l) := row_grew HOL3.out HOP3.out (by decide) hg4
        have HBE4 : Hid (Below w.heap.size w w4) := hg4.below HBE3.out (Nat.le_refl _) hbw3
        have hbw4 : w.heap.size ≤ w4.heap.size := HBE4.out.size
        clear ho4 hg4 HOL3 HOP3 HBE3 hbw3
        go_wp2_with (at_builtin; refine wpList_appL w4 (by rfl) _ _ (by rfl) w.heap.size _ n t.l ⟨#[]⟩ (by rfl) HOL4.out (by rfl) (by omega) hbw4 ?_)
        intro g5 cap5 w5 ho5 hg5
        have HOP5 : Hid (OwnP w5 w.heap.size (.slice (some ⟨g4, 0, none⟩) (M + 1) cap4) (M + 1) (t.out ++ [C])) := row_grew HOP4.out HOL4.out (by decide) hg5
        have HBE5 : Hid (Below w.heap.size w w5) := hg5.below HBE4.out (Nat.le_refl _) hbw4
        have hbw5 : w.heap.size ≤ w5.heap.size := HBE5.out.size
        clear ho5 hg5 HOL4 HOP4 HBE4 hbw4
        go_wp2_with fail
        refine (HCD.out _ _ _).mono ?_
        rintro e w6 ⟨rfl, b6⟩
        have HOP6 : Hid (OwnP w6 w.heap.size (.slice (some ⟨g4, 0, none⟩) (M + 1) cap4) (M + 1) (t.out ++ [C])) := row_below HOP5.out b6
        have HBE6 : Hid (Below w.heap.size w w6) := HBE5.out.trans (b6.mono hbw5)
        have hbw6 : w.heap.size ≤ w6.heap.size := HBE6.out.size
        clear b6 HOP5 HBE5 hbw5 HCD
        go_wp2_with (at_builtin; refine wpList_appP w6 (by rfl) _ _ (by rfl) w.heap.size _ (M + 1) (t.out ++ [C]) D (by rfl) HOP6.out (by rfl) (by omega) hbw6 ?_)
        intro g7 cap7 w7 ho7 hg7
        have HF : Hid (LpOut w LL (.returned (.slice (some ⟨g7, 0, none⟩) (M + 1 + 1) cap7)) w7) := by
          obtain ⟨ao, c2, he, hbits⟩ := OwnP.bits ho7
          cases he
          refine ⟨_, cap7, ?_, by rw [HA2.out, List.append_assoc]; exact hbits, hg7.below HBE6.out (Nat.le_refl _) hbw6⟩
          rw [HA2.out, List.length_append, List.length_append, ← HMo.out]; rfl
        clear ho7 hg7
        go_wp2_with fail
        go_ret
        exact HF.out

/-- the text that LzwPut answers -/
def Lp.ok (s : ByteArray) (b : Int) (wide : Bool) : Bool := Lz.ok b wide && decide (s.size ≤ 5000) && Lp.smallB b.toNat s
def Lp.ans (s : ByteArray) (b : Int) (wide : Bool) : List UInt8 := if Lp.ok s b wide then (Bp.text wide (Lp.all b.toNat wide s)).map UInt8.ofNat else []
theorem Lz.ok_rng {b : Int} {wide : Bool} (h : Lz.ok b wide = true) : 2 ≤ b ∧ b ≤ 8 := by
  unfold Lz.ok at h
  split at h
  · have := eq_of_beq h; omega
  · simp at h; omega
theorem Lp.ans_len (s : ByteArray) (b : Int) (wide : Bool) : (Lp.ans s b wide).length ≤ 9000 := by
  unfold Lp.ans
  split
  · rename_i h
    unfold Lp.ok at h
    simp only [Bool.and_eq_true, decide_eq_true_eq] at h
    obtain ⟨⟨h1, h2⟩, h3⟩ := h
    have hb := Lz.ok_rng h1
    have hf := Lp.all_ok (b := b.toNat) (by omega) (by omega) wide (Lp.small_of h3) h2
    have ht := Bp.fits_tot hf.1 (Nat.le_refl _) (Nat.le_refl _)
    rw [List.length_map]
    unfold Bp.text
    rw [Bp.pack_len]
    omega
  · simp

set_option maxHeartbeats 1000000 in
theorem spec_lzwPut (s : ByteArray) (b : Int) (wide : Bool) (w : World) (hs : s.size ≤ 3000000)
    (HOK0 : ∀ w, Calls Try.prog 31 #[.int .i64 b, .bool wide] w fun e w' => e = .returned (.bool (Lz.ok b wide)) ∧ w' = w) :
    Calls Try.prog 14 #[.string s, .int .i64 b, .bool wide] w fun e w' => e = .returned (.string ⟨(Lp.ans s b wide).toArray⟩) ∧ Below w.heap.size w w' := by
  have HOK : Hid (∀ w, Calls Try.prog 31 #[.int .i64 b, .bool wide] w fun e w' => e = .returned (.bool (Lz.ok b wide)) ∧ w' = w) := HOK0
  clear HOK0
  cases hk : Lz.ok b wide with
  | false =>
    have HA : Hid (Lp.ans s b wide = []) := by show _ = _; unfold Lp.ans Lp.ok; rw [hk]; rfl
    rw [hk] at HOK
    rw [HA.out]
    clear hk
    go_enter Try.func14, Try.ntmps14
    go_wp2_with fail
    refine (HOK.out _).mono ?_
    rintro e w1 ⟨rfl, hw1⟩
    replace hw1 := hw1.symm
    subst hw1
    go_wp2_with fail
    go_ret
    exact ⟨rfl, Below.refl _ _⟩
  | true =>
    have hbd := Lz.ok_rng hk
    obtain ⟨B, rfl⟩ := Int.eq_ofNat_of_zero_le (show 0 ≤ b by omega)
    have HAN : Hid (Lp.ans s B wide = if (decide (s.size ≤ 5000) && Lp.smallB B s) then (Bp.text wide (Lp.all B wide s)).map UInt8.ofNat else []) := by show _ = _; unfold Lp.ans Lp.ok; rw [hk, Bool.true_and, Int.toNat_natCast]
    rw [hk] at HOK
    clear hk
    by_cases h5 : 5000 < s.size
    · have HA : Hid (Lp.ans s B wide = []) := by show _ = _; rw [HAN.out, decide_eq_false (by omega)]; rfl
      rw [HA.out]
      have d1 : decide ((s.size : Int) > 5000) = true := decide_eq_true (by omega)
      clear HAN
      go_enter Try.func14, Try.ntmps14
      go_wp2_with fail
      refine (HOK.out _).mono ?_
      rintro e w1 ⟨rfl, hw1⟩
      replace hw1 := hw1.symm
      subst hw1
      go_wp2_with fail
      go_ret
      exact ⟨rfl, Below.refl _ _⟩
    · have d1 : decide ((s.size : Int) > 5000) = false := decide_eq_false (by omega)
      have HFT : Hid (∀ w, Calls Try.prog 44 #[.string s, .int .i64 (B : Int)] w fun e w' => e = .returned (.bool (Lp.smallB B s)) ∧ ∃ m, w' = w.drewN m) := fun w => l6Fits_any B s w (by omega) (by omega)
      cases hsm : Lp.smallB B s with
      | false =>
        have HA : Hid (Lp.ans s B wide = []) := by show _ = _; rw [HAN.out, hsm, Bool.and_false]; rfl
        rw [HA.out]
        rw [hsm] at HFT
        clear HAN hsm
        go_enter Try.func14, Try.ntmps14
        go_wp2_with fail
        refine (HOK.out _).mono ?_
        rintro e w1 ⟨rfl, hw1⟩
        replace hw1 := hw1.symm
        subst hw1
        go_wp2_with fail
        refine (HFT.out _).mono ?_
        rintro e w1 ⟨rfl, m, rfl⟩
        go_wp2_with fail
        go_ret
        exact ⟨rfl, below_drewN (Below.refl _ _) _⟩
      | true =>
        have HA : Hid (Lp.ans s B wide = (Bp.text wide (Lp.all B wide s)).map UInt8.ofNat) := by show _ = _; rw [HAN.out, hsm, Bool.and_true, decide_eq_true (by omega)]; rfl
        have hf := Lp.all_ok (b := B) (by omega) (by omega) wide (Lp.small_of hsm) (by omega)
        have HPU : Hid (∀ w, Calls Try.prog 46 #[.string s, .int .i64 (B : Int), .bool wide] w (LpOut w (Lp.all B wide s))) := fun w => l6Put_any B wide s w (by omega) (by omega) (Lp.small_of hsm)
        rw [HA.out]
        rw [hsm] at HFT
        generalize Lp.all B wide s = L at *
        have HPK : Hid (∀ (a : Option Addr) (cap : Nat) (w : World), Bits2 w a L → Calls Try.prog 45 #[.slice a L.length cap, .bool wide] w fun e w' => e = .returned (.string ⟨((Bp.text wide L).map UInt8.ofNat).toArray⟩) ∧ Below w.heap.size w w') := fun a cap w h => l1Put_any wide a L.length cap L w h rfl (by omega) hf.1
        generalize hT : (Bp.text wide L).map UInt8.ofNat = T at *
        clear HAN hsm hf HA hT
        go_enter Try.func14, Try.ntmps14
        go_wp2_with fail
        refine (HOK.out _).mono ?_
        rintro e w1 ⟨rfl, hw1⟩
        replace hw1 := hw1.symm
        subst hw1
        go_wp2_with fail
        refine (HFT.out _).mono ?_
        rintro e w1 ⟨rfl, m, hw1⟩
        have B1 : Hid (Below w.heap.size w w1) := by show Below _ _ _; rw [hw1]; exact below_drewN (Below.refl _ _) _
        clear hw1
        go_wp2_with fail
        refine (HPU.out _).mono ?_
        rintro e w2 ⟨ao, cap, rfl, hbits, b2⟩
        have B2 : Hid (Below w.heap.size w w2) := B1.out.trans (b2.mono B1.out.size)
        have HBI : Hid (Bits2 w2 ao L) := hbits
        clear b2 hbits
        go_wp2_with fail
        refine (HPK.out ao cap w2 HBI.out).mono ?_
        rintro e w3 ⟨rfl, b3⟩
        have B3 : Hid (Below w.heap.size w w3) := B2.out.trans (b3.mono B2.out.size)
        clear b3
        go_wp2_with fail
        go_ret
        exact ⟨rfl, B3.out⟩
end Go.Proofs.Ytjfihmpnbblomaa

/- BitsPut of the program, for every list of bits. -/
namespace Go.Proofs.Ytjfihmpnbblomaa
open Go.RowKit

theorem shr_zero (V S : Nat) (h : V < 2 ^ S) : ((V : Int) / 2 ^ S == 0) = true := by
  have e : (V : Int) / 2 ^ S = ((V / 2 ^ S : Nat) : Int) := by simp
  rw [e, Nat.div_eq_of_lt h]; rfl
theorem shr_more (V S : Nat) (h : ¬ V < 2 ^ S) : ((V : Int) / 2 ^ S == 0) = false := by
  have e : (V : Int) / 2 ^ S = ((V / 2 ^ S : Nat) : Int) := by simp
  have hp : 0 < V / 2 ^ S := Nat.div_pos (by omega) (Nat.pow_pos (by omega))
  rw [e, beq_eq_false_iff_ne]; omega

set_option maxHeartbeats 1000000 in
theorem bitOk_any (p : Int × Int) (w : World) (h1 : -9223372036854775808 ≤ p.1) (h2 : p.1 ≤ 9223372036854775807) :
    Calls Try.prog 62 #[.agg #[.int .i64 p.1, .int .i64 p.2]] w fun e w' => e = .returned (.bool (Bp.okB p)) ∧ Below w.heap.size w w' := by
  obtain ⟨v, s⟩ := p
  simp only at h1 h2 ⊢
  by_cases a1 : 0 ≤ s
  · have d1 : decide (0 ≤ s) = true := by simpa using a1
    by_cases a2 : s ≤ 24
    · have d2 : decide (s ≤ 24) = true := by simpa using a2
      by_cases a3 : 0 ≤ v
      · have d3 : decide (0 ≤ v) = true := by simpa using a3
        obtain ⟨S, rfl⟩ := Int.eq_ofNat_of_zero_le a1
        obtain ⟨V, rfl⟩ := Int.eq_ofNat_of_zero_le a3
        by_cases a4 : V < 2 ^ S
        · have hok : Bp.okB ((V : Int), (S : Int)) = true := Bp.okB_true ⟨a1, a2, a3, by
            show (V : Int).toNat < 2 ^ (S : Int).toNat
            rw [Int.toNat_natCast, Int.toNat_natCast]; exact a4⟩
          have hz := shr_zero V S a4
          have HO : Hid (Bp.okB ((V : Int), (S : Int)) = true) := hok
          have hS24 : S ≤ 24 := by omega
          clear hok a4 a1 a2 a3
          go_enter Try.func62, Try.ntmps62
          go_wp2_with fail
          go_ret
          exact ⟨by rw [HO.out]; rfl, (Below.refl _ _).alloc (Nat.le_refl _) _⟩
        · have hok : Bp.okB ((V : Int), (S : Int)) = false := Bp.okB_false (fun g => a4 (by
            have h4 : (V : Int).toNat < 2 ^ (S : Int).toNat := g.2.2.2
            rw [Int.toNat_natCast, Int.toNat_natCast] at h4; exact h4))
          have hz := shr_more V S a4
          have HO : Hid (Bp.okB ((V : Int), (S : Int)) = false) := hok
          have hS24 : S ≤ 24 := by omega
          clear hok a4 a1 a2 a3
          go_enter Try.func62, Try.ntmps62
          go_wp2_with fail
          go_ret
          exact ⟨by rw [HO.out]; rfl, (Below.refl _ _).alloc (Nat.le_refl _) _⟩
      · have d3 : decide (0 ≤ v) = false := by simpa using a3
        have HO : Hid (Bp.okB (v, s) = false) := Bp.okB_false (fun g => a3 g.2.2.1)
        clear a3
        go_enter Try.func62, Try.ntmps62
        go_wp2_with fail
        go_ret
        exact ⟨by rw [HO.out]; rfl, (Below.refl _ _).alloc (Nat.le_refl _) _⟩
    · have d2 : decide (s ≤ 24) = false := by simpa using a2
      have HO : Hid (Bp.okB (v, s) = false) := Bp.okB_false (fun g => a2 g.2.1)
      clear a2
      go_enter Try.func62, Try.ntmps62
      go_wp2_with fail
      go_ret
      exact ⟨by rw [HO.out]; rfl, (Below.refl _ _).alloc (Nat.le_refl _) _⟩
  · have d1 : decide (0 ≤ s) = false := by simpa using a1
    have HO : Hid (Bp.okB (v, s) = false) := Bp.okB_false (fun g => a1 g.1)
    clear a1
    go_enter Try.func62, Try.ntmps62
    go_wp2_with fail
    go_ret
    exact ⟨by rw [HO.out]; rfl, (Below.refl _ _).alloc (Nat.le_refl _) _⟩
end Go.Proofs.Ytjfihmpnbblomaa

/- BitsPut of the program, walked whole. -/
namespace Go.Proofs.Ytjfihmpnbblomaa
open Go.RowKit

/-- numbers that an int holds -/
def I64s (l : List (Int × Int)) : Prop := ∀ p ∈ l, -9223372036854775808 ≤ p.1 ∧ p.1 ≤ 9223372036854775807

set_option maxHeartbeats 2000000 in
set_option maxRecDepth 20000 in
theorem impl_bitsPut_low (a : Option Addr) (n cap : Nat) (l : List (Int × Int)) (w : World) (h : Bits2 w a l) (hn : l.length = n) (hl : n ≤ 2000000) (hr : I64s l) :
    Calls Try.prog 43 #[.slice a n cap, .bool false] w fun e w' => e = .returned (.string ⟨((Bp.answer false l).map UInt8.ofNat).toArray⟩) ∧ Below w.heap.size w w' := by
  have HB : Hid (Bits2 w a l) := h
  have hn1 : l.length ≤ n := by omega
  have hn2 : n ≤ l.length := by omega
  have HR : Hid (I64s l) := hr
  have HW0 : Hid (Writes (w.alloc (.cells #[(.func (.func 77) #[] #[]), .slice none 0 0, .int .i64 0] 98)) w.heap.size false (Bp.fOf false l) 0) := writes_new w false (Bp.fOf false l) _
  have HF : Hid (∀ i, Bp.fOf false l i < 2) := Bp.fOf_lt false l
  have hOO := orderOf_any false w
  have HOO : Hid (Calls Try.prog 61 #[.bool false] w fun e w' => e = .returned ((.func (.func 77) #[] #[])) ∧ w' = w) := hOO
  have HMV : Hid (∀ (N V S : Nat) (w' : World), Writes w' w.heap.size false (Bp.fOf false l) N → N + S ≤ 72000 → S ≤ 24 → V < 16777216 → (∀ q, q < S → Bp.fOf false l (N + q) = Bp.bitIn false V S q) →
      Calls Try.prog 63 #[.iface 96 (.pointer (some ⟨w.heap.size, 0, none⟩)), (.func (.func 77) #[] #[]), .int .i64 V, .int .i64 S] w' fun e w'' => (∃ z, e = .returned (.tuple #[.int .i64 z, .bool true])) ∧ Writes w'' w.heap.size false (Bp.fOf false l) (N + S) ∧ Below w.heap.size w' w'') :=
    fun N V S w' hw h1 h2 h3 h4 => wmove_any false w.heap.size N V S _ w' hw h1 (by omega) (by omega) (Bp.fOf_lt false l) h4
  have HMN : Hid (∀ (N S : Nat) (v : Int) (w' : World), Writes w' w.heap.size false (Bp.fOf false l) N → N ≤ 72000 → 72000 < N + S →
      Calls Try.prog 63 #[.iface 96 (.pointer (some ⟨w.heap.size, 0, none⟩)), (.func (.func 77) #[] #[]), .int .i64 v, .int .i64 S] w' fun e w'' => e = .returned (.tuple #[.int .i64 0, .bool false]) ∧ w'' = w') :=
    fun N S v w' hw h1 h2 => wmove_no w.heap.size N S v false _ _ w' hw h1 h2
  clear h hn hr hOO
  go_enter Try.func43, Try.ntmps43
  go_wp2_with fail
  refine HOO.out.mono ?_
  rintro e w1 ⟨rfl, hw1⟩
  subst hw1
  go_wp2_with fail
  go_loopw [18] (fun i wr => ∃ k N : Nat, k ≤ n ∧ i = .int .i64 k ∧ N = Bp.tot l k ∧ N ≤ 72000 ∧ Bp.Fits l k ∧ Writes wr w1.heap.size false (Bp.fOf false l) N ∧ Below w1.heap.size w1 wr) (fun i _ => n - (intOf i).toNat)
  case atStart => exact ⟨0, 0, Nat.zero_le _, rfl, rfl, by omega, Bp.fits_zero l, HW0.out, (Below.refl _ _).alloc (Nat.le_refl _) _⟩
  case round =>
    obtain ⟨k, N, hk, rfl, hN, hN7, hfit, hWr, hbel⟩ := hrel
    have HT : Hid (N = Bp.tot l k) := hN
    have HFT : Hid (Bp.Fits l k) := hfit
    have HWR : Hid (Writes wr w1.heap.size false (Bp.fOf false l) N) := hWr
    clear hN hfit hWr HW0 HOO
    by_cases hlt : k < n
    · have hkl : k < l.length := by omega
      obtain ⟨b, off, rfl, hbB, hc1, hc2⟩ := HB.out.at hkl
      have e1 := (hbel.cell (p := ⟨b, off + k * 2, none⟩) hbB).trans hc1
      have e2 := (hbel.cell (p := ⟨b, off + k * 2 + 1, none⟩) hbB).trans hc2
      have hki : (k : Int) < (n : Int) := by omega
      have hrk := HR.out l[k] (List.getElem_mem hkl)
      have HOK := fun w => bitOk_any l[k] w hrk.1 hrk.2
      have HTS := Bp.tot_succ l k hkl
      rw [← HT.out] at HTS
      have HNF : Hid (¬ (Bp.Ok l[k] ∧ Bp.tot l (k + 1) ≤ 72000) → Bp.answer false l = []) := fun g => Bp.answer_no (Bp.fits_not hkl hkl g)
      have HYF : Hid (Bp.Ok l[k] → Bp.tot l (k + 1) ≤ 72000 → Bp.Fits l (k + 1)) := fun g1 g2 => Bp.fits_succ hkl HFT.out g1 g2
      have HA : Hid (∀ q, q < (l[k]).2.toNat → Bp.fOf false l (N + q) = Bp.bitIn false (l[k]).1.toNat (l[k]).2.toNat q) := by
        intro q hq; rw [HT.out]; exact Bp.fOf_at false l k q hkl hq
      by_cases hok : Bp.Ok l[k]
      · have HO : Hid (Bp.Ok l[k]) := hok
        rw [Bp.okB_true hok] at HOK
        obtain ⟨o1, o2, o3, o4⟩ := hok
        obtain ⟨S, hS⟩ := Int.eq_ofNat_of_zero_le o1
        obtain ⟨V, hV⟩ := Int.eq_ofNat_of_zero_le o3
        rw [hS] at HTS o2 e2
        rw [hV] at e1
        rw [hV, hS] at HA o4
        simp only [Int.toNat_natCast] at HTS HA o4
        have hS24 : S ≤ 24 := by omega
        have hVb : V < 16777216 := Nat.lt_of_lt_of_le o4 (Nat.le_trans (Nat.pow_le_pow_right (by omega) hS24) (by decide))
        have HTT : Hid (Bp.tot l (k + 1) = N + S) := HTS
        have HL : Hid (∀ w, Calls Try.prog 62 #[.agg #[.int .i64 (V : Int), .int .i64 (S : Int)]] w fun e w' => e = .returned (.bool true) ∧ Below w.heap.size w w') := by
          intro w; have := HOK w; rw [hS, hV] at this; exact this
        clear HTS HOK hS hV o1 o2 o3 o4 hrk hc1 hc2
        go_wp2_with fail
        refine (HL.out _).mono ?_
        rintro e w2 ⟨rfl, bel1⟩
        have e3 : w2.cell? ⟨wr.heap.size, 0, none⟩ = some (.int .i64 (V : Int)) := (bel1.cell (p := ⟨wr.heap.size, 0, none⟩) (by simp)).trans (by rw [World.cell?_alloc_at _ _ _ _ rfl]; rfl)
        have e4 : w2.cell? ⟨wr.heap.size, 1, none⟩ = some (.int .i64 (S : Int)) := (bel1.cell (p := ⟨wr.heap.size, 1, none⟩) (by simp)).trans (by rw [World.cell?_alloc_at _ _ _ _ rfl]; rfl)
        have belw : Below wr.heap.size wr w2 := ((Below.refl wr.heap.size wr).alloc (Nat.le_refl _) _).trans (bel1.mono (by simp))
        have HW2 : Hid (Writes w2 w1.heap.size false (Bp.fOf false l) N) := HWR.out.kept belw
        have hb2 : Below w1.heap.size w1 w2 := hbel.trans (belw.mono hbel.size)
        clear bel1 belw e1 e2 HWR hbel HL
        by_cases h7 : 72000 < N + S
        · have HAS : Hid (Bp.answer false l = []) := HNF.out (fun g => by have := g.2; rw [HTT.out] at this; omega)
          go_wp2_with fail
          refine (HMN.out N S V w2 HW2.out hN7 h7).mono ?_
          rintro e w3 ⟨rfl, hw3⟩
          subst hw3
          go_wp2_with fail
          go_ret
          exact ⟨by rw [HAS.out]; rfl, hb2⟩
        · have HF2 : Hid (Bp.Fits l (k + 1)) := HYF.out HO.out (by rw [HTT.out]; omega)
          go_wp2_with fail
          refine (HMV.out N V S w2 HW2.out (by omega) hS24 hVb HA.out).mono ?_
          rintro e w3 ⟨⟨z, rfl⟩, hW3, bel3⟩
          have hb3 := hb2.trans bel3
          have HW3 : Hid (Writes w3 w1.heap.size false (Bp.fOf false l) (N + S)) := hW3
          clear hW3 bel3 hb2 e3 e4
          go_wp2_with fail
          go_roundw
          case rel => exact ⟨k + 1, N + S, by omega, by go_num, HTT.out.symm, by omega, HF2.out, HW3.out, hb3⟩
          case measure => simp [intOf]; omega
      · rw [Bp.okB_false hok] at HOK
        have HAS : Hid (Bp.answer false l = []) := HNF.out (fun g => hok g.1)
        have HL : Hid (∀ w, Calls Try.prog 62 #[.agg #[.int .i64 (l[k]).1, .int .i64 (l[k]).2]] w fun e w' => e = .returned (.bool false) ∧ Below w.heap.size w w') := HOK
        clear HOK HTS HNF HYF HA hok hc1 hc2 hrk
        generalize (l[k]).1 = v at *
        generalize (l[k]).2 = s at *
        go_wp2_with fail
        refine (HL.out _).mono ?_
        rintro e w2 ⟨rfl, bel1⟩
        have belw : Below wr.heap.size wr w2 := ((Below.refl wr.heap.size wr).alloc (Nat.le_refl _) _).trans (bel1.mono (by simp))
        have hb2 : Below w1.heap.size w1 w2 := hbel.trans (belw.mono hbel.size)
        clear e1 e2 bel1 hbel HL belw
        go_wp2_with fail
        go_ret
        exact ⟨by rw [HAS.out]; rfl, hb2⟩
    · have hk' : k = l.length := by omega
      have hfits : Bp.Fits l l.length := by rw [← hk']; exact HFT.out
      have HAN : Hid (Bp.pack false (Bp.fOf false l) N = Bp.answer false l) := by show _ = _; rw [Bp.answer_yes hfits, HT.out, hk']; rfl
      obtain ⟨_, ⟨v, L, k1, hown, hLL⟩, _, _, _, _⟩ := HWR.out
      obtain ⟨cap', ao, rfl, htx⟩ := hown.text
      rw [HAN.out] at htx
      clear hown hfits hk' hLL
      go_wp2_with fail
      go_ret
      exact ⟨rfl, hbel⟩

set_option maxHeartbeats 2000000 in
set_option maxRecDepth 20000 in
theorem impl_bitsPut_high (a : Option Addr) (n cap : Nat) (l : List (Int × Int)) (w : World) (h : Bits2 w a l) (hn : l.length = n) (hl : n ≤ 2000000) (hr : I64s l) :
    Calls Try.prog 43 #[.slice a n cap, .bool true] w fun e w' => e = .returned (.string ⟨((Bp.answer true l).map UInt8.ofNat).toArray⟩) ∧ Below w.heap.size w w' := by
  have HB : Hid (Bits2 w a l) := h
  have hn1 : l.length ≤ n := by omega
  have hn2 : n ≤ l.length := by omega
  have HR : Hid (I64s l) := hr
  have HW0 : Hid (Writes (w.alloc (.cells #[(.func (.func 76) #[] #[]), .slice none 0 0, .int .i64 0] 98)) w.heap.size true (Bp.fOf true l) 0) := writes_new w true (Bp.fOf true l) _
  have HF : Hid (∀ i, Bp.fOf true l i < 2) := Bp.fOf_lt true l
  have hOO := orderOf_any true w
  have HOO : Hid (Calls Try.prog 61 #[.bool true] w fun e w' => e = .returned ((.func (.func 76) #[] #[])) ∧ w' = w) := hOO
  have HMV : Hid (∀ (N V S : Nat) (w' : World), Writes w' w.heap.size true (Bp.fOf true l) N → N + S ≤ 72000 → S ≤ 24 → V < 16777216 → (∀ q, q < S → Bp.fOf true l (N + q) = Bp.bitIn true V S q) →
      Calls Try.prog 63 #[.iface 96 (.pointer (some ⟨w.heap.size, 0, none⟩)), (.func (.func 76) #[] #[]), .int .i64 V, .int .i64 S] w' fun e w'' => (∃ z, e = .returned (.tuple #[.int .i64 z, .bool true])) ∧ Writes w'' w.heap.size true (Bp.fOf true l) (N + S) ∧ Below w.heap.size w' w'') :=
    fun N V S w' hw h1 h2 h3 h4 => wmove_any true w.heap.size N V S _ w' hw h1 (by omega) (by omega) (Bp.fOf_lt true l) h4
  have HMN : Hid (∀ (N S : Nat) (v : Int) (w' : World), Writes w' w.heap.size true (Bp.fOf true l) N → N ≤ 72000 → 72000 < N + S →
      Calls Try.prog 63 #[.iface 96 (.pointer (some ⟨w.heap.size, 0, none⟩)), (.func (.func 76) #[] #[]), .int .i64 v, .int .i64 S] w' fun e w'' => e = .returned (.tuple #[.int .i64 0, .bool false]) ∧ w'' = w') :=
    fun N S v w' hw h1 h2 => wmove_no w.heap.size N S v true _ _ w' hw h1 h2
  clear h hn hr hOO
  go_enter Try.func43, Try.ntmps43
  go_wp2_with fail
  refine HOO.out.mono ?_
  rintro e w1 ⟨rfl, hw1⟩
  subst hw1
  go_wp2_with fail
  go_loopw [18] (fun i wr => ∃ k N : Nat, k ≤ n ∧ i = .int .i64 k ∧ N = Bp.tot l k ∧ N ≤ 72000 ∧ Bp.Fits l k ∧ Writes wr w1.heap.size true (Bp.fOf true l) N ∧ Below w1.heap.size w1 wr) (fun i _ => n - (intOf i).toNat)
  case atStart => exact ⟨0, 0, Nat.zero_le _, rfl, rfl, by omega, Bp.fits_zero l, HW0.out, (Below.refl _ _).alloc (Nat.le_refl _) _⟩
  case round =>
    obtain ⟨k, N, hk, rfl, hN, hN7, hfit, hWr, hbel⟩ := hrel
    have HT : Hid (N = Bp.tot l k) := hN
    have HFT : Hid (Bp.Fits l k) := hfit
    have HWR : Hid (Writes wr w1.heap.size true (Bp.fOf true l) N) := hWr
    clear hN hfit hWr HW0 HOO
    by_cases hlt : k < n
    · have hkl : k < l.length := by omega
      obtain ⟨b, off, rfl, hbB, hc1, hc2⟩ := HB.out.at hkl
      have e1 := (hbel.cell (p := ⟨b, off + k * 2, none⟩) hbB).trans hc1
      have e2 := (hbel.cell (p := ⟨b, off + k * 2 + 1, none⟩) hbB).trans hc2
      have hki : (k : Int) < (n : Int) := by omega
      have hrk := HR.out l[k] (List.getElem_mem hkl)
      have HOK := fun w => bitOk_any l[k] w hrk.1 hrk.2
      have HTS := Bp.tot_succ l k hkl
      rw [← HT.out] at HTS
      have HNF : Hid (¬ (Bp.Ok l[k] ∧ Bp.tot l (k + 1) ≤ 72000) → Bp.answer true l = []) := fun g => Bp.answer_no (Bp.fits_not hkl hkl g)
      have HYF : Hid (Bp.Ok l[k] → Bp.tot l (k + 1) ≤ 72000 → Bp.Fits l (k + 1)) := fun g1 g2 => Bp.fits_succ hkl HFT.out g1 g2
      have HA : Hid (∀ q, q < (l[k]).2.toNat → Bp.fOf true l (N + q) = Bp.bitIn true (l[k]).1.toNat (l[k]).2.toNat q) := by
        intro q hq; rw [HT.out]; exact Bp.fOf_at true l k q hkl hq
      by_cases hok : Bp.Ok l[k]
      · have HO : Hid (Bp.Ok l[k]) := hok
        rw [Bp.okB_true hok] at HOK
        obtain ⟨o1, o2, o3, o4⟩ := hok
        obtain ⟨S, hS⟩ := Int.eq_ofNat_of_zero_le o1
        obtain ⟨V, hV⟩ := Int.eq_ofNat_of_zero_le o3
        rw [hS] at HTS o2 e2
        rw [hV] at e1
        rw [hV, hS] at HA o4
        simp only [Int.toNat_natCast] at HTS HA o4
        have hS24 : S ≤ 24 := by omega
        have hVb : V < 16777216 := Nat.lt_of_lt_of_le o4 (Nat.le_trans (Nat.pow_le_pow_right (by omega) hS24) (by decide))
        have HTT : Hid (Bp.tot l (k + 1) = N + S) := HTS
        have HL : Hid (∀ w, Calls Try.prog 62 #[.agg #[.int .i64 (V : Int), .int .i64 (S : Int)]] w fun e w' => e = .returned (.bool true) ∧ Below w.heap.size w w') := by
          intro w; have := HOK w; rw [hS, hV] at this; exact this
        clear HTS HOK hS hV o1 o2 o3 o4 hrk hc1 hc2
        go_wp2_with fail
        refine (HL.out _).mono ?_
        rintro e w2 ⟨rfl, bel1⟩
        have e3 : w2.cell? ⟨wr.heap.size, 0, none⟩ = some (.int .i64 (V : Int)) := (bel1.cell (p := ⟨wr.heap.size, 0, none⟩) (by simp)).trans (by rw [World.cell?_alloc_at _ _ _ _ rfl]; rfl)
        have e4 : w2.cell? ⟨wr.heap.size, 1, none⟩ = some (.int .i64 (S : Int)) := (bel1.cell (p := ⟨wr.heap.size, 1, none⟩) (by simp)).trans (by rw [World.cell?_alloc_at _ _ _ _ rfl]; rfl)
        have belw : Below wr.heap.size wr w2 := ((Below.refl wr.heap.size wr).alloc (Nat.le_refl _) _).trans (bel1.mono (by simp))
        have HW2 : Hid (Writes w2 w1.heap.size true (Bp.fOf true l) N) := HWR.out.kept belw
        have hb2 : Below w1.heap.size w1 w2 := hbel.trans (belw.mono hbel.size)
        clear bel1 belw e1 e2 HWR hbel HL
        by_cases h7 : 72000 < N + S
        · have HAS : Hid (Bp.answer true l = []) := HNF.out (fun g => by have := g.2; rw [HTT.out] at this; omega)
          go_wp2_with fail
          refine (HMN.out N S V w2 HW2.out hN7 h7).mono ?_
          rintro e w3 ⟨rfl, hw3⟩
          subst hw3
          go_wp2_with fail
          go_ret
          exact ⟨by rw [HAS.out]; rfl, hb2⟩
        · have HF2 : Hid (Bp.Fits l (k + 1)) := HYF.out HO.out (by rw [HTT.out]; omega)
          go_wp2_with fail
          refine (HMV.out N V S w2 HW2.out (by omega) hS24 hVb HA.out).mono ?_
          rintro e w3 ⟨⟨z, rfl⟩, hW3, bel3⟩
          have hb3 := hb2.trans bel3
          have HW3 : Hid (Writes w3 w1.heap.size true (Bp.fOf true l) (N + S)) := hW3
          clear hW3 bel3 hb2 e3 e4
          go_wp2_with fail
          go_roundw
          case rel => exact ⟨k + 1, N + S, by omega, by go_num, HTT.out.symm, by omega, HF2.out, HW3.out, hb3⟩
          case measure => simp [intOf]; omega
      · rw [Bp.okB_false hok] at HOK
        have HAS : Hid (Bp.answer true l = []) := HNF.out (fun g => hok g.1)
        have HL : Hid (∀ w, Calls Try.prog 62 #[.agg #[.int .i64 (l[k]).1, .int .i64 (l[k]).2]] w fun e w' => e = .returned (.bool false) ∧ Below w.heap.size w w') := HOK
        clear HOK HTS HNF HYF HA hok hc1 hc2 hrk
        generalize (l[k]).1 = v at *
        generalize (l[k]).2 = s at *
        go_wp2_with fail
        refine (HL.out _).mono ?_
        rintro e w2 ⟨rfl, bel1⟩
        have belw : Below wr.heap.size wr w2 := ((Below.refl wr.heap.size wr).alloc (Nat.le_refl _) _).trans (bel1.mono (by simp))
        have hb2 : Below w1.heap.size w1 w2 := hbel.trans (belw.mono hbel.size)
        clear e1 e2 bel1 hbel HL belw
        go_wp2_with fail
        go_ret
        exact ⟨by rw [HAS.out]; rfl, hb2⟩
    · have hk' : k = l.length := by omega
      have hfits : Bp.Fits l l.length := by rw [← hk']; exact HFT.out
      have HAN : Hid (Bp.pack true (Bp.fOf true l) N = Bp.answer true l) := by show _ = _; rw [Bp.answer_yes hfits, HT.out, hk']; rfl
      obtain ⟨_, ⟨v, L, k1, hown, hLL⟩, _, _, _, _⟩ := HWR.out
      obtain ⟨cap', ao, rfl, htx⟩ := hown.text
      rw [HAN.out] at htx
      clear hown hfits hk' hLL
      go_wp2_with fail
      go_ret
      exact ⟨rfl, hbel⟩

theorem impl_bitsPut (hi : Bool) (a : Option Addr) (n cap : Nat) (l : List (Int × Int)) (w : World) (h : Bits2 w a l) (hn : l.length = n) (hl : n ≤ 2000000) (hr : I64s l) :
    Calls Try.prog 43 #[.slice a n cap, .bool hi] w fun e w' => e = .returned (.string ⟨((Bp.answer hi l).map UInt8.ofNat).toArray⟩) ∧ Below w.heap.size w w' := by
  cases hi
  · exact impl_bitsPut_low a n cap l w h hn hl hr
  · exact impl_bitsPut_high a n cap l w h hn hl hr
end Go.Proofs.Ytjfihmpnbblomaa

/- LzwPut of the program. -/
namespace Go.Proofs.Ytjfihmpnbblomaa
open Go.RowKit Go.Maps

theorem shr_small (y b : Nat) (_hy : y < 256) : (y / 2 ^ b = 0) ↔ y < 2 ^ b := by
  rw [Nat.div_eq_zero_iff]
  have : (2 : Nat) ^ b ≠ 0 := by have := Nat.one_le_two_pow (n := b); omega
  omega

set_option maxHeartbeats 1000000 in
theorem bytesFit_any (b : Nat) (s : ByteArray) (w : World) (hb : b ≤ 8) (hs : s.size ≤ 9000) :
    Calls Try.prog 37 #[.string s, .int .i64 (b : Int)] w fun e w' => e = .returned (.bool (Lp.smallB b s)) ∧ w' = w := by
  have HNO : Hid (∀ k (h : k < s.size), 2 ^ b ≤ (s[k]).toNat → Lp.smallB b s = false) := fun k h hk => by
    rw [← Bool.not_eq_true]
    intro hc
    have := Lp.small_of hc k h
    rw [extract_byte s k h] at this
    omega
  have HYES : Hid ((∀ k (h : k < s.size), (s[k]).toNat < 2 ^ b) → Lp.smallB b s = true) := fun h => by
    unfold Lp.smallB
    rw [List.all_eq_true]
    intro k hk
    have hk' := List.mem_range.1 hk
    rw [extract_byte s k hk']
    simpa using h k hk'
  generalize hB : Lp.smallB b s = B at *
  clear hB
  go_enter Try.func37, Try.ntmps37
  go_wp2_with fail
  go_loop [8] (fun i => ∃ k : Nat, k ≤ s.size ∧ i = .int .i64 (k : Int) ∧ Hid (∀ j (h : j < s.size), j < k → (s[j]).toNat < 2 ^ b)) (fun i => s.size - (intOf i).toNat)
  case atStart => exact ⟨0, Nat.zero_le _, rfl, fun j _ h => absurd h (Nat.not_lt_zero _)⟩
  case round =>
    obtain ⟨k, hk, rfl, HA⟩ := hrel
    by_cases hlt : k < s.size
    · obtain ⟨y, hy⟩ : ∃ y, y = (s[k]).toNat := ⟨_, rfl⟩
      have hyb : y < 256 := by rw [hy]; exact UInt8.toNat_lt _
      have hsy : (s[k]).toNat = y := hy.symm
      have hi : (k : Int) < (s.size : Int) := by omega
      have hsh := shr_small y b hyb
      have hA0 : y / 2 ^ b ≤ y := Nat.div_le_self _ _
      obtain ⟨q, hq⟩ : ∃ q, q = y / 2 ^ b := ⟨_, rfl⟩
      rw [← hq] at hsh hA0
      have e1 : (y : Int) / 2 ^ b = (q : Int) := by rw [hq]; simp
      have e2 : (y : Int) >>> b = (q : Int) := by rw [Int.shiftRight_eq_div_pow, hq]; simp
      have hu := wrap_u8_small q (by omega)
      by_cases hsm : y < 2 ^ b
      · have HA2 : Hid (∀ j (h : j < s.size), j < k + 1 → (s[j]).toNat < 2 ^ b) := fun j h hj => by
          rcases Nat.lt_or_ge j k with h1 | h1
          · exact HA.out j h h1
          · have e : j = k := by omega
            subst e
            omega
        have hq0 : q = 0 := hsh.2 hsm
        subst hq0
        clear hy HA hsh hq
        go_wp2_with fail
        go_round
        case rel => exact ⟨k + 1, by omega, by go_num, HA2⟩
        case measure => simp [intOf]; omega
      · have hBf : B = false := HNO.out k hlt (by omega)
        subst hBf
        have hq0 : q ≠ 0 := fun e => hsm (hsh.1 e)
        have hqb : ((q : Int) != 0) = true := by rw [bne_iff_ne]; omega
        clear hy HA hsh hq
        go_wp2_with fail
        go_ret
        exact ⟨rfl, rfl⟩
    · have hBt : B = true := HYES.out (fun j h => HA.out j h (by omega))
      subst hBt
      go_wp2_with fail
      go_ret
      exact ⟨rfl, rfl⟩
end Go.Proofs.Ytjfihmpnbblomaa

/- LzwPut of the program: its loop. -/
namespace Go.Proofs.Ytjfihmpnbblomaa
open Go.RowKit Go.Maps

theorem Lz.width_start {b : Nat} (_hb : b ≤ 8) (hb2 : 2 ≤ b) (wide : Bool) : Lz.width b wide (2 ^ b + 2) = b + 1 := by
  have h1 : 2 ^ 2 ≤ 2 ^ b := Nat.pow_le_pow_right (by omega) hb2
  have h2 : (2 : Nat) ^ (b + 1) = 2 * 2 ^ b := by rw [Nat.pow_succ]; omega
  unfold Lz.width
  refine Lz.grow_stop (fun h => ?_)
  have := h.2
  unfold Lz.known at this
  split at this <;> omega
theorem Lp.known_since {b n : Nat} (h : 2 ^ b + 2 ≤ n) : Lp.known b n = 2 ^ b + 2 + (n - (2 ^ b + 2) - 1) := by
  unfold Lp.known
  generalize 2 ^ b + 2 = F at *
  by_cases e : n = F
  · rw [if_pos e]; omega
  · rw [if_neg e]; omega

/-- between two phrases -/
structure LqA (w : World) (lo B b : Nat) (wide : Bool) (s : ByteArray) (p : Nat) (l : List ByteArray) (out : List (Int × Int)) (ov : Value) (mb N : Nat) (D : DataW Unit) (wr : World) : Prop where
  at_ : Lp.at b wide s (p + 1) = ⟨l, out, s.extract p (p + 1)⟩
  inv : Lq.Inv b l
  wr_ : Wr wr B b wide (.map (some mb)) (l.length - (2 ^ b + 2)) ov
  op : OwnP wr lo ov out.length out
  map_ : MapAt wr mb N D
  nl : N ≤ l.length
  tab : TabIs D b l
  lm : lo ≤ mb
  bel : Below lo w wr
/-- behind the last one -/
structure LqB (w : World) (lo B b : Nat) (wide : Bool) (LL : List (Int × Int)) (mv : Value) (since : Nat) (out : List (Int × Int)) (ov : Value) (wr : World) : Prop where
  wr_ : Wr wr B b wide mv since ov
  op : OwnP wr lo ov out.length out
  bel : Below lo w wr
  si : since ≤ 4200
  ol : out.length ≤ 5003
  all_ : LL = out ++ [(((2 ^ b : Nat) : Int) + 1, (Lz.width b wide (2 ^ b + 2 + (since - 1)) : Int))]
def LqI (w : World) (lo B b : Nat) (wide : Bool) (s : ByteArray) (LL : List (Int × Int)) (p : Nat) (wr : World) : Prop :=
  (p < s.size ∧ ∃ l out ov mb N D, LqA w lo B b wide s p l out ov mb N D wr) ∨ (p = s.size ∧ ∃ mv since out ov, LqB w lo B b wide LL mv since out ov wr)

theorem Lp.at_first {b : Nat} {wide : Bool} {s : ByteArray} (hs : 0 < s.size) : Lp.at b wide s 1 = ⟨Lz.start b, (Lp.init b).out, s.extract 0 1⟩ := by
  show Lp.one b wide (Lp.init b) (s.extract 0 1) = _
  unfold Lp.one Lp.init
  simp only [Lp.nil_app]
  rw [if_pos]
  rw [Lp.num_one (by rw [ByteArray.size_extract]; omega)]
  omega
theorem Lp.close_end {b : Nat} {wide : Bool} {l : List ByteArray} {out : List (Int × Int)} {z : ByteArray} (hz : z.size ≠ 0) (hl : 2 ^ b + 2 ≤ l.length) :
    Lp.close b wide ⟨l, out, z⟩ = (out ++ [Lp.code b wide (Lp.num l z) l.length]) ++ [(((2 ^ b : Nat) : Int) + 1, (Lz.width b wide (2 ^ b + 2 + ((l.length - (2 ^ b + 2) + 1) - 1)) : Int))] := by
  unfold Lp.close
  rw [if_neg hz]
  unfold Lp.code
  rw [Lp.known_since (n := l.length + 1) (by omega), show l.length + 1 - (2 ^ b + 2) - 1 = l.length - (2 ^ b + 2) + 1 - 1 by omega]

set_option linter.unusedSimpArgs false in
set_option maxHeartbeats 4000000 in
set_option maxRecDepth 20000 in
theorem impl_lzwPut_yes (s : ByteArray) (b : Nat) (wide : Bool) (w : World) (hok : Lz.ok b wide = true) (hsz : s.size ≤ 5000) (hsB : Lp.smallB b s = true) :
    Calls Try.prog 13 #[.string s, .int .i64 (b : Int), .bool wide] w fun e w' => e = .returned (.string ⟨((Bp.text wide (Lp.all b wide s)).map UInt8.ofNat).toArray⟩) ∧ Below w.heap.size w w' := by
  have hbd := Lz.ok_rng hok
  have hb : b ≤ 8 := by omega
  have hb2 : 2 ≤ b := by omega
  have hsm := Lp.small_of hsB
  have hallok := Lp.all_ok hb hb2 wide hsm hsz
  have HOK : Hid (∀ w', Calls Try.prog 36 #[.agg #[.int .i64 (b : Int), .bool wide]] w' fun e w'' => e = .returned (.bool true) ∧ Below w'.heap.size w' w'') := fun w' => by rw [← hok]; exact lzOk_any b wide w'
  have HFT : Hid (∀ w', Calls Try.prog 37 #[.string s, .int .i64 (b : Int)] w' fun e w'' => e = .returned (.bool true) ∧ w'' = w') := fun w' => by rw [← hsB]; exact bytesFit_any b s w' hb (by omega)
  have HEN : Hid (∀ w', Calls Try.prog 42 #[.agg #[.int .i64 (b : Int), .bool wide]] w' fun e w'' => e = .returned (.int .i64 ((2 ^ b + 1 : Nat) : Int)) ∧ Below w'.heap.size w' w'') := fun w' => lzEnd_any b hb wide w'
  have HGD : Hid (∀ k, k ≤ s.size → Lp.Good b wide k (Lp.at b wide s k)) := fun k hk => Lp.good_at hb wide hsm k hk
  have HBY : Hid (∀ k (h : k < s.size), (s[k]).toNat < 2 ^ b) := fun k hk => by rw [← extract_byte s k hk]; exact hsm k hk
  obtain ⟨LL, hLL⟩ : ∃ LL, LL = Lp.all b wide s := ⟨_, rfl⟩
  have HLL : Hid (LL = Lp.all b wide s) := hLL
  rw [← hLL] at hallok ⊢
  have HBP : Hid (∀ (a : Option Addr) (cap : Nat) (w' : World), Bits2 w' a LL → Calls Try.prog 43 #[.slice a LL.length cap, .bool wide] w' fun e w'' => e = .returned (.string ⟨((Bp.text wide LL).map UInt8.ofNat).toArray⟩) ∧ Below w'.heap.size w' w'') := fun a cap w' h => by
    have := impl_bitsPut wide a LL.length cap LL w' h rfl (by omega) (fun p hp => by
      obtain ⟨j, hj, e⟩ := List.getElem_of_mem hp
      have := (hallok.1 j hj hj).1
      rw [e] at this
      unfold Bp.Ok at this
      have h3 : 2 ^ p.2.toNat ≤ 2 ^ 24 := Nat.pow_le_pow_right (by omega) (by omega)
      have h4 : (2 : Nat) ^ 24 = 16777216 := by decide
      omega)
    rw [Bp.answer_yes hallok.1] at this
    exact this
  generalize hT : (Bp.text wide LL).map UInt8.ofNat = T at *
  clear hT hLL hok hsB hsm hallok hbd
  have d1 : decide ((s.size : Int) > 5000) = false := decide_eq_false (by omega)
  obtain ⟨W0, hW0⟩ : ∃ W0, W0 = w.alloc (.cells #[.int .i64 (b : Int), .bool wide] 50) := ⟨_, rfl⟩
  have HB0 : Hid (Below w.heap.size w W0) := by show Below _ _ _; rw [hW0]; exact (Below.refl _ _).alloc (Nat.le_refl _) _
  have hz0 : W0.heap.size = w.heap.size + 1 := by rw [hW0]; simp
  have HC0 : Hid (W0.cell? ⟨w.heap.size, 0, none⟩ = some (.int .i64 (b : Int)) ∧ W0.cell? ⟨w.heap.size, 1, none⟩ = some (.bool wide)) := by
    show _ ∧ _
    rw [hW0]; exact ⟨by simp, by simp⟩
  have HW0 : Hid (W0 = w.alloc (.cells #[.int .i64 (b : Int), .bool wide] 50)) := hW0
  clear hW0
  go_enter Try.func13, Try.ntmps13
  go_wp2_with fail
  refine (HOK.out _).mono ?_
  rintro e w1 ⟨rfl, b1⟩
  rw [← HW0.out] at b1
  have HB1 : Hid (Below w.heap.size w w1) := HB0.out.trans (b1.mono (by omega))
  have hz1 : w.heap.size + 1 ≤ w1.heap.size := by have := b1.size; omega
  have c10 : w1.cell? ⟨w.heap.size, 0, none⟩ = some (.int .i64 (b : Int)) := (b1.cell (p := ⟨w.heap.size, 0, none⟩) (by show w.heap.size < _; omega)).trans HC0.out.1
  have c11 : w1.cell? ⟨w.heap.size, 1, none⟩ = some (.bool wide) := (b1.cell (p := ⟨w.heap.size, 1, none⟩) (by show w.heap.size < _; omega)).trans HC0.out.2
  clear b1 HB0 HC0 HW0 HOK hz0
  go_wp2_with fail
  refine (HFT.out _).mono ?_
  rintro e w2 ⟨rfl, hw2⟩
  replace hw2 := hw2.symm
  subst hw2
  clear HFT
  obtain ⟨B, hB⟩ : ∃ B, B = w1.heap.size := ⟨_, rfl⟩
  obtain ⟨W2, hW2⟩ : ∃ W2, W2 = w1.alloc (.cells #[.int .i64 (b : Int), .bool wide, .map none, .int .i64 0, .slice none 0 0] 63) := ⟨_, rfl⟩
  have hr2 : Wr W2 B b wide (.map none) 0 (.slice none 0 0) := by rw [hW2, hB]; exact World.alloc_heap_new w1 _
  have hb2' : Below w.heap.size w W2 := by rw [hW2]; exact HB1.out.alloc HB1.out.size _
  have hlB : w.heap.size ≤ B := by rw [hB]; exact HB1.out.size
  have HFO : Hid (Calls Try.prog 38 #[.pointer (some ⟨B, 0, none⟩)] W2 fun e w' => e = .returned (.tuple #[]) ∧ LqI w w.heap.size B b wide s LL 0 w') := by
    refine (wrForget B b 0 0 w.heap.size wide (.map none) (.slice none 0 0) [] _ W2 hb hr2 (World.ownsRow_nil _ _ _ _) hb2'.size (by omega) (by omega) rfl).mono ?_
    rintro e w3 ⟨rfl, g, cap, mb, hr3, ho3, hm3, hmb, hg3⟩
    refine ⟨rfl, ?_⟩
    have hbel3 : Below w.heap.size w w3 := hg3.below hb2' hlB hb2'.size (fun k hk => by cases hk)
    have hout : ([] : List (Int × Int)) ++ [(((2 ^ b : Nat) : Int), (Lz.width b wide (2 ^ b + 2 + (0 - 1)) : Int))] = (Lp.init b).out := by
      rw [show 2 ^ b + 2 + (0 - 1) = 2 ^ b + 2 by omega, Lz.width_start hb hb2]; rfl
    rw [hout] at ho3
    by_cases hs0 : 0 < s.size
    · refine .inl ⟨hs0, Lz.start b, (Lp.init b).out, .slice (some ⟨g, 0, none⟩) (0 + 1) cap, mb, 0, .map [], { at_ := Lp.at_first hs0, inv := Lq.inv_start hb, wr_ := ?_, op := ho3, map_ := hm3, nl := Nat.zero_le _, tab := tab_start b, lm := by have := hb2'.size; omega, bel := hbel3 }⟩
      rw [Lz.start_len, Nat.sub_self]; exact hr3
    · refine .inr ⟨by omega, _, 0, (Lp.init b).out, _, { wr_ := hr3, op := ho3, bel := hbel3, si := by omega, ol := by show 1 ≤ _; omega, all_ := ?_ }⟩
      rw [HLL.out]
      have e0 : s.size = 0 := by omega
      unfold Lp.all
      rw [e0]
      show Lp.close b wide (Lp.init b) = _
      unfold Lp.close
      rw [if_pos (show (Lp.init b).last.size = 0 from rfl)]
      unfold Lp.code
      rw [show (Lp.init b).l.length = 2 ^ b + 2 from Lz.start_len b, Lp.known_since (Nat.le_refl _), show 2 ^ b + 2 - (2 ^ b + 2) - 1 = 0 - 1 by omega]
  have HW2 : Hid (w1.alloc (.cells #[.int .i64 (b : Int), .bool wide, .map none, .int .i64 0, .slice none 0 0] 63) = W2) := hW2.symm
  have HBB : Hid (B = w1.heap.size) := hB
  rw [hW2, hB] at HFO
  clear hr2 hb2' hW2 hB
  go_wp2_with fail
  refine HFO.out.mono ?_
  rintro e w3 ⟨rfl, hI⟩
  rw [← HBB.out] at hI ⊢
  have HI0 : Hid (LqI w w.heap.size B b wide s LL 0 w3) := hI
  clear hI HFO HW2 HBB c10 c11 HB1 hz1
  go_wp2_with fail
  go_loopw [9] (fun pv wr => ∃ p : Nat, p ≤ s.size ∧ pv = .int .i64 (p : Int) ∧ Hid (LqI w w.heap.size B b wide s LL p wr)) (fun pv _ => s.size - (intOf pv).toNat)
  case atStart => exact ⟨0, Nat.zero_le _, rfl, HI0⟩
  case round =>
    obtain ⟨p, hp, rfl, HI⟩ := hrel
    clear HI0
    by_cases hlt : p < s.size
    · rcases HI.out with ⟨-, l, out, ov, mb, N, D, hA⟩ | ⟨hq, -⟩
      · have HA : Hid (LqA w w.heap.size B b wide s p l out ov mb N D wr) := hA
        clear hA HI
        have hgd := HGD.out (p + 1) (by omega)
        rw [HA.out.at_] at hgd
        have HG1 : Hid (Lp.Good b wide (p + 1) ⟨l, out, s.extract p (p + 1)⟩) := hgd
        have hll : l.length < Lp.full wide := hgd.hi
        have hlo2 : 2 ^ b + 2 ≤ l.length := hgd.lo
        have hol : out.length ≤ 5002 := Lp.len_bd hb hgd (by omega)
        have hfb := Lp.full_bd wide
        have hl95 : l.length ≤ 4094 := by have h1 := hll; have h2 := hfb.2; omega
        have hs42 : l.length - (2 ^ b + 2) + 1 ≤ 4200 := Nat.le_trans (Nat.succ_le_succ (Nat.sub_le _ _)) (by omega)
        clear hgd
        obtain ⟨u, hu⟩ : ∃ u, u = s.extract p s.size := ⟨_, rfl⟩
        have hus : u.size = s.size - p := by rw [hu, ByteArray.size_extract]; omega
        have hux : ∀ j, j ≤ s.size - p → u.extract 0 j = s.extract p (p + j) := fun j hj => by
          rw [hu, ByteArray.extract_extract]
          congr 1
          omega
        have hub : ∀ k (h : k < u.size), (u[k]).toNat < 2 ^ b := fun k hk => by
          have e : u[k] = s[p + k]'(by omega) := by subst hu; exact ByteArray.getElem_extract ..
          rw [e]; exact HBY.out (p + k) (by omega)
        have HLG : Hid (Calls Try.prog 39 #[.pointer (some ⟨B, 0, none⟩), .string u] wr (LongOut l u wr)) := wrLongest B b _ mb N wide ov D l u wr hb HA.out.wr_ HA.out.map_ HA.out.tab HA.out.inv (by omega) (by omega) (by omega) hub
        have HU : Hid (u.size = s.size - p ∧ ∀ j, j ≤ s.size - p → u.extract 0 j = s.extract p (p + j)) := ⟨hus, hux⟩
        have eu : s.extract p s.size = u := hu.symm
        have hpi : (p : Int) < (s.size : Int) := by omega
        clear hu hus hux hub
        go_wp2_with fail
        refine HLG.out.mono ?_
        rintro e w5 ⟨v, k, rfl, hk1, hk2, hkn, hkv, hke, m, hw5⟩
        have hkp : p + k ≤ s.size := by have := HU.out.1; omega
        obtain ⟨z, hz⟩ : ∃ z, z = s.extract p (p + k) := ⟨_, rfl⟩
        have hzs : z.size = k := by rw [hz, ByteArray.size_extract]; omega
        have HZV : Hid (Lp.num l z = (v : Int)) := by show _ = _; rw [hz, ← HU.out.2 k (by omega)]; exact hkv
        have HATK : Hid (Lp.at b wide s (p + k) = ⟨l, out, z⟩) := by
          show _ = _
          rw [hz]
          exact Lq.run HA.out.at_ (fun j h1 h2 => by rw [← HU.out.2 j (by omega)]; exact hkn j h1 h2) k hk1 (Nat.le_refl _)
        have HEND : Hid (p + k = s.size ∨ (p + k < s.size ∧ Lp.num l (s.extract p (p + (k + 1))) < 0)) := by
          rcases hke with h1 | ⟨h1, h2⟩
          · exact .inl (by have := HU.out.1; omega)
          · refine .inr ⟨by have := HU.out.1; omega, ?_⟩
            rw [← HU.out.2 (k + 1) (by have := HU.out.1; omega)]; exact h2
        have HZB : Hid (z.size = 1 → Lp.byte z < 2 ^ b) := fun h1 => by
          have e1 : k = 1 := by omega
          rw [hz, e1, extract_byte s p hlt]; exact HBY.out p hlt
        have HA5 : Hid (LqA w w.heap.size B b wide s p l out ov mb N D w5) := by
          subst hw5
          exact ⟨HA.out.at_, HA.out.inv, HA.out.wr_, HA.out.op, HA.out.map_, HA.out.nl, HA.out.tab, HA.out.lm, below_drewN HA.out.bel m⟩
        have HZZ : Hid (z = s.extract p (p + k)) := hz
        clear hz hkn hkv hke hw5 HA HLG HU eu
        have hsz5 : w.heap.size ≤ w5.heap.size := HA5.out.bel.size
        obtain ⟨C, hC⟩ : ∃ C, C = Lp.code b wide (v : Int) l.length := ⟨_, rfl⟩
        have HPU : Hid (Calls Try.prog 40 #[.pointer (some ⟨B, 0, none⟩), .int .i64 (v : Int)] w5 fun e w' => e = .returned (.tuple #[]) ∧ ∃ g cap, Wr w' B b wide (.map (some mb)) (l.length - (2 ^ b + 2) + 1) (.slice (some ⟨g, 0, none⟩) (out.length + 1) cap) ∧ OwnP w' w.heap.size (.slice (some ⟨g, 0, none⟩) (out.length + 1) cap) (out.length + 1) (out ++ [C]) ∧ WrG B ov w5 w') :=
          wrPut B b (l.length - (2 ^ b + 2)) out.length w.heap.size wide _ ov (v : Int) out C w5 hb HA5.out.wr_ HA5.out.op hsz5 (by omega) (Nat.le_trans (Nat.le_succ _) hs42) (by rw [hC]; unfold Lp.code; rw [Lp.known_since hlo2])
        have HC : Hid (C = Lp.code b wide (v : Int) l.length) := hC
        clear hC
        have hkI : (p : Int) + (k : Int) = ((p + k : Nat) : Int) := by omega
        go_wp2_with fail
        refine HPU.out.mono ?_
        rintro e w6 ⟨rfl, g6, cap6, hr6, ho6, hg6⟩
        have hmB := map_writer HA5.out.map_ HA5.out.wr_
        have hom := map_apart HA5.out.map_ HA5.out.op
        have hm6 : MapAt w6 mb N D := map_same HA5.out.map_ (hg6.block mb HA5.out.map_.lt hmB (fun e => hom e.symm))
        have hbel6 : Below w.heap.size w w6 := hg6.below HA5.out.bel hlB hsz5 (fun k hk => (World.ownsRow.lt HA5.out.op k hk).1)
        have HS6 : Hid (Wr w6 B b wide (.map (some mb)) (l.length - (2 ^ b + 2) + 1) (.slice (some ⟨g6, 0, none⟩) (out.length + 1) cap6) ∧ OwnP w6 w.heap.size (.slice (some ⟨g6, 0, none⟩) (out.length + 1) cap6) (out.length + 1) (out ++ [C]) ∧ MapAt w6 mb N D ∧ Below w.heap.size w w6) := ⟨hr6, ho6, hm6, hbel6⟩
        have HK6 : Hid (TabIs D b l ∧ Lq.Inv b l ∧ N ≤ l.length ∧ w.heap.size ≤ mb) := ⟨HA5.out.tab, HA5.out.inv, HA5.out.nl, HA5.out.lm⟩
        clear hr6 ho6 hg6 hm6 hbel6 hom hmB HPU HA5 hsz5
        by_cases hfin : p + k < s.size
        · obtain ⟨c, hc⟩ : ∃ c, c = (s[p + k]).toNat := ⟨_, rfl⟩
          have hcb : c < 256 := by rw [hc]; exact UInt8.toNat_lt _
          have hsc : (s[p + k]).toNat = c := hc.symm
          have hx1 : s.extract (p + k) (p + k + 1) = Lz.one c := by
            have hs1 : (s.extract (p + k) (p + k + 1)).size = 1 := by rw [ByteArray.size_extract]; omega
            rw [Lp.one_of hs1, extract_byte s (p + k) hfin, hc]
          have hzx : z ++ Lz.one c = s.extract p (p + (k + 1)) := by
            rw [HZZ.out, ← hx1, ByteArray.extract_append_extract, Nat.min_eq_left (by omega), Nat.max_eq_right (by omega)]
            rfl
          have hnum : Lp.num l (z ++ Lz.one c) < 0 := by
            rw [hzx]
            rcases HEND.out with h1 | h1
            · omega
            · exact h1.2
          have hfind : Lp.find l (z ++ Lz.one c) < 0 := by rw [← Lp.num_two rfl (by omega)]; exact hnum
          have hnx : Lp.at b wide s (p + k + 1) = Lp.one b wide ⟨l, out, z⟩ (Lz.one c) := by
            show Lp.one b wide (Lp.at b wide s (p + k)) (s.extract (p + k) (p + k + 1)) = _
            rw [HATK.out, hx1]
          obtain ⟨P, hP⟩ : ∃ P : Nat, P = p + k := ⟨_, rfl⟩
          have hPb : P < s.size := by omega
          have hPi : (P : Int) < (s.size : Int) := by omega
          have hkI2 : (p : Int) + (k : Int) = (P : Int) := by omega
          have hscP : (s[P]).toNat = c := by subst hP; exact hsc
          have HX : Hid (s.extract P (P + 1) = Lz.one c ∧ Lp.at b wide s (P + 1) = Lp.one b wide ⟨l, out, z⟩ (Lz.one c)) := by rw [hP]; exact ⟨hx1, hnx⟩
          have HLN : Hid (Calls Try.prog 41 #[.pointer (some ⟨B, 0, none⟩), .agg #[.int .i64 (v : Int), .int .u8 (c : Int)]] w6 fun e w' => e = .returned (.tuple #[]) ∧ LqI w w.heap.size B b wide s LL P w') := by
            by_cases hfl : l.length + 1 < Lp.full wide
            · refine (wrLearn_add B b _ (out.length + 1) w.heap.size mb N v c wide _ D l z (out ++ [C]) w6 hb HS6.out.1 HS6.out.2.1 HS6.out.2.2.1 HK6.out.1 HK6.out.2.1 hlB HK6.out.2.2.2 (by omega) (by have := HK6.out.2.2.1; omega) HZV.out HZB.out (by omega) hfind hcb hfl).mono ?_
              rintro e w7 ⟨rfl, D2, hr7, ho7, hm7, ht7, hb7⟩
              refine ⟨rfl, .inl ⟨hPb, l ++ [z ++ Lz.one c], out ++ [C], .slice (some ⟨g6, 0, none⟩) (out.length + 1) cap6, mb, N + 1, D2, { at_ := ?_, inv := Lq.inv_more HK6.out.2.1 rfl (by omega) (by rw [HZV.out]; omega) hfind, wr_ := ?_, op := ?_, map_ := hm7, nl := ?_, tab := ht7, lm := HK6.out.2.2.2, bel := HS6.out.2.2.2.trans hb7 }⟩⟩
              · rw [HX.out.2, HX.out.1, Lp.one_add (by show ¬ 0 ≤ Lp.num l (z ++ Lz.one c); omega) (by show ¬ Lp.full wide ≤ l.length + 1; omega), HC.out]
                show Lp.St.mk _ (out ++ [Lp.code b wide (Lp.num l z) l.length]) _ = _
                rw [HZV.out]
              · rw [List.length_append, show l.length + [z ++ Lz.one c].length - (2 ^ b + 2) = l.length - (2 ^ b + 2) + 1 by simp; omega]
                exact hr7
              · rw [List.length_append]; exact ho7
              · rw [List.length_append]; have := HK6.out.2.2.1; simp; omega
            · refine (wrLearn_full B b _ (out.length + 1) w.heap.size mb N v c wide _ D l z (out ++ [C]) _ w6 hb HS6.out.1 HS6.out.2.1 HS6.out.2.2.1 HK6.out.1 HK6.out.2.1 hlB HK6.out.2.2.2 (by omega) (by have := HK6.out.2.2.1; omega) HZV.out HZB.out (by omega) hfind hcb (by omega) rfl rfl).mono ?_
              rintro e w7 ⟨rfl, g7, cap7, mb7, hr7, ho7, hm7, hmb7, hb7⟩
              refine ⟨rfl, .inl ⟨hPb, Lz.start b, (out ++ [C]) ++ [Lp.code b wide ((2 ^ b : Nat) : Int) (l.length + 1)], .slice (some ⟨g7, 0, none⟩) (out.length + 1 + 1) cap7, mb7, 0, .map [], { at_ := ?_, inv := Lq.inv_start hb, wr_ := ?_, op := ?_, map_ := hm7, nl := Nat.zero_le _, tab := tab_start b, lm := hmb7, bel := HS6.out.2.2.2.trans hb7 }⟩⟩
              · rw [HX.out.2, HX.out.1, Lp.one_full (by show ¬ 0 ≤ Lp.num l (z ++ Lz.one c); omega) (by show Lp.full wide ≤ l.length + 1; omega), HC.out]
                show Lp.St.mk _ ((out ++ [Lp.code b wide (Lp.num l z) l.length]) ++ _) _ = _
                rw [HZV.out]
              · rw [Lz.start_len, Nat.sub_self]; exact hr7
              · rw [List.length_append, List.length_append]; exact ho7
          clear hc hx1 hzx hnum hfind hnx hP HX HK6 HS6 HZV HATK HEND HZB HZZ HC hsc hkI
          go_wp2_with fail
          refine HLN.out.mono ?_
          rintro e w7 ⟨rfl, hI7⟩
          have HI7 : Hid (LqI w w.heap.size B b wide s LL P w7) := hI7
          clear hI7 HLN
          go_wp2_with fail
          go_roundw
          case rel => exact ⟨P, by omega, rfl, HI7⟩
          case measure => simp [intOf]; omega
        · obtain ⟨P, hP⟩ : ∃ P : Nat, P = p + k := ⟨_, rfl⟩
          have hPs : P = s.size := by omega
          have hPi : ¬ (P : Int) < (s.size : Int) := by omega
          have hkI2 : (p : Int) + (k : Int) = (P : Int) := by omega
          have HI7 : Hid (LqI w w.heap.size B b wide s LL P w6) := by
            refine .inr ⟨hPs, .map (some mb), l.length - (2 ^ b + 2) + 1, out ++ [C], .slice (some ⟨g6, 0, none⟩) (out.length + 1) cap6, { wr_ := HS6.out.1, op := by rw [List.length_append]; exact HS6.out.2.1, bel := HS6.out.2.2.2, si := hs42, ol := by rw [List.length_append]; show out.length + 1 ≤ _; omega, all_ := ?_ }⟩
            rw [HLL.out]
            unfold Lp.all
            rw [← hPs, hP, HATK.out, Lp.close_end (by omega) hlo2, HZV.out, HC.out]
          have hpP : p < P := by omega
          clear hP HK6 HS6 HZV HATK HEND HZB HZZ HC hkI
          have HPS : Hid (P = s.size) := hPs
          clear hPs
          go_wp2_with fail
          go_roundw
          case rel => exact ⟨P, by have := HPS.out; omega, rfl, HI7⟩
          case measure => simp [intOf]; have := HPS.out; omega
      · omega
    · rcases HI.out with ⟨hq, -⟩ | ⟨-, mv, since, out, ov, hBB⟩
      · exact absurd hq hlt
      · have HBX : Hid (LqB w w.heap.size B b wide LL mv since out ov wr) := hBB
        have c0 := hBB.wr_.cell 0
        have c1 := hBB.wr_.cell 1
        simp at c0 c1
        have hpi : ¬ (p : Int) < (s.size : Int) := by omega
        clear hBB HI
        go_wp2_with fail
        refine (HEN.out _).mono ?_
        rintro e w4 ⟨rfl, b4⟩
        have hr4 : Wr w4 B b wide mv since ov := HBX.out.wr_.same (b4.block _ HBX.out.wr_.lt)
        have ho4 : OwnP w4 w.heap.size ov out.length out := row_below HBX.out.op b4
        have hbel4 : Below w.heap.size w w4 := HBX.out.bel.trans (b4.mono HBX.out.bel.size)
        have HPU : Hid (Calls Try.prog 40 #[.pointer (some ⟨B, 0, none⟩), .int .i64 ((2 ^ b + 1 : Nat) : Int)] w4 fun e w' => e = .returned (.tuple #[]) ∧ ∃ g cap, Wr w' B b wide mv (since + 1) (.slice (some ⟨g, 0, none⟩) LL.length cap) ∧ Bits2 w' (some ⟨g, 0, none⟩) LL ∧ Below w.heap.size w w') := by
          refine (wrPut B b since out.length w.heap.size wide mv ov _ out _ w4 hb hr4 ho4 hbel4.size (by have := HBX.out.ol; omega) HBX.out.si rfl).mono ?_
          rintro e w5 ⟨rfl, g, cap, hr5, ho5, hg5⟩
          have hLL2 : LL = out ++ [(((2 ^ b + 1 : Nat) : Int), (Lz.width b wide (2 ^ b + 2 + (since - 1)) : Int))] := by rw [HBX.out.all_]; rfl
          have hlen : LL.length = out.length + 1 := by rw [hLL2, List.length_append]; rfl
          rw [← hLL2, ← hlen] at ho5
          rw [← hlen] at hr5
          obtain ⟨ao, c2, he, hbits⟩ := OwnP.bits ho5
          cases he
          exact ⟨rfl, g, cap, hr5, hbits, hg5.below hbel4 hlB hbel4.size (fun k hk => (World.ownsRow.lt ho4 k hk).1)⟩
        clear b4 hr4 ho4 hbel4 HEN HBX c0 c1
        generalize 2 ^ b + 1 = E at *
        go_wp2_with fail
        refine HPU.out.mono ?_
        rintro e w5 ⟨rfl, g, cap, hr5, hbits, hb5⟩
        have HS5 : Hid (Bits2 w5 (some ⟨g, 0, none⟩) LL ∧ Below w.heap.size w w5) := ⟨hbits, hb5⟩
        have k4 := hr5.cell 4
        simp at k4
        clear hr5 hbits hb5 HPU
        go_wp2_with fail
        refine (HBP.out (some ⟨g, 0, none⟩) cap w5 HS5.out.1).mono ?_
        rintro e w6 ⟨rfl, b6⟩
        have HB6 : Hid (Below w.heap.size w w6) := HS5.out.2.trans (b6.mono HS5.out.2.size)
        clear b6 HS5
        go_wp2_with fail
        go_ret
        exact ⟨rfl, HB6.out⟩
end Go.Proofs.Ytjfihmpnbblomaa

/- LzwPut of the program at every input; the exact law, walked. -/
namespace Go.Proofs.Ytjfihmpnbblomaa
open Go.RowKit

set_option maxHeartbeats 1000000 in
theorem impl_lzwPut (s : ByteArray) (b : Int) (wide : Bool) (w : World) (hs : s.size ≤ 3000000) :
    Calls Try.prog 13 #[.string s, .int .i64 b, .bool wide] w fun e w' => e = .returned (.string ⟨(Lp.ans s b wide).toArray⟩) ∧ Below w.heap.size w w' := by
  have HOK : Hid (∀ w', Calls Try.prog 36 #[.agg #[.int .i64 b, .bool wide]] w' fun e w'' => e = .returned (.bool (Lz.ok b wide)) ∧ Below w'.heap.size w' w'') := fun w' => lzOk_any b wide w'
  have HB0 : Hid (Below w.heap.size w (w.alloc (.cells #[.int .i64 b, .bool wide] 50))) := (Below.refl _ _).alloc (Nat.le_refl _) _
  cases hk : Lz.ok b wide with
  | false =>
    have HA : Hid (Lp.ans s b wide = []) := by show _ = _; unfold Lp.ans Lp.ok; rw [hk]; rfl
    rw [hk] at HOK
    rw [HA.out]
    clear hk HA
    go_enter Try.func13, Try.ntmps13
    go_wp2_with fail
    refine (HOK.out _).mono ?_
    rintro e w1 ⟨rfl, b1⟩
    have HB1 : Hid (Below w.heap.size w w1) := HB0.out.trans (b1.mono HB0.out.size)
    clear b1 HB0 HOK
    go_wp2_with fail
    go_ret
    exact ⟨rfl, HB1.out⟩
  | true =>
    have hbd := Lz.ok_rng hk
    obtain ⟨B, rfl⟩ := Int.eq_ofNat_of_zero_le (show 0 ≤ b by omega)
    have HAN : Hid (Lp.ans s B wide = if (decide (s.size ≤ 5000) && Lp.smallB B s) then (Bp.text wide (Lp.all B wide s)).map UInt8.ofNat else []) := by show _ = _; unfold Lp.ans Lp.ok; rw [hk, Bool.true_and, Int.toNat_natCast]
    by_cases h5 : 5000 < s.size
    · have HA : Hid (Lp.ans s B wide = []) := by show _ = _; rw [HAN.out, decide_eq_false (by omega)]; rfl
      rw [HA.out]
      rw [hk] at HOK
      have d1 : decide ((s.size : Int) > 5000) = true := decide_eq_true (by omega)
      clear HAN HA hk
      go_enter Try.func13, Try.ntmps13
      go_wp2_with fail
      refine (HOK.out _).mono ?_
      rintro e w1 ⟨rfl, b1⟩
      have HB1 : Hid (Below w.heap.size w w1) := HB0.out.trans (b1.mono HB0.out.size)
      clear b1 HB0 HOK
      go_wp2_with fail
      go_ret
      exact ⟨rfl, HB1.out⟩
    · cases hsm : Lp.smallB B s with
      | false =>
        have HA : Hid (Lp.ans s B wide = []) := by show _ = _; rw [HAN.out, hsm, Bool.and_false]; rfl
        have HFT : Hid (∀ w', Calls Try.prog 37 #[.string s, .int .i64 (B : Int)] w' fun e w'' => e = .returned (.bool false) ∧ w'' = w') := fun w' => by rw [← hsm]; exact bytesFit_any B s w' (by omega) (by omega)
        have d1 : decide ((s.size : Int) > 5000) = false := decide_eq_false (by omega)
        rw [HA.out]
        rw [hk] at HOK
        clear HAN HA hk hsm
        go_enter Try.func13, Try.ntmps13
        go_wp2_with fail
        refine (HOK.out _).mono ?_
        rintro e w1 ⟨rfl, b1⟩
        have HB1 : Hid (Below w.heap.size w w1) := HB0.out.trans (b1.mono HB0.out.size)
        clear b1 HB0 HOK
        go_wp2_with fail
        refine (HFT.out _).mono ?_
        rintro e w2 ⟨rfl, hw2⟩
        replace hw2 := hw2.symm
        subst hw2
        go_wp2_with fail
        go_ret
        exact ⟨rfl, HB1.out⟩
      | true =>
        have HA : Hid (Lp.ans s B wide = (Bp.text wide (Lp.all B wide s)).map UInt8.ofNat) := by show _ = _; rw [HAN.out, hsm, Bool.and_true, decide_eq_true (by omega)]; rfl
        rw [HA.out]
        exact impl_lzwPut_yes s B wide w hk (by omega) hsm

set_option maxHeartbeats 1000000 in
theorem exLzwPut (s : ByteArray) (b : Int) (wide : Bool) (hs : s.size ≤ maxLen) (_hw : (Lit.int .i64 b).wf = true) (w : World) :
    Calls Try.prog 6 #[.string s, .int .i64 b, .bool wide] w fun e w' => e = .returned (.bool true) ∧ Below w.heap.size w w' := by
  by_cases hbig : 1048576 < s.size
  · unfold maxLen at hs
    go_enter Try.func6, Try.ntmps6
    go_wp2_with fail
    go_ret
    exact ⟨rfl, Below.refl _ _⟩
  have hsm : s.size ≤ 1048576 := by omega
  obtain ⟨T, hT⟩ : ∃ T : ByteArray, T = ⟨(Lp.ans s b wide).toArray⟩ := ⟨_, rfl⟩
  have HSP : Hid (∀ w : World, Calls Try.prog 14 #[.string s, .int .i64 b, .bool wide] w fun e w' => e = .returned (.string T) ∧ Below w.heap.size w w') := fun w => by rw [hT]; exact spec_lzwPut s b wide w (by omega) (fun w => l6Ok_any b wide w)
  have HIM : Hid (∀ w : World, Calls Try.prog 13 #[.string s, .int .i64 b, .bool wide] w fun e w' => e = .returned (.string T) ∧ Below w.heap.size w w') := fun w => by rw [hT]; exact impl_lzwPut s b wide w (by omega)
  have hbe : (T.toList == T.toList) = true := by simp
  clear hT hbig
  go_enter Try.func6, Try.ntmps6
  go_wp2_with fail
  refine (HSP.out _).mono ?_
  rintro e w1 ⟨rfl, b1⟩
  go_wp2_with fail
  refine (HIM.out _).mono ?_
  rintro e w2 ⟨rfl, b2⟩
  have B2 : Hid (Below w.heap.size w w2) := b1.trans (b2.mono b1.size)
  clear b1 b2 HSP HIM
  go_wp2_with fail
  go_ret
  exact ⟨rfl, B2.out⟩
end Go.Proofs.Ytjfihmpnbblomaa

/- What was packed by LZW comes out: the mathematics. -/
namespace Go.Proofs.Ytjfihmpnbblomaa

/-- the numbers stand in the text -/
def Lr.Reads (X : ByteArray) (wide : Bool) (A : List (Int × Int)) : Prop := ∀ k (h : k < A.length) (V S : Nat), A[k] = ((V : Int), (S : Int)) → Bp.tot A (k + 1) = Bp.tot A k + S ∧ Bp.tot A k + S ≤ 8 * X.size ∧ Lz.num X wide (Bp.tot A k) S = V

theorem Lr.step_text {X : ByteArray} {b : Nat} {wide : Bool} {A : List (Int × Int)} (R : Lr.Reads X wide A) {k v : Nat} (hk : k < A.length) {l : List ByteArray} {last : ByteArray} {left : Nat} (hA : A[k] = ((v : Int), (Lz.width b wide l.length : Int)))
    (h1 : v ≠ 2 ^ b) (h2 : v ≠ 2 ^ b + 1) (h3 : ¬ (l.length < v ∨ (v = l.length ∧ last.size = 0))) (h4 : (Lz.text l last v).size ≤ left) :
    Lz.step X b wide (Bp.tot A k) l last left = .ok (v, Lz.text l last v, Lz.learn l last (Lz.text l last v), Lz.text l last v, left - (Lz.text l last v).size) := by
  obtain ⟨-, r1, r2⟩ := R k hk v _ hA
  unfold Lz.step
  simp only [r2]
  rw [if_neg (by omega), if_neg h1, if_neg h2, if_neg h3, if_neg (by omega)]
theorem Lr.step_clear {X : ByteArray} {b : Nat} {wide : Bool} {A : List (Int × Int)} (R : Lr.Reads X wide A) {k : Nat} (hk : k < A.length) {l : List ByteArray} {last : ByteArray} {left : Nat} (hA : A[k] = (((2 ^ b : Nat) : Int), (Lz.width b wide l.length : Int))) :
    Lz.step X b wide (Bp.tot A k) l last left = .ok (2 ^ b, ⟨#[]⟩, Lz.start b, ⟨#[]⟩, left) := by
  obtain ⟨-, r1, r2⟩ := R k hk _ _ hA
  unfold Lz.step
  simp only [r2]
  rw [if_neg (by omega), if_pos trivial]
theorem Lr.step_end {X : ByteArray} {b : Nat} {wide : Bool} {A : List (Int × Int)} (R : Lr.Reads X wide A) {k : Nat} (hk : k < A.length) {l : List ByteArray} {last : ByteArray} {left : Nat} (hA : A[k] = (((2 ^ b + 1 : Nat) : Int), (Lz.width b wide l.length : Int))) :
    Lz.step X b wide (Bp.tot A k) l last left = .ok (2 ^ b + 1, ⟨#[]⟩, l, last, left) := by
  obtain ⟨-, r1, r2⟩ := R k hk _ _ hA
  unfold Lz.step
  simp only [r2]
  rw [if_neg (by omega), if_neg (by omega), if_pos trivial]

/-- how far it is known -/
theorem Lr.long {l : List ByteArray} {s : ByteArray} {p : Nat} (h1 : 0 ≤ Lp.num l (s.extract p (p + 1))) (hp : p < s.size) :
    ∃ k, 1 ≤ k ∧ p + k ≤ s.size ∧ (∀ j, 1 ≤ j → j ≤ k → 0 ≤ Lp.num l (s.extract p (p + j))) ∧ (p + k = s.size ∨ (p + k < s.size ∧ Lp.num l (s.extract p (p + (k + 1))) < 0)) := by
  have main : ∀ n k, s.size - (p + k) ≤ n → 1 ≤ k → p + k ≤ s.size → (∀ j, 1 ≤ j → j ≤ k → 0 ≤ Lp.num l (s.extract p (p + j))) → ∃ k, 1 ≤ k ∧ p + k ≤ s.size ∧ (∀ j, 1 ≤ j → j ≤ k → 0 ≤ Lp.num l (s.extract p (p + j))) ∧ (p + k = s.size ∨ (p + k < s.size ∧ Lp.num l (s.extract p (p + (k + 1))) < 0)) := by
    intro n
    induction n with
    | zero => intro k hn h2 h3 h4; exact ⟨k, h2, h3, h4, .inl (by omega)⟩
    | succ n ih =>
      intro k hn h2 h3 h4
      by_cases he : p + k = s.size
      · exact ⟨k, h2, h3, h4, .inl he⟩
      · by_cases hl : Lp.num l (s.extract p (p + (k + 1))) < 0
        · exact ⟨k, h2, h3, h4, .inr ⟨by omega, hl⟩⟩
        · refine ih (k + 1) (by omega) (by omega) (by omega) (fun j h5 h6 => ?_)
          by_cases hj : j ≤ k
          · exact h4 j h5 hj
          · have : j = k + 1 := by omega
            subst this
            omega
  exact main (s.size - (p + 1)) 1 (by omega) (Nat.le_refl _) (by omega) (fun j h2 h3 => by
    have e : j = 1 := by omega
    subst e
    exact h1)

theorem Lp.one_pre (b : Nat) (wide : Bool) (t : Lp.St) (x : ByteArray) : t.out <+: (Lp.one b wide t x).out := by
  unfold Lp.one
  split
  · exact List.prefix_refl _
  · split
    · rw [List.append_assoc]; exact List.prefix_append _ _
    · exact List.prefix_append _ _
theorem Lp.at_pre (b : Nat) (wide : Bool) (s : ByteArray) (i : Nat) : ∀ j, (Lp.at b wide s i).out <+: (Lp.at b wide s (i + j)).out
  | 0 => List.prefix_refl _
  | j + 1 => (Lp.at_pre b wide s i j).trans (Lp.one_pre b wide _ _)
theorem Lp.all_pre (b : Nat) (wide : Bool) (s : ByteArray) (i : Nat) (hi : i ≤ s.size) : (Lp.at b wide s i).out <+: Lp.all b wide s := by
  have h := Lp.at_pre b wide s i (s.size - i)
  rw [show i + (s.size - i) = s.size by omega] at h
  refine h.trans ?_
  unfold Lp.all Lp.close
  split
  · exact List.prefix_append _ _
  · rw [List.append_assoc]; exact List.prefix_append _ _

theorem pre_at {A o : List (Int × Int)} {c : Int × Int} {r : List (Int × Int)} (h : (o ++ c :: r) <+: A) : ∃ hk : o.length < A.length, A[o.length] = c := by
  obtain ⟨t, e⟩ := h
  have hl : o.length < A.length := by rw [← e]; simp
  refine ⟨hl, ?_⟩
  subst e
  simp
theorem drop_at {A : List (Int × Int)} {k : Nat} (h : k < A.length) : (A.drop k).map Prod.fst = (A[k]).1 :: (A.drop (k + 1)).map Prod.fst := by
  rw [List.drop_eq_getElem_cons h]; rfl

theorem Lp.one_full_ {b : Nat} {wide : Bool} {l : List ByteArray} {out : List (Int × Int)} {z x : ByteArray} (h : Lp.num l (z ++ x) < 0) (h2 : Lp.full wide ≤ l.length + 1) : Lp.one b wide ⟨l, out, z⟩ x = ⟨Lz.start b, (out ++ [Lp.code b wide (Lp.num l z) l.length]) ++ [Lp.code b wide ((2 ^ b : Nat) : Int) (l.length + 1)], x⟩ := by
  unfold Lp.one
  rw [if_neg (show ¬ 0 ≤ Lp.num l (z ++ x) by omega), if_pos h2]
theorem Lp.one_add_ {b : Nat} {wide : Bool} {l : List ByteArray} {out : List (Int × Int)} {z x : ByteArray} (h : Lp.num l (z ++ x) < 0) (h2 : ¬ Lp.full wide ≤ l.length + 1) : Lp.one b wide ⟨l, out, z⟩ x = ⟨l ++ [z ++ x], out ++ [Lp.code b wide (Lp.num l z) l.length], x⟩ := by
  unfold Lp.one
  rw [if_neg (show ¬ 0 ≤ Lp.num l (z ++ x) by omega), if_neg h2]
/-- what whoever reads knows, when so much is known here -/
def Lr.Rel (b : Nat) (s : ByteArray) (p : Nat) (l l' : List ByteArray) (last' : ByteArray) : Prop :=
  (l = Lz.start b ∧ l' = Lz.start b ∧ last' = ⟨#[]⟩) ∨ (l = l' ++ [last' ++ s.extract p (p + 1)] ∧ 1 ≤ last'.size ∧ 2 ^ b + 2 ≤ l'.length)
theorem Lr.known {b : Nat} {s : ByteArray} {p : Nat} {l l' : List ByteArray} {last' : ByteArray} (h : Lr.Rel b s p l l' last') : Lp.known b l.length = l'.length := by
  unfold Lp.known
  rcases h with ⟨rfl, rfl, rfl⟩ | ⟨rfl, -, h2⟩
  · rw [if_pos (Lz.start_len b)]
  · have e : (l' ++ [last' ++ s.extract p (p + 1)]).length = l'.length + 1 := by simp
    rw [e, if_neg (by omega)]
    omega
/-- the phrase is told, and what is known behind it -/
theorem Lr.phrase {b k v : Nat} {s : ByteArray} {p : Nat} {l l' : List ByteArray} {last' : ByteArray} (h : Lr.Rel b s p l l' last') (g : Lq.Inv b l) (hl4 : l.length ≤ 4096) (hk : 1 ≤ k) (hp : p + k ≤ s.size) (hv : Lp.num l (s.extract p (p + k)) = (v : Int)) (hb : Lp.byte (s.extract p (p + 1)) < 2 ^ b) :
    v ≠ 2 ^ b ∧ v ≠ 2 ^ b + 1 ∧ ¬ (l'.length < v ∨ (v = l'.length ∧ last'.size = 0)) ∧ Lz.text l' last' v = s.extract p (p + k) ∧ Lz.learn l' last' (s.extract p (p + k)) = l := by
  have hzs : (s.extract p (p + k)).size = k := by rw [ByteArray.size_extract]; omega
  obtain ⟨hvl, hve⟩ := Lq.at_num g hv (fun h1 => by
    rw [hzs] at h1
    subst h1
    exact hb)
  have hlo := g.lo
  have hempty : ∀ i (hi : i < l.length), 2 ^ b ≤ i → i < 2 ^ b + 2 → l[i] = ⟨#[]⟩ := fun i hi h1 h2 => by
    have e3 : (l.take (2 ^ b + 2))[i]'(by rw [g.pre, Lz.start_len]; exact h2) = l[i] := List.getElem_take
    rw [← e3]
    simp only [g.pre]
    exact Lz.start_big (by rw [Lz.start_len]; exact h2) h1
  have hne : ∀ i, 2 ^ b ≤ i → i < 2 ^ b + 2 → v ≠ i := fun i h1 h2 e => by
    subst e
    rw [hempty v hvl h1 h2] at hve
    have := congrArg ByteArray.size hve
    rw [hzs] at this
    have h0 : (ByteArray.mk #[]).size = 0 := rfl
    omega
  have hfirst : (s.extract p (p + k)).extract 0 1 = s.extract p (p + 1) := by
    rw [ByteArray.extract_extract]
    congr 1
    omega
  refine ⟨hne _ (Nat.le_refl _) (by omega), hne _ (by omega) (by omega), ?_⟩
  rcases h with ⟨rfl, rfl, rfl⟩ | ⟨hl, h1, h2⟩
  · refine ⟨by omega, ?_, ?_⟩
    · unfold Lz.text; rw [dif_pos hvl]; exact hve
    · unfold Lz.learn; rw [if_neg (fun h => absurd h.1 (Nat.lt_irrefl _))]
  · have hlen : l.length = l'.length + 1 := by rw [hl]; simp
    refine ⟨by omega, ?_, ?_⟩
    · unfold Lz.text
      by_cases hlt : v < l'.length
      · rw [dif_pos hlt, ← hve]
        subst hl
        exact (List.getElem_append_left hlt).symm
      · rw [dif_neg hlt]
        have e : v = l'.length := by omega
        subst e
        have e2 : l[l'.length] = last' ++ s.extract p (p + 1) := by subst hl; simp
        rw [e2] at hve
        have hx1 : (s.extract p (p + 1)).size = 1 := by rw [ByteArray.size_extract]; omega
        have e3 : (last' ++ s.extract p (p + 1)).extract 0 1 = last'.extract 0 1 := by
          apply ByteArray.ext
          rw [ByteArray.data_extract, ByteArray.data_extract, ByteArray.data_append]
          rw [Array.extract_append]
          simp
          omega
        rw [hve, hfirst] at e3
        rw [← e3, hve]
    · unfold Lz.learn
      rw [if_pos ⟨by omega, by omega⟩, hfirst, hl]

theorem textsOf_cons (z : Nat × ByteArray) (dn : List (Nat × ByteArray)) : textsOf (z :: dn) = z.2.data.toList ++ textsOf dn := by simp [textsOf]
theorem codesOf_cons (z : Nat × ByteArray) (dn : List (Nat × ByteArray)) : codesOf (z :: dn) = (z.1 : Int) :: codesOf dn := by simp [codesOf]

/-- the way back, from a phrase on -/
theorem Lr.main {X s : ByteArray} {b : Nat} {wide : Bool} (hb : b ≤ 8) (hsm : Lp.small b s) (R : Lr.Reads X wide (Lp.all b wide s)) :
    ∀ n p l out l' last' left f, s.size - p ≤ n → p < s.size → Lp.at b wide s (p + 1) = ⟨l, out, s.extract p (p + 1)⟩ → Lq.Inv b l → Lr.Rel b s p l l' last' → s.size - p ≤ left → (Lp.all b wide s).length ≤ out.length + f →
      ∃ dn, Lz.go X b wide f (Bp.tot (Lp.all b wide s) out.length) l' last' left = .ok dn ∧ textsOf dn = (s.extract p s.size).data.toList ∧ codesOf dn = ((Lp.all b wide s).drop out.length).map Prod.fst := by
  intro n
  induction n with
  | zero => intro p l out l' last' left f h0 hp; omega
  | succ n ih =>
    intro p l out l' last' left f hn hp hat g rel hleft hf
    have hgood := Lp.good_at hb wide hsm (p + 1) (by omega)
    rw [hat] at hgood
    have hhi : l.length < Lp.full wide := hgood.hi
    have hfb := Lp.full_bd wide
    have hlo := g.lo
    have hby : Lp.byte (s.extract p (p + 1)) < 2 ^ b := hsm p hp
    have hx1 : (s.extract p (p + 1)).size = 1 := by rw [ByteArray.size_extract]; omega
    obtain ⟨k, hk1, hkp, hkn, hke⟩ := Lr.long (l := l) (s := s) (p := p) (by rw [Lp.num_one hx1]; omega) hp
    have hrun := Lq.run hat hkn k hk1 (Nat.le_refl _)
    obtain ⟨v, hv⟩ := Int.eq_ofNat_of_zero_le (hkn k hk1 (Nat.le_refl _))
    obtain ⟨q1, q2, q3, q4, q5⟩ := Lr.phrase rel g (by omega) hk1 hkp hv hby
    have hkw := Lr.known rel
    obtain ⟨z, hz⟩ : ∃ z, z = s.extract p (p + k) := ⟨_, rfl⟩
    rw [← hz] at hrun hv q4 q5
    have hzs : z.size = k := by rw [hz, ByteArray.size_extract]; omega
    obtain ⟨A, hA⟩ : ∃ A, A = Lp.all b wide s := ⟨_, rfl⟩
    rw [← hA] at R hf ⊢
    have hC : Lp.code b wide (Lp.num l z) l.length = ((v : Int), (Lz.width b wide l'.length : Int)) := by unfold Lp.code; rw [hv, hkw]
    have hsplit : (s.extract p s.size).data.toList = z.data.toList ++ (s.extract (p + k) s.size).data.toList := by
      have e : s.extract p s.size = z ++ s.extract (p + k) s.size := by
        rw [hz, ByteArray.extract_append_extract, Nat.min_eq_left (by omega), Nat.max_eq_right (by omega)]
      rw [e, ByteArray.data_append, Array.toList_append]
    -- the phrase's own number
    have hphr : ∀ r, (out ++ (((v : Int), (Lz.width b wide l'.length : Int)) :: r)) <+: A → ∀ f', f = f' + 1 → (∃ dn', Lz.go X b wide f' (Bp.tot A (out.length + 1)) l z (left - k) = .ok dn' ∧ textsOf dn' = (s.extract (p + k) s.size).data.toList ∧ codesOf dn' = (A.drop (out.length + 1)).map Prod.fst) →
        ∃ dn, Lz.go X b wide f (Bp.tot A out.length) l' last' left = .ok dn ∧ textsOf dn = (s.extract p s.size).data.toList ∧ codesOf dn = (A.drop out.length).map Prod.fst := by
      rintro r hr f' rfl ⟨dn', d1, d2, d3⟩
      obtain ⟨hkA, hAk⟩ := pre_at hr
      have hst := Lr.step_text R hkA (left := left) hAk q1 q2 q3 (by rw [q4, hzs]; omega)
      rw [q4, q5, hzs] at hst
      obtain ⟨t1, -, -⟩ := R _ hkA v _ hAk
      refine ⟨(v, z) :: dn', ?_, ?_, ?_⟩
      · rw [Lz.go_on hst q2, ← t1, d1]; rfl
      · rw [textsOf_cons, d2, hsplit]
      · rw [codesOf_cons, d3, drop_at hkA, hAk]
    have hkn1 : Lp.known b (l.length + 1) = l.length := by unfold Lp.known; rw [if_neg (by omega)]; omega
    have hlenC : (out ++ [((v : Int), (Lz.width b wide l'.length : Int))]).length = out.length + 1 := by simp
    rcases hke with hend | ⟨hmore, hneg⟩
    · have hAe : A = (out ++ [((v : Int), (Lz.width b wide l'.length : Int))]) ++ [(((2 ^ b + 1 : Nat) : Int), (Lz.width b wide l.length : Int))] := by
        rw [hA]
        unfold Lp.all
        rw [← hend, hrun]
        unfold Lp.close
        rw [if_neg (by show z.size ≠ 0; omega)]
        show (out ++ [Lp.code b wide (Lp.num l z) l.length]) ++ [Lp.code b wide (((2 ^ b : Nat) : Int) + 1) (l.length + 1)] = _
        rw [hC]
        unfold Lp.code
        rw [hkn1]
        rfl
      have hAl : A.length = out.length + 2 := by rw [hAe]; simp
      obtain ⟨f', rfl⟩ : ∃ f', f = f' + 2 := ⟨f - 2, by omega⟩
      refine hphr [(((2 ^ b + 1 : Nat) : Int), (Lz.width b wide l.length : Int))] (by rw [hAe, List.append_assoc]; exact List.prefix_refl _) (f' + 1) rfl ?_
      obtain ⟨hkA, hAk⟩ := pre_at (A := A) (o := out ++ [((v : Int), (Lz.width b wide l'.length : Int))]) (c := (((2 ^ b + 1 : Nat) : Int), (Lz.width b wide l.length : Int))) (r := []) (by rw [hAe]; exact List.prefix_refl _)
      have hst := Lr.step_end R hkA (left := left - k) (last := z) hAk
      have e9 := drop_at hkA
      rw [hAk] at e9
      rw [hlenC] at hst e9
      refine ⟨[(2 ^ b + 1, ⟨#[]⟩)], Lz.go_end hst rfl, ?_, ?_⟩
      · rw [hend]
        have e0 : s.extract s.size s.size = ⟨#[]⟩ := ByteArray.ext (Array.eq_empty_of_size_eq_zero (show (s.extract s.size s.size).size = 0 by rw [ByteArray.size_extract]; omega))
        rw [e0]
        rfl
      · rw [e9, List.drop_eq_nil_of_le (by omega)]
        rfl
    · obtain ⟨x, hx⟩ : ∃ x, x = s.extract (p + k) (p + k + 1) := ⟨_, rfl⟩
      have hxs : x.size = 1 := by rw [hx, ByteArray.size_extract]; omega
      have hzx : z ++ x = s.extract p (p + (k + 1)) := by
        rw [hz, hx, ByteArray.extract_append_extract, Nat.min_eq_left (by omega), Nat.max_eq_right (by omega)]
        rfl
      rw [← hzx] at hneg
      have hnext : Lp.at b wide s (p + k + 1) = Lp.one b wide ⟨l, out, z⟩ x := by
        show Lp.one b wide (Lp.at b wide s (p + k)) (s.extract (p + k) (p + k + 1)) = _
        rw [hrun, hx]
      have hpre := Lp.all_pre b wide s (p + k + 1) (by omega)
      rw [← hA] at hpre
      have hfind : Lp.find l (z ++ x) < 0 := by rw [← Lp.num_two hxs (by omega)]; exact hneg
      by_cases hfl : Lp.full wide ≤ l.length + 1
      · rw [Lp.one_full_ hneg hfl, hC] at hnext
        have hC2 : Lp.code b wide ((2 ^ b : Nat) : Int) (l.length + 1) = (((2 ^ b : Nat) : Int), (Lz.width b wide l.length : Int)) := by unfold Lp.code; rw [hkn1]
        rw [hC2] at hnext
        rw [hnext] at hpre
        have hAl : out.length + 2 ≤ A.length := by have := hpre.length_le; simpa using this
        obtain ⟨f', rfl⟩ : ∃ f', f = f' + 2 := ⟨f - 2, by omega⟩
        refine hphr [(((2 ^ b : Nat) : Int), (Lz.width b wide l.length : Int))] (by rw [List.append_assoc] at hpre; exact hpre) (f' + 1) rfl ?_
        obtain ⟨hkA, hAk⟩ := pre_at (A := A) (o := out ++ [((v : Int), (Lz.width b wide l'.length : Int))]) (c := (((2 ^ b : Nat) : Int), (Lz.width b wide l.length : Int))) (r := []) hpre
        have hst := Lr.step_clear R hkA (left := left - k) (last := z) hAk
        have e9 := drop_at hkA
        obtain ⟨t1, -, -⟩ := R _ hkA _ _ hAk
        rw [hAk] at e9
        rw [hlenC] at hst e9 t1
        obtain ⟨dn', d1, d2, d3⟩ := ih (p + k) (Lz.start b) _ (Lz.start b) ⟨#[]⟩ (left - k) f' (by omega) hmore (by rw [hnext, hx]) (Lq.inv_start hb) (.inl ⟨rfl, rfl, rfl⟩) (by omega) (by rw [← hA]; simp; omega)
        rw [← hA] at d1 d3
        have hl2 : (out ++ [((v : Int), (Lz.width b wide l'.length : Int))] ++ [(((2 ^ b : Nat) : Int), (Lz.width b wide l.length : Int))]).length = out.length + 1 + 1 := by simp
        rw [hl2] at d1 d3
        refine ⟨(2 ^ b, ⟨#[]⟩) :: dn', ?_, ?_, ?_⟩
        · rw [Lz.go_on hst (by omega), ← t1, d1]; rfl
        · rw [textsOf_cons, d2]; rfl
        · rw [codesOf_cons, d3, e9]
      · rw [Lp.one_add_ hneg hfl, hC] at hnext
        rw [hnext] at hpre
        have hAl : out.length + 1 ≤ A.length := by have := hpre.length_le; simpa using this
        obtain ⟨f', rfl⟩ : ∃ f', f = f' + 1 := ⟨f - 1, by omega⟩
        refine hphr [] hpre f' rfl ?_
        obtain ⟨dn', d1, d2, d3⟩ := ih (p + k) (l ++ [z ++ x]) _ l z (left - k) f' (by omega) hmore (by rw [hnext, hx]) (Lq.inv_more g hxs (by omega) (by rw [hv]; omega) hfind) (.inr ⟨by rw [hx], by omega, hlo⟩) (by omega) (by rw [← hA]; simp; omega)
        rw [← hA] at d1 d3
        rw [hlenC] at d1 d3
        exact ⟨dn', d1, d2, d3⟩
end Go.Proofs.Ytjfihmpnbblomaa

/- Bits that were packed are there, each where it was put: the mathematics. -/
namespace Go.Proofs.Ytjfihmpnbblomaa
open Go.RowKit

/-- the text that bits make -/
def textOf (hi : Bool) (l : List (Int × Int)) : ByteArray := ⟨((Bp.answer hi l).map UInt8.ofNat).toArray⟩

theorem textOf_size {hi : Bool} {l : List (Int × Int)} (h : Bp.Fits l l.length) : (textOf hi l).size = (Bp.tot l l.length + 7) / 8 := by
  have : (textOf hi l).size = (Bp.answer hi l).length := by simp [textOf, ByteArray.size]
  rw [this, Bp.answer_yes h]
  exact Bp.pack_len hi _ _

theorem byteAt_text {hi : Bool} {l : List (Int × Int)} (h : Bp.Fits l l.length) (j : Nat) : byteAt (textOf hi l) j = (Bp.text hi l).getD j 0 := by
  have hb : (Bp.text hi l).getD j 0 < 256 := (Bp.inv hi (Bp.fOf hi l) (Bp.fOf_lt hi l) _).byte j
  unfold byteAt textOf
  rw [Bp.answer_yes h]
  show (((Bp.text hi l).map UInt8.ofNat).getD j 0).toNat = _
  rw [List.getD_eq_getElem?_getD, List.getD_eq_getElem?_getD, List.getElem?_map] at *
  cases e : (Bp.text hi l)[j]? with
  | none => rfl
  | some x =>
    rw [e] at hb
    have hx : x < 256 := hb
    show (UInt8.ofNat x).toNat = x
    simp [UInt8.toNat_ofNat']
    omega

theorem tot_mono (l : List (Int × Int)) : ∀ j, j ≤ l.length → ∀ i, i ≤ j → Bp.tot l i ≤ Bp.tot l j := by
  intro j
  induction j with
  | zero => intro _ i hi; have : i = 0 := by omega
            subst this; exact Nat.le_refl _
  | succ j ih =>
    intro hj i hi
    by_cases e : i = j + 1
    · subst e; exact Nat.le_refl _
    · have := ih (by omega) i (by omega)
      rw [Bp.tot_succ l j (by omega)]; omega

theorem bitAt_text {hi : Bool} {l : List (Int × Int)} (h : Bp.Fits l l.length) (i : Nat) (hi' : i < Bp.tot l l.length) : bitAt (textOf hi l) hi i = Bp.fOf hi l i := by
  have hv := (Bp.inv hi (Bp.fOf hi l) (Bp.fOf_lt hi l) (Bp.tot l l.length)).bit i (by rw [Bp.pack_len]; omega)
  unfold bitAt
  rw [byteAt_text h]
  exact hv.trans (if_pos hi')

theorem low_bits (V : Nat) : ∀ S, Bg.low (fun q => V / 2 ^ q % 2) S = V % 2 ^ S := by
  intro S
  induction S with
  | zero => simp [Bg.low, Nat.mod_one]
  | succ S ih => rw [Bg.low, ih, Nat.mod_pow_succ, Nat.mul_comm]

theorem big_bits (V : Nat) : ∀ S k, k ≤ S → Bg.big (fun q => V / 2 ^ (S - 1 - q) % 2) k = V % 2 ^ S / 2 ^ (S - k) := by
  intro S k
  induction k with
  | zero => intro _; rw [Nat.sub_zero, Nat.div_eq_of_lt (Nat.mod_lt _ (Nat.pow_pos (by omega)))]; rfl
  | succ k ih =>
    intro hk
    rw [Bg.big, ih (by omega)]
    have e1 : S - k = (S - (k + 1)) + 1 := by omega
    have e2 : S - 1 - k = S - (k + 1) := by omega
    rw [e2, e1, Nat.pow_succ, ← Nat.div_div_eq_div_mul]
    have h3 : V / 2 ^ (S - (k + 1)) % 2 = V % 2 ^ S / 2 ^ (S - (k + 1)) % 2 := by
      have e3 : 2 ^ S = 2 ^ (S - (k + 1)) * 2 ^ (k + 1) := by rw [← Nat.pow_add]; congr 1; omega
      rw [e3, Nat.mod_mul_right_div_self, Nat.pow_succ, Nat.mul_comm, Nat.mod_mul_right_mod]
    rw [h3]
    have := Nat.div_add_mod (V % 2 ^ S / 2 ^ (S - (k + 1))) 2
    omega

theorem num_bits (hi : Bool) (V S : Nat) (h : V < 2 ^ S) (b : Nat → Nat) (hb : ∀ q, q < S → b q = Bp.bitIn hi V S q) : Bg.num b S hi = V := by
  have clow : ∀ k, k ≤ S → ∀ b c : Nat → Nat, (∀ q, q < S → b q = c q) → Bg.low b k = Bg.low c k := by
    intro k
    induction k with
    | zero => intro _ b c _; rfl
    | succ k ih => intro hk b c hbc; rw [Bg.low, Bg.low, ih (by omega) b c hbc, hbc k (by omega)]
  have cbig : ∀ k, k ≤ S → ∀ b c : Nat → Nat, (∀ q, q < S → b q = c q) → Bg.big b k = Bg.big c k := by
    intro k
    induction k with
    | zero => intro _ b c _; rfl
    | succ k ih => intro hk b c hbc; rw [Bg.big, Bg.big, ih (by omega) b c hbc, hbc k (by omega)]
  cases hi
  · show Bg.low b S = V
    rw [clow S (Nat.le_refl _) b (fun q => V / 2 ^ q % 2) hb, low_bits, Nat.mod_eq_of_lt h]
  · show Bg.big b S = V
    rw [cbig S (Nat.le_refl _) b (fun q => V / 2 ^ (S - 1 - q) % 2) hb, big_bits V S S (Nat.le_refl _), Nat.sub_self, Nat.pow_zero, Nat.div_one, Nat.mod_eq_of_lt h]

/-- each number is where it was put -/
theorem back {hi : Bool} {l : List (Int × Int)} (h : Bp.Fits l l.length) (k : Nat) (hk : k < l.length) (V S : Nat) (hV : (l[k]).1 = (V : Int)) (hS : (l[k]).2 = (S : Int)) :
    Bg.num (fun q => bitAt (textOf hi l) hi (Bp.tot l k + q)) S hi = V := by
  have ho := (h k hk hk).1
  have h4 : (l[k]).1.toNat < 2 ^ (l[k]).2.toNat := ho.2.2.2
  rw [hV, hS, Int.toNat_natCast, Int.toNat_natCast] at h4
  refine num_bits hi V S h4 _ (fun q hq => ?_)
  have ht := Bp.tot_succ l k hk
  rw [hS, Int.toNat_natCast] at ht
  have hm := tot_mono l l.length (Nat.le_refl _) (k + 1) (by omega)
  rw [bitAt_text h _ (by omega)]
  have := Bp.fOf_at hi l k q hk (by rw [hS, Int.toNat_natCast]; exact hq)
  rw [hV, hS, Int.toNat_natCast, Int.toNat_natCast] at this
  exact this
end Go.Proofs.Ytjfihmpnbblomaa

/- What was packed by LZW comes out, whatever stands behind. -/
namespace Go.Proofs.Ytjfihmpnbblomaa

theorem byteAt_left (T e : ByteArray) (j : Nat) (h : j < T.size) : byteAt (T ++ e) j = byteAt T j := by
  unfold byteAt
  rw [ByteArray.data_append, Array.toList_append, List.getD_eq_getElem?_getD, List.getD_eq_getElem?_getD, List.getElem?_append_left (show j < T.data.toList.length from h)]
theorem Lr.reads {wide : Bool} {A : List (Int × Int)} (hf : Bp.Fits A A.length) (e : ByteArray) : Lr.Reads (textOf wide A ++ e) wide A := by
  intro k hk V S hA
  have hsz := textOf_size (hi := wide) hf
  have ht := Bp.tot_succ A k hk
  have hV : (A[k]).1 = (V : Int) := by rw [hA]
  have hS : (A[k]).2 = (S : Int) := by rw [hA]
  rw [hS, Int.toNat_natCast] at ht
  have hm := tot_mono A A.length (Nat.le_refl _) (k + 1) (by omega)
  have hX : (textOf wide A).size ≤ (textOf wide A ++ e).size := by rw [ByteArray.size_append]; omega
  refine ⟨ht, by omega, ?_⟩
  have ho := (hf k hk hk).1
  have h4 : (A[k]).1.toNat < 2 ^ (A[k]).2.toNat := ho.2.2.2
  rw [hV, hS, Int.toNat_natCast, Int.toNat_natCast] at h4
  unfold Lz.num
  refine num_bits wide V S h4 _ (fun q hq => ?_)
  have hb : bitAt (textOf wide A ++ e) wide (Bp.tot A k + q) = bitAt (textOf wide A) wide (Bp.tot A k + q) := by
    unfold bitAt
    rw [byteAt_left _ _ _ (by omega)]
  rw [hb, bitAt_text hf _ (by omega)]
  have := Bp.fOf_at wide A k q hk (by rw [hS, Int.toNat_natCast]; exact hq)
  rw [hV, hS, Int.toNat_natCast, Int.toNat_natCast] at this
  exact this

theorem Lp.code_pos {b : Nat} (hb : b ≤ 8) (wide : Bool) (v : Int) (n : Nat) : 1 ≤ (Lp.code b wide v n).2.toNat := by
  have := (Lz.width_bd hb wide (Lp.known b n)).1
  unfold Lp.code
  simp only [Int.toNat_natCast]
  omega
theorem Lp.at_pos {b : Nat} (hb : b ≤ 8) (wide : Bool) (s : ByteArray) : ∀ k, ∀ q ∈ (Lp.at b wide s k).out, 1 ≤ q.2.toNat
  | 0, q, h => by
    have e : q = (((2 ^ b : Nat) : Int), ((b + 1 : Nat) : Int)) := by simpa [Lp.at, Lp.init] using h
    subst e
    simp only [Int.toNat_natCast]
    omega
  | k + 1, q, h => by
    have ih := Lp.at_pos hb wide s k
    have h' : q ∈ (Lp.one b wide (Lp.at b wide s k) (s.extract k (k + 1))).out := h
    unfold Lp.one at h'
    split at h'
    · exact ih q h'
    · split at h'
      · simp only [List.mem_append, List.mem_singleton] at h'
        rcases h' with (h' | rfl) | rfl
        · exact ih q h'
        · exact Lp.code_pos hb wide _ _
        · exact Lp.code_pos hb wide _ _
      · simp only [List.mem_append, List.mem_singleton] at h'
        rcases h' with h' | rfl
        · exact ih q h'
        · exact Lp.code_pos hb wide _ _
theorem Lp.all_pos {b : Nat} (hb : b ≤ 8) (wide : Bool) (s : ByteArray) : ∀ q ∈ Lp.all b wide s, 1 ≤ q.2.toNat := by
  intro q h
  have ih := Lp.at_pos hb wide s s.size
  unfold Lp.all Lp.close at h
  split at h
  · simp only [List.mem_append, List.mem_singleton] at h
    rcases h with h | rfl
    · exact ih q h
    · exact Lp.code_pos hb wide _ _
  · simp only [List.mem_append, List.mem_singleton] at h
    rcases h with (h | rfl) | rfl
    · exact ih q h
    · exact Lp.code_pos hb wide _ _
    · exact Lp.code_pos hb wide _ _
theorem Lp.code_wide {b : Nat} (hb : b ≤ 8) (wide : Bool) (v : Int) (n : Nat) : (Lp.code b wide v n).2.toNat ≤ 12 := by
  have := (Lz.width_bd hb wide (Lp.known b n)).2
  unfold Lp.code
  simp only [Int.toNat_natCast]
  omega
theorem Lp.at_wide {b : Nat} (hb : b ≤ 8) (wide : Bool) (s : ByteArray) : ∀ k, ∀ q ∈ (Lp.at b wide s k).out, q.2.toNat ≤ 12
  | 0, q, h => by
    have e : q = (((2 ^ b : Nat) : Int), ((b + 1 : Nat) : Int)) := by simpa [Lp.at, Lp.init] using h
    subst e
    simp only [Int.toNat_natCast]
    omega
  | k + 1, q, h => by
    have ih := Lp.at_wide hb wide s k
    have h' : q ∈ (Lp.one b wide (Lp.at b wide s k) (s.extract k (k + 1))).out := h
    unfold Lp.one at h'
    split at h'
    · exact ih q h'
    · split at h'
      · simp only [List.mem_append, List.mem_singleton] at h'
        rcases h' with (h' | rfl) | rfl
        · exact ih q h'
        · exact Lp.code_wide hb wide _ _
        · exact Lp.code_wide hb wide _ _
      · simp only [List.mem_append, List.mem_singleton] at h'
        rcases h' with h' | rfl
        · exact ih q h'
        · exact Lp.code_wide hb wide _ _
theorem Lp.all_wide {b : Nat} (hb : b ≤ 8) (wide : Bool) (s : ByteArray) : ∀ q ∈ Lp.all b wide s, q.2.toNat ≤ 12 := by
  intro q h
  have ih := Lp.at_wide hb wide s s.size
  unfold Lp.all Lp.close at h
  split at h
  · simp only [List.mem_append, List.mem_singleton] at h
    rcases h with h | rfl
    · exact ih q h
    · exact Lp.code_wide hb wide _ _
  · simp only [List.mem_append, List.mem_singleton] at h
    rcases h with (h | rfl) | rfl
    · exact ih q h
    · exact Lp.code_wide hb wide _ _
    · exact Lp.code_wide hb wide _ _
theorem tot_ge {A : List (Int × Int)} (h : ∀ q ∈ A, 1 ≤ q.2.toNat) : ∀ i, i ≤ A.length → i ≤ Bp.tot A i
  | 0, _ => Nat.zero_le _
  | i + 1, hi => by
    rw [Bp.tot_succ A i (by omega)]
    have := tot_ge h i (by omega)
    have := h A[i] (List.getElem_mem _)
    omega

/-- THE WAY BACK -/
theorem Lr.back {s e : ByteArray} {b : Nat} {wide : Bool} (hb : b ≤ 8) (hb2 : 2 ≤ b) (hok : Lz.ok b wide = true) (hsm : Lp.small b s) (hz : s.size ≤ 5000) (hX : (textOf wide (Lp.all b wide s) ++ e).size ≤ 9000) :
    ∃ dn, Lz.res (textOf wide (Lp.all b wide s) ++ e) b wide 5000 = .ok dn ∧ textsOf dn = s.data.toList ∧ codesOf dn = (Lp.all b wide s).map Prod.fst := by
  have hf := Lp.all_ok hb hb2 wide hsm hz
  have R := Lr.reads (wide := wide) hf.1 e
  have hsz := textOf_size (hi := wide) hf.1
  have hlenA := tot_ge (Lp.all_pos hb wide s) _ (Nat.le_refl _)
  have hXs : (textOf wide (Lp.all b wide s)).size ≤ (textOf wide (Lp.all b wide s) ++ e).size := by rw [ByteArray.size_append]; omega
  have hpre := Lp.all_pre b wide s 0 (Nat.zero_le _)
  have hfine : LzFine (textOf wide (Lp.all b wide s) ++ e) b wide ((5000 : Nat) : Int) := ⟨hok, hX, by omega, by omega⟩
  have hres := Lz.res_yes hfine
  obtain ⟨A, hA⟩ : ∃ A, A = Lp.all b wide s := ⟨_, rfl⟩
  rw [← hA] at R hf hsz hlenA hXs hpre hX hres ⊢
  obtain ⟨X, hXe⟩ : ∃ X, X = textOf wide A ++ e := ⟨_, rfl⟩
  rw [← hXe] at R hXs hX hres ⊢
  have hp0 : ([] ++ (((2 ^ b : Nat) : Int), (Lz.width b wide (Lz.start b).length : Int)) :: []) <+: A := by
    rw [Lz.start_len, Lz.width_start hb hb2]
    exact hpre
  obtain ⟨hkA, hAk⟩ := pre_at hp0
  have hst := Lr.step_clear R hkA (left := 5000) (last := ⟨#[]⟩) hAk
  obtain ⟨t1, -, -⟩ := R _ hkA _ _ hAk
  have hd := drop_at hkA
  rw [hAk] at hd
  simp only [List.length_nil, Nat.zero_add, List.drop_zero] at hst t1 hd
  have ht0 : Bp.tot A 0 = 0 := by simp [Bp.tot]
  rw [ht0] at hst t1
  have hgo : ∀ f dn', Lz.go X b wide f (Bp.tot A 1) (Lz.start b) ⟨#[]⟩ 5000 = .ok dn' → Lz.go X b wide (f + 1) 0 (Lz.start b) ⟨#[]⟩ 5000 = .ok ((2 ^ b, ⟨#[]⟩) :: dn') := fun f dn' h => by
    rw [Lz.go_on hst (by omega), ← t1, h]; rfl
  have hr2 : Lz.res X b wide 5000 = Lz.go X b wide (8 * X.size + 1) 0 (Lz.start b) ⟨#[]⟩ 5000 := hres
  by_cases hs0 : 0 < s.size
  · obtain ⟨dn', d1, d2, d3⟩ := Lr.main hb hsm (by rw [← hA]; exact R) s.size 0 (Lz.start b) (Lp.init b).out (Lz.start b) ⟨#[]⟩ 5000 (8 * X.size) (by omega) hs0 (Lp.at_first hs0) (Lq.inv_start hb) (.inl ⟨rfl, rfl, rfl⟩) (by omega) (by rw [← hA]; omega)
    rw [← hA] at d1 d3
    refine ⟨_, by rw [hr2]; exact hgo _ _ d1, ?_, ?_⟩
    · rw [textsOf_cons, d2]
      show [] ++ (s.extract 0 s.size).data.toList = _
      rw [List.nil_append, ByteArray.data_extract]
      simp
      exact List.take_of_length_le (Nat.le_refl _)
    · rw [codesOf_cons, d3, hd]
      rfl
  · have e0 : s.size = 0 := by omega
    have hAe : A = (Lp.init b).out ++ [(((2 ^ b + 1 : Nat) : Int), (Lz.width b wide (Lz.start b).length : Int))] := by
      rw [hA]
      unfold Lp.all
      rw [e0]
      show Lp.close b wide (Lp.init b) = _
      unfold Lp.close
      rw [if_pos (show (Lp.init b).last.size = 0 from rfl)]
      unfold Lp.code
      rw [show (Lp.init b).l.length = 2 ^ b + 2 from Lz.start_len b, Lp.known_since (Nat.le_refl _), Lz.start_len, show 2 ^ b + 2 + (2 ^ b + 2 - (2 ^ b + 2) - 1) = 2 ^ b + 2 by omega]
      rfl
    obtain ⟨hk2, hA2⟩ := pre_at (A := A) (o := (Lp.init b).out) (c := (((2 ^ b + 1 : Nat) : Int), (Lz.width b wide (Lz.start b).length : Int))) (r := []) (by rw [hAe]; exact List.prefix_refl _)
    have hst2 := Lr.step_end R hk2 (left := 5000) (last := ⟨#[]⟩) hA2
    have hAl : A.length = 2 := by rw [hAe]; rfl
    obtain ⟨f', hf'⟩ : ∃ f', 8 * X.size = f' + 1 := ⟨8 * X.size - 1, by omega⟩
    refine ⟨[(2 ^ b, ⟨#[]⟩), (2 ^ b + 1, ⟨#[]⟩)], ?_, ?_, ?_⟩
    · rw [hr2, hf']
      exact hgo _ _ (Lz.go_end hst2 rfl)
    · have : s.data.toList = [] := List.eq_nil_of_length_eq_zero e0
      rw [this]; rfl
    · rw [hAe]; rfl
end Go.Proofs.Ytjfihmpnbblomaa

/- The law that what was packed by LZW comes out, walked. -/
namespace Go.Proofs.Ytjfihmpnbblomaa
open Go.RowKit

def behind : ByteArray := ⟨#[98, 101, 104, 105, 110, 100]⟩
/-- what the law asks, as mathematics -/
theorem Lr.law {s : ByteArray} {b : Nat} {wide : Bool} (h : Lp.ok s b wide = true) :
    (ByteArray.mk (Lp.ans s b wide).toArray).size ≠ 0 ∧ (ByteArray.mk (Lp.ans s b wide).toArray).size ≤ 8000 ∧ ∀ e : ByteArray, e.size ≤ 6 → Lz.out (Lz.res (ByteArray.mk (Lp.ans s b wide).toArray ++ e) b wide 5000) = s.data.toList ∧ Lz.code (Lz.res (ByteArray.mk (Lp.ans s b wide).toArray ++ e) b wide 5000) = 0 := by
  have hA : Lp.ans s b wide = (Bp.text wide (Lp.all b wide s)).map UInt8.ofNat := by unfold Lp.ans; rw [if_pos h, Int.toNat_natCast]
  unfold Lp.ok at h
  simp only [Bool.and_eq_true, decide_eq_true_eq, Int.toNat_natCast] at h
  obtain ⟨⟨h1, h2⟩, h3⟩ := h
  have hbd := Lz.ok_rng h1
  have hb : b ≤ 8 := by omega
  have hb2 : 2 ≤ b := by omega
  have hsm := Lp.small_of h3
  have hf := Lp.all_ok hb hb2 wide hsm h2
  have hT : ByteArray.mk (Lp.ans s b wide).toArray = textOf wide (Lp.all b wide s) := by
    unfold textOf
    rw [hA, Bp.answer_yes hf.1]
  have hsz := textOf_size (hi := wide) hf.1
  have hpos := tot_ge (Lp.all_pos hb wide s) _ (Nat.le_refl _)
  have hwd := tot_le (Lp.all_wide hb wide s) _ (Nat.le_refl _)
  have hlen : 1 ≤ (Lp.all b wide s).length := by
    unfold Lp.all Lp.close
    split <;> simp
  rw [hT]
  refine ⟨by omega, by omega, fun e he => ?_⟩
  obtain ⟨dn, d1, d2, -⟩ := Lr.back (e := e) hb hb2 h1 hsm h2 (by rw [ByteArray.size_append]; omega)
  rw [d1]
  exact ⟨d2, rfl⟩

set_option linter.unusedSimpArgs false in
set_option maxHeartbeats 4000000 in
set_option maxRecDepth 20000 in
theorem lawLzw (a : Option Addr) (len cap : Nat) (w : World) (h : Code8 w a len cap) :
    Calls Try.prog 4 #[.slice a len cap] w fun e w' => e = .returned (.bool true) ∧ Below w.heap.size w w' := by
  by_cases hbig : 1048576 < len
  · have d0 : decide ((len : Int) > 1048576) = true := by simp; omega
    clear h
    go_enter Try.func4, Try.ntmps4
    go_wp2_with fail
    go_ret
    exact ⟨rfl, Below.refl _ _⟩
  have HDR : Hid (Calls Try.prog 12 #[.slice a len cap] w (LzwDrawn w)) := drawLzwPut_any a len cap w h
  have d0 : decide ((len : Int) > 1048576) = false := by simp; omega
  clear h
  go_enter Try.func4, Try.ntmps4
  go_wp2_with fail
  refine HDR.out.mono ?_
  rintro e w1 ⟨⟨s, b, wide, rfl, hs, hb⟩, b1⟩
  have B1 : Hid (Below w.heap.size w w1) := b1
  clear b1 HDR
  obtain ⟨T, hT⟩ : ∃ T : ByteArray, T = ⟨(Lp.ans s b wide).toArray⟩ := ⟨_, rfl⟩
  have HSP : Hid (∀ w : World, Calls Try.prog 14 #[.string s, .int .i64 (b : Int), .bool wide] w fun e w' => e = .returned (.string T) ∧ Below w.heap.size w w') := fun w => by rw [hT]; exact spec_lzwPut s b wide w (by omega) (fun w => l6Ok_any b wide w)
  have HIM : Hid (∀ w : World, Calls Try.prog 13 #[.string s, .int .i64 (b : Int), .bool wide] w fun e w' => e = .returned (.string T) ∧ Below w.heap.size w w') := fun w => by rw [hT]; exact impl_lzwPut s b wide w (by omega)
  have hbe : (T.toList == T.toList) = true := by simp
  have hbs : (s.toList == s.toList) = true := by simp
  cases hk : Lp.ok s b wide with
  | false =>
    have hem : T.toList.isEmpty = true := by
      have hA : Lp.ans s b wide = [] := by unfold Lp.ans; rw [hk]; rfl
      rw [hT, hA]
      decide +kernel
    clear hT hk
    go_wp2_with fail
    refine (HIM.out _).mono ?_
    rintro e w2 ⟨rfl, b2⟩
    have B2 : Hid (Below w.heap.size w w2) := B1.out.trans (b2.mono B1.out.size)
    clear b2 B1
    go_wp2_with fail
    refine (HSP.out _).mono ?_
    rintro e w3 ⟨rfl, b3⟩
    have B3 : Hid (Below w.heap.size w w3) := B2.out.trans (b3.mono B2.out.size)
    clear b3 B2
    go_wp2_with fail
    refine (HSP.out _).mono ?_
    rintro e w4 ⟨rfl, b4⟩
    have B4 : Hid (Below w.heap.size w w4) := B3.out.trans (b4.mono B3.out.size)
    clear b4 B3
    go_wp2_with fail
    go_ret
    exact ⟨rfl, B4.out⟩
  | true =>
    obtain ⟨l1, l2, l3⟩ := Lr.law hk
    rw [← hT] at l1 l2 l3
    have hem : T.toList.isEmpty = false := by
      rw [← Bool.not_eq_true, List.isEmpty_iff]
      exact fun e => l1 (by have h := congrArg List.length e; rw [toList_len] at h; exact h)
    have hsb : ByteArray.mk (s.data.toList).toArray = s := by simp
    have HG1 : Hid (∀ w', Calls Try.prog 9 #[.string T, .int .i64 (b : Int), .bool wide, .int .i64 5000] w' fun e w'' => e = .returned (.tuple #[.string s, .int .i64 0]) ∧ Below w'.heap.size w' w'') := fun w' => by
      have hg := impl_lzwGet T b wide 5000 w' (by omega)
      have hn : T ++ ⟨#[]⟩ = T := by
        apply ByteArray.ext
        rw [ByteArray.data_append]
        simp
      have h2 := l3 ⟨#[]⟩ (by decide)
      rw [hn] at h2
      rw [h2.1, h2.2, hsb] at hg
      exact hg
    have HG2 : Hid (∀ w', Calls Try.prog 9 #[.string (T ++ ⟨#[98, 101, 104, 105, 110, 100]⟩), .int .i64 (b : Int), .bool wide, .int .i64 5000] w' fun e w'' => e = .returned (.tuple #[.string s, .int .i64 0]) ∧ Below w'.heap.size w' w'') := fun w' => by
      have hg := impl_lzwGet (T ++ behind) b wide 5000 w' (by rw [ByteArray.size_append]; have : behind.size = 6 := rfl; omega)
      have h2 := l3 behind (by decide)
      rw [h2.1, h2.2, hsb] at hg
      exact hg
    have hlz : ¬ 9223372036854775807 < T.size + 6 := by omega
    have hl8 : T.size ≤ 8000 := l2
    clear hT hk l1 l2 l3 hsb
    go_wp2_with fail
    refine (HIM.out _).mono ?_
    rintro e w2 ⟨rfl, b2⟩
    have B2 : Hid (Below w.heap.size w w2) := B1.out.trans (b2.mono B1.out.size)
    clear b2 B1
    go_wp2_with fail
    refine (HSP.out _).mono ?_
    rintro e w3 ⟨rfl, b3⟩
    have B3 : Hid (Below w.heap.size w w3) := B2.out.trans (b3.mono B2.out.size)
    clear b3 B2 HSP HIM
    go_wp2_with fail
    refine (HG1.out _).mono ?_
    rintro e w4 ⟨rfl, b4⟩
    have B4 : Hid (Below w.heap.size w w4) := B3.out.trans (b4.mono B3.out.size)
    clear b4 B3 HG1
    go_wp2_with fail
    refine (HG2.out _).mono ?_
    rintro e w5 ⟨rfl, b5⟩
    have B5 : Hid (Below w.heap.size w w5) := B4.out.trans (b5.mono B4.out.size)
    clear b5 B4 HG2
    go_wp2_with fail
    go_ret
    exact ⟨rfl, B5.out⟩
end Go.Proofs.Ytjfihmpnbblomaa

/- A text, bits, whether it is wide, and a limit, drawn of a code. -/
namespace Go.Proofs.Ytjfihmpnbblomaa
open Go.RowKit

/-- what is drawn -/
def LzwGot (w : World) (e : Ending) (w' : World) : Prop :=
  (∃ (t : ByteArray) (b : Nat) (wide : Bool) (lm : Int), e = .returned (.tuple #[.string t, .int .i64 (b : Int), .bool wide, .int .i64 lm]) ∧ t.size ≤ 9100 ∧ b ≤ 9) ∧ Below w.heap.size w w'
theorem lzwGot_mk {w w' : World} {e : Ending} (t : ByteArray) (b : Nat) (wide : Bool) (lm : Int) (h1 : e = .returned (.tuple #[.string t, .int .i64 (b : Int), .bool wide, .int .i64 lm])) (h2 : t.size ≤ 9100) (h3 : b ≤ 9) (h4 : Below w.heap.size w w') : LzwGot w e w' := ⟨⟨t, b, wide, lm, h1, h2, h3⟩, h4⟩

set_option linter.unusedSimpArgs false in
set_option maxHeartbeats 4000000 in
set_option maxRecDepth 20000 in
theorem drawLzwGet_any (a : Option Addr) (len cap : Nat) (w : World) (h : Code8 w a len cap) :
    Calls Try.prog 8 #[.slice a len cap] w (LzwGot w) := by
  have HOP : Hid (Calls Try.prog 23 #[.slice a len cap] w fun e w' => e = .returned (.pointer (some ⟨w.heap.size, 0, none⟩)) ∧ RdAt w' w.heap.size 0 ∧ Below w.heap.size w w') := open_any a len cap w h
  have HC : Hid (Code8 w a len cap) := h
  clear h
  go_enter Try.func8, Try.ntmps8
  go_wp2_with fail
  refine HOP.out.mono ?_
  rintro e w1 ⟨rfl, hR1, b1⟩
  clear HOP
  have HDR : Hid (Calls Try.prog 12 #[.slice a len cap] w1 (LzwDrawn w1)) := drawLzwPut_any a len cap w1 (HC.out.kept b1)
  obtain ⟨B, hB⟩ : ∃ B, B = w.heap.size := ⟨_, rfl⟩
  have H1 : Hid (LzwAt B w w1 0) := by show LzwAt _ _ _ _; rw [hB]; exact ⟨hR1, b1⟩
  rw [← hB]
  have HBB : Hid (B = w.heap.size) := hB
  clear hB hR1 b1 HC
  go_wp2_with fail
  refine HDR.out.mono ?_
  rintro e w2 ⟨⟨s, b, wide, rfl, hs, hb⟩, b2⟩
  have H2 : Hid (LzwAt B w w2 0) := ⟨H1.out.1.kept (b2.mono H1.out.1.lt), H1.out.2.trans (b2.mono (Nat.le_of_lt H1.out.1.lt))⟩
  clear b2 H1 HDR
  obtain ⟨T, hT⟩ : ∃ T : ByteArray, T = ⟨(Lp.ans s b wide).toArray⟩ := ⟨_, rfl⟩
  have hTb : T.size ≤ 9000 := by
    have h1 := Lp.ans_len s b wide
    rw [hT, mk_size]; exact h1
  have HS : Hid (Calls Try.prog 14 #[.string s, .int .i64 (b : Int), .bool wide] w2 fun e w' => e = .returned (.string T) ∧ Below w2.heap.size w2 w') := by rw [hT]; exact spec_lzwPut s b wide w2 (by omega) (fun w => l6Ok_any b wide w)
  clear hT
  go_wp2_with fail
  refine HS.out.mono ?_
  rintro e w3 ⟨rfl, b3⟩
  have H3 : Hid (LzwAt B w w3 0) := ⟨H2.out.1.kept (b3.mono H2.out.1.lt), H2.out.2.trans (b3.mono (Nat.le_of_lt H2.out.1.lt))⟩
  clear b3 H2 HS
  go_wp2_with fail
  refine (pick_named B 0 _ _ H3.out.1 (by omega) (by omega) (by omega)).mono ?_
  rintro e w4 ⟨x, rfl, hx, hR, hO, -⟩
  have H4 : Hid (LzwAt B w w4 1) := H3.out.only hO hR
  clear hR hO H3
  have hTi : (T.size : Int) ≤ 9000 := by omega
  have HEND : Hid (∀ (q : Nat) (u : ByteArray) (w5 : World), LzwAt B w w5 q → q ≤ 1000 → Calls Try.prog 28 #[.pointer (some ⟨B, 0, none⟩)] w5 fun e w' => (∃ lm : Int, e = .returned (.int .i64 lm)) ∧ Below w.heap.size w w') := fun q u w5 hl hq => by
    refine (l14Limit_any B q w5 hl.1 (by omega)).mono ?_
    rintro e w6 ⟨⟨lm, rfl⟩, -, hO6⟩
    exact ⟨⟨lm, rfl⟩, by rw [← HBB.out]; exact hl.2.trans hO6.below⟩
  by_cases hx0 : x = 0
  · subst hx0
    have HBN : Hid (Calls Try.prog 25 #[.pointer (some ⟨B, 0, none⟩), .string T] w4 fun e w' => (∃ t : ByteArray, e = .returned (.string t) ∧ t.size = T.size) ∧ (∃ q, q ≤ 1 + 2 ∧ RdAt w' B q) ∧ Only B w4 w') := l14Bend_any B 1 T w4 H4.out.1 (by omega) (by omega)
    go_wp2_with fail
    refine HBN.out.mono ?_
    rintro e w5 ⟨⟨u, rfl, hu⟩, ⟨q, hq, hR5⟩, hO5⟩
    have hub : u.size ≤ 9100 := by omega
    have H5 : Hid (LzwAt B w w5 q) := H4.out.only hO5 hR5
    clear hR5 hO5 H4 HBN hu
    go_wp2_with fail
    refine (HEND.out q u w5 H5.out (by omega)).mono ?_
    rintro e w6 ⟨⟨lm, rfl⟩, b6⟩
    have HB6 : Hid (Below w.heap.size w w6) := b6
    clear b6
    go_wp2_with fail
    exact bodyPost_ret (v := .tuple #[.string u, .int .i64 (b : Int), .bool wide, .int .i64 lm]) (by simp [results, Try.results8, go_sem]) rfl (lzwGot_mk _ _ _ _ rfl hub hb HB6.out)
  have g0 : ((x : Int) == 0) = false := by rw [beq_eq_false_iff_ne]; omega
  by_cases hx1 : x = 1
  · subst hx1
    obtain ⟨L, hL⟩ : ∃ L : Nat, L = T.size + 1 := ⟨_, rfl⟩
    have eL : (T.size : Int) + 1 = (L : Int) := by omega
    have HLL : Hid (L = T.size + 1) := hL
    have hL1 : 1 ≤ L ∧ L ≤ 9001 := by omega
    clear hL
    go_wp2_with fail
    refine (pick_named B 1 _ _ H4.out.1 (by omega) (by omega) (by omega)).mono ?_
    rintro e w5 ⟨k, rfl, hk, hR5, hO5, -⟩
    have H5 : Hid (LzwAt B w w5 (1 + 1)) := H4.out.only hO5 hR5
    have hkT : (k : Int) ≤ (T.size : Int) := by have := HLL.out; omega
    have hkn : k ≤ T.size := by omega
    obtain ⟨u, hu⟩ : ∃ u, u = T.extract 0 k := ⟨_, rfl⟩
    have hub : u.size ≤ 9100 := by rw [hu, ByteArray.size_extract]; omega
    have et : T.extract 0 k = u := hu.symm
    clear hR5 hO5 H4 HLL hk hu
    go_wp2_with fail
    refine (HEND.out (1 + 1) u w5 H5.out (by omega)).mono ?_
    rintro e w6 ⟨⟨lm, rfl⟩, b6⟩
    have HB6 : Hid (Below w.heap.size w w6) := b6
    clear b6
    go_wp2_with fail
    exact bodyPost_ret (v := .tuple #[.string u, .int .i64 (b : Int), .bool wide, .int .i64 lm]) (by simp [results, Try.results8, go_sem]) rfl (lzwGot_mk _ _ _ _ rfl hub hb HB6.out)
  have g1 : ((x : Int) == 1) = false := by rw [beq_eq_false_iff_ne]; omega
  by_cases hx2 : x = 2
  · subst hx2
    have hB4 := H4.out.1.lt
    have H5 : Hid (LzwAt B w (w4.alloc (.cells #[.string ⟨#[]⟩, .string ⟨#[120]⟩] 9)) 1) := H4.out.alloc _
    have HOF : Hid (Calls Try.prog 26 #[.pointer (some ⟨B, 0, none⟩), .slice (some ⟨w4.heap.size, 0, none⟩) 2 2] (w4.alloc (.cells #[.string ⟨#[]⟩, .string ⟨#[120]⟩] 9)) fun e w' => (∃ t : ByteArray, e = .returned (.string t) ∧ t.size ≤ 10) ∧ RdAt w' B (1 + 1) ∧ Only B (w4.alloc (.cells #[.string ⟨#[]⟩, .string ⟨#[120]⟩] 9)) w') := by
      refine of_list B 1 w4.heap.size 2 [⟨#[]⟩, ⟨#[120]⟩] _ H5.out.1 (by omega) hB4 rfl (by omega) (by omega) (fun i hi => ?_) (fun t ht => ?_)
      · rw [World.cell?_alloc_at _ _ _ _ rfl]
        have h2 : i = 0 ∨ i = 1 := by simp at hi; omega
        rcases h2 with rfl | rfl <;> rfl
      · simp at ht
        rcases ht with rfl | rfl <;> decide
    clear H4
    go_wp2_with fail
    refine HOF.out.mono ?_
    rintro e w5 ⟨⟨v, rfl, hv⟩, hR5, hO5⟩
    have H6 : Hid (LzwAt B w w5 (1 + 1)) := H5.out.only hO5 hR5
    clear hR5 hO5 H5 HOF
    obtain ⟨u, hu⟩ : ∃ u, T ++ v = u := ⟨_, rfl⟩
    have hub : u.size ≤ 9100 := by rw [← hu, ByteArray.size_append]; omega
    have hlz : ¬ 9223372036854775807 < T.size + v.size := by omega
    go_wp2_with fail
    refine (HEND.out (1 + 1) u w5 H6.out (by omega)).mono ?_
    rintro e w6 ⟨⟨lm, rfl⟩, b6⟩
    have HB6 : Hid (Below w.heap.size w w6) := b6
    clear b6
    go_wp2_with fail
    exact bodyPost_ret (v := .tuple #[.string u, .int .i64 (b : Int), .bool wide, .int .i64 lm]) (by simp [results, Try.results8, go_sem, hu]) rfl (lzwGot_mk _ _ _ _ rfl hub hb HB6.out)
  have g2 : ((x : Int) == 2) = false := by rw [beq_eq_false_iff_ne]; omega
  by_cases hx3 : x = 3
  · subst hx3
    have HTX : Hid (Calls Try.prog 27 #[.pointer (some ⟨B, 0, none⟩)] w4 fun e w' => (∃ t : ByteArray, e = .returned (.string t) ∧ t.size ≤ 9001 ∧ (t.size ≤ 2400 ∨ 9000 ≤ t.size)) ∧ (∃ q, q ≤ 1 + 100 ∧ RdAt w' B q) ∧ Only B w4 w') := text_two B 1 w4 H4.out.1 (by omega)
    go_wp2_with fail
    refine HTX.out.mono ?_
    rintro e w5 ⟨⟨u, rfl, hu, -⟩, ⟨q, hq, hR5⟩, hO5⟩
    have hub : u.size ≤ 9100 := by omega
    have H5 : Hid (LzwAt B w w5 q) := H4.out.only hO5 hR5
    clear hR5 hO5 H4 HTX
    go_wp2_with fail
    refine (HEND.out q u w5 H5.out (by omega)).mono ?_
    rintro e w6 ⟨⟨lm, rfl⟩, b6⟩
    have HB6 : Hid (Below w.heap.size w w6) := b6
    clear b6
    go_wp2_with fail
    exact bodyPost_ret (v := .tuple #[.string u, .int .i64 (b : Int), .bool wide, .int .i64 lm]) (by simp [results, Try.results8, go_sem]) rfl (lzwGot_mk _ _ _ _ rfl hub hb HB6.out)
  · have g3 : ((x : Int) == 3) = false := by rw [beq_eq_false_iff_ne]; omega
    go_wp2_with fail
    refine (HEND.out 1 T w4 H4.out (by omega)).mono ?_
    rintro e w6 ⟨⟨lm, rfl⟩, b6⟩
    have HB6 : Hid (Below w.heap.size w w6) := b6
    clear b6
    go_wp2_with fail
    exact bodyPost_ret (v := .tuple #[.string T, .int .i64 (b : Int), .bool wide, .int .i64 lm]) (by simp [results, Try.results8, go_sem]) rfl (lzwGot_mk _ _ _ _ rfl (by omega) hb HB6.out)
end Go.Proofs.Ytjfihmpnbblomaa

/- Small helpers of the laws: a power of two, a number between two. -/
namespace Go.Proofs.Ytjfihmpnbblomaa
open Go.RowKit

set_option maxHeartbeats 1000000 in
theorem wiPow_any (n : Nat) (w : World) (hn : n ≤ 20) :
    Calls Try.prog 11 #[.int .i64 (n : Int)] w fun e w' => e = .returned (.int .i64 ((2 ^ n : Nat) : Int)) ∧ w' = w := by
  go_enter Try.func11, Try.ntmps11
  go_wp2_with fail
  go_loop [3, 4] (fun x i => ∃ k y : Nat, k ≤ n ∧ i = .int .i64 (k : Int) ∧ Hid (y = 2 ^ k) ∧ y ≤ 1048576 ∧ x = .int .i64 (y : Int)) (fun _ i => n - (intOf i).toNat)
  case atStart => exact ⟨0, 1, Nat.zero_le _, rfl, rfl, by omega, rfl⟩
  case round =>
    obtain ⟨k, y, hk, rfl, HY, hy, rfl⟩ := hrel
    by_cases hlt : k < n
    · have hki : (k : Int) < (n : Int) := by omega
      have hk60 : (k : Int) < 60 := by omega
      have hk60d : decide ((k : Int) < 60) = true := by simp; omega
      have HY2 : Hid (y * 2 = 2 ^ (k + 1)) := by show _ = _; rw [Nat.pow_succ, HY.out]
      have hb : y * 2 ≤ 1048576 := by
        rw [HY2.out]
        exact Nat.le_trans (Nat.pow_le_pow_right (by omega) (show k + 1 ≤ 20 by omega)) (by decide)
      go_wp2_with fail
      go_round
      case rel => exact ⟨k + 1, y * 2, by omega, by go_num, HY2, hb, by go_num⟩
      case measure => simp [intOf]; omega
    · have hki : ¬ (k : Int) < (n : Int) := by omega
      obtain rfl : k = n := by omega
      have hkd : decide ((k : Int) < (k : Int)) = false := by simp
      go_wp2_with fail
      go_ret
      exact ⟨by rw [HY.out]; rfl, rfl⟩
set_option maxHeartbeats 400000 in
theorem wiIn_yes (n lo hi : Int) (w : World) (h1 : lo ≤ n) (h2 : n ≤ hi) :
    Calls Try.prog 19 #[.int .i64 n, .int .i64 lo, .int .i64 hi] w fun e w' => e = .returned (.bool true) ∧ w' = w := by
  have hd : decide (n ≤ hi) = true := by simp; omega
  have hd2 : decide (n ≥ lo) = true := by simp; omega
  go_enter Try.func19, Try.ntmps19
  go_wp2_with fail
  go_ret
  exact ⟨rfl, rfl⟩
end Go.Proofs.Ytjfihmpnbblomaa

/- Two lists of ints held against each other by the laws. -/
namespace Go.Proofs.Ytjfihmpnbblomaa
open Go.RowKit

set_option maxHeartbeats 400000 in
theorem wiInts_same (a : Option Addr) (cap : Nat) (b : Option Addr) (cap' n : Nat) (zs : List Int) (w : World) (h : Ints w a zs) (g : Ints w b zs) (hn : zs.length = n) (hl : n ≤ 2000000) :
    Calls Try.prog 16 #[.slice a n cap, .slice b n cap'] w fun e w' => e = .returned (.bool true) ∧ ∃ m, w' = w.drewN m := by
  have HI : Hid (Ints w a zs) := h
  have HG : Hid (Ints w b zs) := g
  clear h g
  have hzg : n ≤ zs.length := by omega
  clear hn
  go_enter Try.func16, Try.ntmps16
  go_wp2_with fail
  go_loopw [5] (fun i wr => ∃ k m : Nat, k ≤ n ∧ i = .int .i64 k ∧ wr = w.drewN m) (fun i _ => n - (intOf i).toNat)
  case atStart => exact ⟨0, 0, Nat.zero_le _, rfl, rfl⟩
  case round =>
    obtain ⟨k, m, hk, rfl, rfl⟩ := hrel
    by_cases hlt : k < n
    · have hkz : k < zs.length := by omega
      rcases HI.out with h | ⟨b1, off1, rfl, hb1, hc1⟩
      · rw [h] at hkz; simp at hkz
      · rcases HG.out with h | ⟨b2, off2, rfl, hb2, hc2⟩
        · rw [h] at hkz; simp at hkz
        · have e1 := hc1 k hkz
          have e2 := hc2 k hkz
          have hki : (k : Int) < (n : Int) := by omega
          clear hc1 hc2
          generalize zs[k] = x at *
          go_wp2_with fail
          go_region
          all_goals go_wp2_with fail
          all_goals
            go_roundw
            case rel => exact ⟨k + 1, m + 1, by omega, by go_num, rfl⟩
            case measure => simp [intOf]; omega
    · go_wp2_with fail
      go_ret
      exact ⟨rfl, m, rfl⟩
end Go.Proofs.Ytjfihmpnbblomaa

/- The law on the numbers of a text packed by LZW, walked. -/
namespace Go.Proofs.Ytjfihmpnbblomaa
open Go.RowKit

set_option maxHeartbeats 400000 in
theorem drawLzwCodes_any (a : Option Addr) (len cap : Nat) (w : World) (h : Code8 w a len cap) :
    Calls Try.prog 15 #[.slice a len cap] w fun e w' => (∃ (t : ByteArray) (b : Nat) (wide : Bool), e = .returned (.tuple #[.string t, .int .i64 (b : Int), .bool wide]) ∧ t.size ≤ 9100 ∧ b ≤ 9) ∧ Below w.heap.size w w' := by
  have HD : Hid (Calls Try.prog 8 #[.slice a len cap] w (LzwGot w)) := drawLzwGet_any a len cap w h
  clear h
  go_enter Try.func15, Try.ntmps15
  go_wp2_with fail
  refine HD.out.mono ?_
  rintro e w1 ⟨⟨t, b, wide, lm, rfl, ht, hb⟩, b1⟩
  have HB : Hid (Below w.heap.size w w1) := b1
  clear b1 HD
  go_wp2_with fail
  exact bodyPost_ret (v := .tuple #[.string t, .int .i64 (b : Int), .bool wide]) (by simp [results, Try.results15, go_sem]) rfl ⟨⟨t, b, wide, rfl, ht, hb⟩, HB.out⟩

/-- what the law asks of the numbers -/
theorem Lr.codes {s : ByteArray} {b : Nat} {wide : Bool} (h : Lp.ok s b wide = true) : ∃ L : List Int, Lz.codes (Lz.res (ByteArray.mk (Lp.ans s b wide).toArray) b wide 5000) = L ∧ 2 ≤ L.length ∧ L.length ≤ s.size + 2 + s.size / 500 ∧ (∀ i (hi : i < L.length), 0 ≤ L[i] ∧ L[i] ≤ 4095) ∧ L[0]? = some ((2 ^ b : Nat) : Int) ∧ L[L.length - 1]? = some ((2 ^ b + 1 : Nat) : Int) ∧ s.size ≤ 5000 ∧ b ≤ 8 := by
  have hA : Lp.ans s b wide = (Bp.text wide (Lp.all b wide s)).map UInt8.ofNat := by unfold Lp.ans; rw [if_pos h, Int.toNat_natCast]
  unfold Lp.ok at h
  simp only [Bool.and_eq_true, decide_eq_true_eq, Int.toNat_natCast] at h
  obtain ⟨⟨h1, h2⟩, h3⟩ := h
  have hbd := Lz.ok_rng h1
  have hb : b ≤ 8 := by omega
  have hb2 : 2 ≤ b := by omega
  have hsm := Lp.small_of h3
  have hf := Lp.all_ok hb hb2 wide hsm h2
  have hT : ByteArray.mk (Lp.ans s b wide).toArray = textOf wide (Lp.all b wide s) := by
    unfold textOf
    rw [hA, Bp.answer_yes hf.1]
  have hsz := textOf_size (hi := wide) hf.1
  have hwd := tot_le (Lp.all_wide hb wide s) _ (Nat.le_refl _)
  have hn : textOf wide (Lp.all b wide s) ++ ⟨#[]⟩ = textOf wide (Lp.all b wide s) := by
    apply ByteArray.ext
    rw [ByteArray.data_append]
    simp
  obtain ⟨dn, d1, -, d3⟩ := Lr.back (e := ⟨#[]⟩) hb hb2 h1 hsm h2 (by rw [hn]; omega)
  rw [hn] at d1
  have hpre := Lp.all_pre b wide s 0 (Nat.zero_le _)
  obtain ⟨hk0, hA0⟩ := pre_at (A := Lp.all b wide s) (o := []) (c := (((2 ^ b : Nat) : Int), ((b + 1 : Nat) : Int))) (r := []) hpre
  have hgood := Lp.good_at hb wide hsm s.size (Nat.le_refl _)
  obtain ⟨a, c, c1, c2, c3⟩ := hgood.cnt
  have hlo := hgood.lo
  have hpw := Lz.pow_le hb
  have hfb := Lp.full_bd wide
  have h38 : c * 3836 ≤ c * (Lp.full wide - (2 ^ b + 2)) := Nat.mul_le_mul_left _ (by omega)
  have hlast : ∃ o x, Lp.all b wide s = o ++ [((((2 ^ b : Nat) : Int) + 1), x)] ∧ 1 ≤ o.length ∧ o.length + 1 ≤ s.size + 2 + c := by
    unfold Lp.all Lp.close
    split
    · rename_i hl0
      rw [if_pos hl0] at c2
      have hs0 : s.size = 0 := by
        rcases Nat.eq_zero_or_pos s.size with h | h
        · exact h
        · exact absurd hl0 (hgood.pos h)
      exact ⟨_, _, rfl, by omega, by omega⟩
    · rename_i hl0
      rw [if_neg hl0] at c2
      refine ⟨_, _, rfl, by simp, by rw [List.length_append]; simp; omega⟩
  obtain ⟨o, x, e1, e2, e3⟩ := hlast
  have hlen : (Lp.all b wide s).length = o.length + 1 := by rw [e1]; simp
  refine ⟨(Lp.all b wide s).map Prod.fst, by rw [hT, d1]; exact d3, by rw [List.length_map]; omega, ?_, fun i hi => ?_, ?_, ?_, h2, hb⟩
  · rw [List.length_map, hlen]
    have h5 : a ≤ s.size := by split at c2 <;> omega
    have h8 : c * 500 ≤ c * 3836 := Nat.mul_le_mul_left c (by decide)
    have h9 : c * (Lp.full wide - (2 ^ b + 2)) ≤ a := by omega
    have h10 : c ≤ s.size / 500 := (Nat.le_div_iff_mul_le (by decide)).2 (Nat.le_trans h8 (Nat.le_trans h38 (Nat.le_trans h9 h5)))
    clear h8 h9 h38 c3 hfb
    omega
  · rw [List.getElem_map]
    rw [List.length_map] at hi
    have ho := (hf.1 i hi hi).1
    have hw := Lp.all_wide hb wide s _ (List.getElem_mem hi)
    unfold Bp.Ok at ho
    have h6 : 2 ^ ((Lp.all b wide s)[i]).2.toNat ≤ 2 ^ 12 := Nat.pow_le_pow_right (by omega) hw
    have h7 : (2 : Nat) ^ 12 = 4096 := by decide
    omega
  · have hk0' : 0 < (Lp.all b wide s).length := hk0
    rw [List.getElem?_map, List.getElem?_eq_getElem hk0']
    have e9 : (Lp.all b wide s)[0] = (((2 ^ b : Nat) : Int), ((b + 1 : Nat) : Int)) := hA0
    rw [e9]
    rfl
  · rw [List.length_map, hlen, e1]
    simp

set_option linter.unusedSimpArgs false in
set_option maxHeartbeats 4000000 in
set_option maxRecDepth 20000 in
theorem lawLzwCodes (a : Option Addr) (len cap : Nat) (a2 : Option Addr) (len2 cap2 : Nat) (w : World) (h : Code8 w a len cap) (h' : Code8 w a2 len2 cap2) :
    Calls Try.prog 5 #[.slice a len cap, .slice a2 len2 cap2] w fun e w' => e = .returned (.bool true) ∧ Below w.heap.size w w' := by
  by_cases hbig : 1048576 < len
  · have d0 : decide ((len : Int) > 1048576) = true := by simp; omega
    clear h h'
    go_enter Try.func5, Try.ntmps5
    go_wp2_with fail
    go_ret
    exact ⟨rfl, Below.refl _ _⟩
  have d0 : decide ((len : Int) > 1048576) = false := by simp; omega
  by_cases hbig2 : 1048576 < len2
  · have d1 : decide ((len2 : Int) > 1048576) = true := by simp; omega
    clear h h'
    go_enter Try.func5, Try.ntmps5
    go_wp2_with fail
    go_ret
    exact ⟨rfl, Below.refl _ _⟩
  have d1 : decide ((len2 : Int) > 1048576) = false := by simp; omega
  have HDC : Hid (Calls Try.prog 15 #[.slice a2 len2 cap2] w fun e w' => (∃ (t : ByteArray) (b : Nat) (wide : Bool), e = .returned (.tuple #[.string t, .int .i64 (b : Int), .bool wide]) ∧ t.size ≤ 9100 ∧ b ≤ 9) ∧ Below w.heap.size w w') := drawLzwCodes_any a2 len2 cap2 w h'
  have HC : Hid (Code8 w a len cap) := h
  clear h h'
  go_enter Try.func5, Try.ntmps5
  go_wp2_with fail
  refine HDC.out.mono ?_
  rintro e w1 ⟨⟨t, b0, wd0, rfl, ht, hb0⟩, b1⟩
  have B1 : Hid (Below w.heap.size w w1) := b1
  clear b1 HDC
  have HI1 : Hid (∀ w', Calls Try.prog 17 #[.string t, .int .i64 (b0 : Int), .bool wd0] w' fun e w'' => (∃ ao cap, e = .returned (.slice ao (Lz.codes (Lz.res t b0 wd0 5000)).length cap) ∧ Ints w'' ao (Lz.codes (Lz.res t b0 wd0 5000))) ∧ Below w'.heap.size w' w'') := fun w' => by
    refine (impl_lzwCodes t b0 wd0 w' (by omega)).mono ?_
    rintro e w'' ⟨⟨ao, cap, h1, h2⟩, h3⟩
    exact ⟨⟨ao, cap, h1, h2.ints⟩, h3⟩
  have HS1 : Hid (∀ w', Calls Try.prog 18 #[.string t, .int .i64 (b0 : Int), .bool wd0] w' fun e w'' => (∃ ao cap, e = .returned (.slice ao (Lz.codes (Lz.res t b0 wd0 5000)).length cap) ∧ Ints w'' ao (Lz.codes (Lz.res t b0 wd0 5000))) ∧ Below w'.heap.size w' w'') := fun w' => spec_lzwCodes t b0 wd0 w' (by omega)
  have hl0 := Lz.codes_len t b0 5000 wd0
  generalize Lz.codes (Lz.res t b0 wd0 5000) = L0 at *
  obtain ⟨n0, hn0⟩ : ∃ n0, n0 = L0.length := ⟨_, rfl⟩
  rw [← hn0] at HI1 HS1 hl0
  have HN0 : Hid (L0.length = n0) := hn0.symm
  clear hn0
  go_wp2_with fail
  refine (HI1.out _).mono ?_
  rintro e w2 ⟨⟨a1, c1, rfl, hi1⟩, b2⟩
  have B2 : Hid (Below w.heap.size w w2) := B1.out.trans (b2.mono B1.out.size)
  have I2 : Hid (Ints w2 a1 L0) := hi1
  clear b2 B1 hi1 HI1
  go_wp2_with fail
  refine (HS1.out _).mono ?_
  rintro e w3 ⟨⟨a3, c3, rfl, hi3⟩, b3⟩
  have B3 : Hid (Below w.heap.size w w3) := B2.out.trans (b3.mono B2.out.size)
  have I3 : Hid (Ints w3 a1 L0 ∧ Ints w3 a3 L0) := ⟨I2.out.kept b3, hi3⟩
  clear b3 B2 hi3 I2 HS1
  go_wp2_with fail
  refine (wiInts_same a1 c1 a3 c3 n0 L0 w3 I3.out.1 I3.out.2 HN0.out (by omega)).mono ?_
  rintro e w4 ⟨rfl, m, hw4⟩
  have B4 : Hid (Below w.heap.size w w4) := by show Below _ _ _; rw [hw4]; exact below_drewN B3.out m
  clear hw4 I3 B3
  have HDP : Hid (Calls Try.prog 12 #[.slice a len cap] w4 (LzwDrawn w4)) := drawLzwPut_any a len cap w4 (HC.out.kept B4.out)
  go_wp2_with fail
  refine HDP.out.mono ?_
  rintro e w5 ⟨⟨s, b, wide, rfl, hs, hb⟩, b5⟩
  have B5 : Hid (Below w.heap.size w w5) := B4.out.trans (b5.mono B4.out.size)
  clear b5 B4 HDP HC
  obtain ⟨T, hT⟩ : ∃ T : ByteArray, T = ⟨(Lp.ans s b wide).toArray⟩ := ⟨_, rfl⟩
  have hTs : T.size ≤ 9000 := by
    have h1 := Lp.ans_len s b wide
    rw [hT, mk_size]; exact h1
  have HSP : Hid (∀ w : World, Calls Try.prog 14 #[.string s, .int .i64 (b : Int), .bool wide] w fun e w' => e = .returned (.string T) ∧ Below w.heap.size w w') := fun w => by rw [hT]; exact spec_lzwPut s b wide w (by omega) (fun w => l6Ok_any b wide w)
  have HIM : Hid (∀ w : World, Calls Try.prog 13 #[.string s, .int .i64 (b : Int), .bool wide] w fun e w' => e = .returned (.string T) ∧ Below w.heap.size w w') := fun w => by rw [hT]; exact impl_lzwPut s b wide w (by omega)
  have HI2 : Hid (∀ w', Calls Try.prog 17 #[.string T, .int .i64 (b : Int), .bool wide] w' fun e w'' => (∃ ao cap, e = .returned (.slice ao (Lz.codes (Lz.res T b wide 5000)).length cap) ∧ Ints w'' ao (Lz.codes (Lz.res T b wide 5000))) ∧ Below w'.heap.size w' w'') := fun w' => by
    refine (impl_lzwCodes T b wide w' (by omega)).mono ?_
    rintro e w'' ⟨⟨ao, cap, h1, h2⟩, h3⟩
    exact ⟨⟨ao, cap, h1, h2.ints⟩, h3⟩
  have hbe : (T.toList == T.toList) = true := by simp
  cases hk : Lp.ok s b wide with
  | false =>
    have hem : T.toList.isEmpty = true := by
      have hA : Lp.ans s b wide = [] := by unfold Lp.ans; rw [hk]; rfl
      rw [hT, hA]
      decide +kernel
    generalize Lz.codes (Lz.res T b wide 5000) = L at *
    generalize L.length = n at *
    clear hT hk
    go_wp2_with fail
    refine (HIM.out _).mono ?_
    rintro e w6 ⟨rfl, b6⟩
    have B6 : Hid (Below w.heap.size w w6) := B5.out.trans (b6.mono B5.out.size)
    clear b6 B5
    go_wp2_with fail
    refine (HI2.out _).mono ?_
    rintro e w7 ⟨⟨a7, c7, rfl, -⟩, b7⟩
    have B7 : Hid (Below w.heap.size w w7) := B6.out.trans (b7.mono B6.out.size)
    clear b7 B6
    go_wp2_with fail
    refine (HSP.out _).mono ?_
    rintro e w8 ⟨rfl, b8⟩
    have B8 : Hid (Below w.heap.size w w8) := B7.out.trans (b8.mono B7.out.size)
    clear b8 B7
    go_wp2_with fail
    go_ret
    exact ⟨rfl, B8.out⟩
  | true =>
    have l1 := (Lr.law hk).1
    obtain ⟨L, eL, k1, k2, k3, k4, k5, k6, k7⟩ := Lr.codes hk
    rw [← hT] at eL l1
    rw [eL] at HI2
    have hem : T.toList.isEmpty = false := by
      rw [← Bool.not_eq_true, List.isEmpty_iff]
      exact fun e => l1 (by have h := congrArg List.length e; rw [toList_len] at h; exact h)
    have HWP : Hid (∀ w', Calls Try.prog 11 #[.int .i64 (b : Int)] w' fun e w'' => e = .returned (.int .i64 ((2 ^ b : Nat) : Int)) ∧ w'' = w') := fun w' => wiPow_any b w' (by omega)
    have hpw := Lz.pow_le k7
    have HEL : Hid (∀ i (hi : i < L.length), 0 ≤ L[i] ∧ L[i] ≤ 4095) := k3
    obtain ⟨n, hn⟩ : ∃ n, n = L.length := ⟨_, rfl⟩
    have HK : Hid (L[0]? = some ((2 ^ b : Nat) : Int) ∧ L[n - 1]? = some ((2 ^ b + 1 : Nat) : Int) ∧ L.length = n) := ⟨k4, by rw [hn]; exact k5, hn.symm⟩
    rw [← hn] at HI2 k1 k2
    clear hT hk eL l1 k3 k4 k5 hn
    go_wp2_with fail
    refine (HIM.out _).mono ?_
    rintro e w6 ⟨rfl, b6⟩
    have B6 : Hid (Below w.heap.size w w6) := B5.out.trans (b6.mono B5.out.size)
    clear b6 B5
    go_wp2_with fail
    refine (HI2.out _).mono ?_
    rintro e w7 ⟨⟨a7, c7, rfl, hi7⟩, b7⟩
    have B7 : Hid (Below w.heap.size w w7) := B6.out.trans (b7.mono B6.out.size)
    obtain ⟨g7, o7, rfl, hl7, hc7⟩ : ∃ g o, a7 = some ⟨g, o, none⟩ ∧ g < w7.heap.size ∧ ∀ i (h : i < L.length), w7.cell? ⟨g, o + i, none⟩ = some (.int .i64 L[i]) := by
      rcases hi7 with h0 | h0
      · have := HK.out.2.2; rw [h0] at this; simp at this; omega
      · exact h0
    have HCL : Hid (∀ i (h : i < L.length), w7.cell? ⟨g7, o7 + i, none⟩ = some (.int .i64 L[i])) := hc7
    clear b7 B6 hi7 hc7 HIM HSP HI2
    go_wp2_with fail
    go_loop [13] (fun i => ∃ k : Nat, k ≤ n ∧ i = .int .i64 (k : Int)) (fun i => n - (intOf i).toNat)
    case atStart => exact ⟨0, Nat.zero_le _, rfl⟩
    case round =>
      obtain ⟨k, hkn, rfl⟩ := hrel
      by_cases hlt : k < n
      · have hkl : k < L.length := by rw [HK.out.2.2]; exact hlt
        have hck := HCL.out k hkl
        have hel := HEL.out k hkl
        have hki : (k : Int) < (n : Int) := by omega
        generalize L[k] = x at *
        have HWI : Hid (∀ w', Calls Try.prog 19 #[.int .i64 x, .int .i64 0, .int .i64 4095] w' fun e w'' => e = .returned (.bool true) ∧ w'' = w') := fun w' => wiIn_yes x 0 4095 w' hel.1 hel.2
        go_wp2_with fail
        refine (HWI.out _).mono ?_
        rintro e w8 ⟨rfl, hw8⟩
        replace hw8 := hw8.symm
        subst hw8
        go_wp2_with fail
        go_roundw
        case rel => exact ⟨k + 1, by omega, by go_num⟩
        case measure => simp [intOf]; omega
      · have h0l : 0 < L.length := by rw [HK.out.2.2]; omega
        have hnl : n - 1 < L.length := by rw [HK.out.2.2]; omega
        have c0 := HCL.out 0 h0l
        have cn := HCL.out (n - 1) hnl
        have e0 : L[0] = ((2 ^ b : Nat) : Int) := by have := HK.out.1; rw [List.getElem?_eq_getElem h0l] at this; exact Option.some.inj this
        have en : L[n - 1] = ((2 ^ b + 1 : Nat) : Int) := by have := HK.out.2.1; rw [List.getElem?_eq_getElem hnl] at this; exact Option.some.inj this
        rw [e0, Nat.add_zero] at c0
        rw [en] at cn
        have hk0 : ¬ (k : Int) < (n : Int) := by omega
        obtain ⟨N1, hN1⟩ : ∃ N1 : Nat, N1 = n - 1 := ⟨_, rfl⟩
        rw [← hN1] at cn
        have eN : (n : Int) - 1 = (N1 : Int) := by omega
        have hN1b : (N1 : Int) < (n : Int) := by omega
        have wN : IntKind.i64.wrap (N1 : Int) = (N1 : Int) := wrap_i64_nat N1 (by omega)
        obtain ⟨Q, hQ⟩ : ∃ Q : Nat, Q = s.size / 500 := ⟨_, rfl⟩
        have eQ : (s.size : Int) / 500 = (Q : Int) := by omega
        have eQt : (s.size : Int).tdiv 500 = (Q : Int) := by rw [Int.tdiv_eq_ediv_of_nonneg (by omega)]; exact eQ
        have hQb : Q ≤ 18 := by omega
        have dA : decide ((n : Int) ≥ 2) = true := decide_eq_true (by omega)
        have dB : decide ((n : Int) ≤ (s.size : Int) + 2 + (Q : Int)) = true := decide_eq_true (by omega)
        obtain ⟨E, hE⟩ : ∃ E : Nat, E = 2 ^ b + 1 := ⟨_, rfl⟩
        rw [← hE] at cn
        obtain ⟨P, hP⟩ : ∃ P : Nat, P = 2 ^ b := ⟨_, rfl⟩
        rw [← hP] at c0 HWP
        have eE : (P : Int) + 1 = (E : Int) := by omega
        have hPb : P ≤ 256 := by omega
        have wE : IntKind.i64.wrap (E : Int) = (E : Int) := wrap_i64_nat E (by omega)
        have dP : ((P : Int) == (P : Int)) = true := by simp
        have dE : ((E : Int) == (E : Int)) = true := by simp
        have w2s : IntKind.i64.wrap ((s.size : Int) + 2) = (s.size : Int) + 2 := by
          have := wrap_i64_nat (s.size + 2) (by omega)
          simpa using this
        have w2q : IntKind.i64.wrap ((s.size : Int) + 2 + (Q : Int)) = (s.size : Int) + 2 + (Q : Int) := by
          have := wrap_i64_nat (s.size + 2 + Q) (by omega)
          simpa using this
        have hn1i : (0 : Int) < (n : Int) := by omega
        clear hQ hE hP hN1 h0l hnl e0 en HCL HEL HK hpw
        go_wp2_with fail
        go_quiet ((go_at_call 11; exact Calls.quiet_of_same (HWP.out _)))
        go_wp2_with fail
        go_ret
        exact ⟨rfl, below_drewN B7.out _⟩
end Go.Proofs.Ytjfihmpnbblomaa
