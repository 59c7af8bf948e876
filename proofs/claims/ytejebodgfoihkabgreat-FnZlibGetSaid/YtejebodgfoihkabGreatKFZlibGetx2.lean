/- Texts laid together: NfAll, NfBlocks, CtMem, BpSpecTop. -/
import Derived.Test.YtejebodgfoihkabGreatVFZlibGetNfOwn
import Derived.Test.YtejebodgfoihkabGreatKFZlibGetx0
import Derived.Test.YtejebodgfoihkabGreatVFZlibGetHpDown
import Derived.Test.YtejebodgfoihkabGreatVFZlibGetCfTree
import Derived.Test.YtejebodgfoihkabGreatVFZlibGetBpPutH
/- All blocks of a text, as the inflater reads them. -/
namespace Go.Proofs.YtejebodgfoihkabGreat
open Go.RowKit

theorem lol_go {s : ByteArray} : ∀ {m i p q : Nat} {row L : List Int}, Nf.lol s m i p row = .ok (L, q) → p ≤ q
  | 0, _, _, _, _, _, h => by unfold Nf.lol at h; cases h; exact Nat.le_refl _
  | m + 1, i, p, q, row, L, h => by
    cases hn : Nf.nxt s 3 p with
    | error c => rw [Nf.lol_no hn] at h; cases h
    | ok v => rw [Nf.lol_ok hn] at h; have := lol_go h; omega
theorem lens_go {s : ByteArray} {zs : List Int} {count : Nat} (hg : GoodC zs) : ∀ {f p q : Nat} {l L : List Int}, Nf.lens s zs count f p l = .ok (L, q) → p ≤ q
  | 0, _, _, _, _, h => by cases h
  | f + 1, p, q, l, L, h => by
    by_cases hlt : l.length < count
    · cases hr : Nf.run s zs p l with
      | error c => rw [Nf.lens_no hlt hr] at h; cases h
      | ok r =>
        obtain ⟨⟨v, t⟩, q1⟩ := r
        have hb := Nf.run_ok hg hr
        by_cases ho : l.length + t ≤ count
        · rw [Nf.lens_more hlt hr ho] at h
          have := lens_go hg h
          omega
        · rw [Nf.lens_over hlt hr ho] at h; cases h
    · rw [Nf.lens_done hlt] at h; cases h; exact Nat.le_refl _
theorem block_go {s : ByteArray} {lim k p q : Nat} {l L : List UInt8} (h : Nf.block s lim k p l = .ok (L, q)) (hl : l.length ≤ lim) : p ≤ q := by
  unfold Nf.block at h
  split at h
  · unfold Nf.plain at h
    split at h
    · cases h
    · split at h
      · cases h
      · rename_i m hm
        split at h
        · have h2 := (Nf.nxt_ok hm).1
          have := (Nf.take_ok' h (by omega) hl).1
          omega
        · cases h
  · split at h
    · have := (Nf.body_ok fixS_good fixD_good h hl).1; omega
    · split at h
      · unfold Nf.own at h
        split at h
        · cases h
        · split at h
          · cases h
          · split at h
            · cases h
            · rename_i c hc
              have hc1 := (Nf.nxt_ok hc).1
              split at h
              · cases h
              · rename_i by_ q1 hlol
                have hlk := Nf.lol_ok' hlol hc1 (by decide)
                have hlq := lol_go hlol
                split at h
                · rename_i hck
                  have hby : GoodC by_ := goodC (Nf.may_ok (by rw [hlk.2.1]; decide) hlk.1 hck.2.2)
                  split at h
                  · cases h
                  · rename_i L2 q2 hlens
                    have hln := Nf.lens_ok hby (by rw [hlk.2.1]; decide) hlens hlk.2.2 rfl (Nat.zero_le _)
                    have hlnq := lens_go hby hlens
                    split at h
                    · rename_i hm
                      have g1 : GoodC (L2.take _) := goodC (Nf.may_ok (by rw [List.length_take]; omega) (Nf.valid_sub hln.1 (fun z hz => List.mem_of_mem_take hz)) hm.1)
                      have g2 : GoodC (L2.drop _) := goodC (Nf.may_ok (by rw [List.length_drop]; omega) (Nf.valid_sub hln.1 (fun z hz => List.mem_of_mem_drop hz)) hm.2.1)
                      have := (Nf.body_ok g1 g2 h hl).1
                      omega
                    · cases h
                · cases h
      · cases h
end Go.Proofs.YtejebodgfoihkabGreat

/- The blocks of a text, as the inflater reads them. -/
namespace Go.Proofs.YtejebodgfoihkabGreat
open Go.RowKit

theorem InF.off {R base : Nat} {a b : World} (h : InF R base a b) (hb : base ≤ a.heap.size) : Off R R base a b := ⟨h.os, h.tape, h.output, h.size, fun k hk h1 _ => h.rest k (by omega) h1 (.inl hk)⟩
/-- how blocks ends -/
def BlocksEnd (w : World) (R base : Nat) (s : ByteArray) (lim : Nat) (ANS : Except Nat ((List UInt8 × Nat) × List Int)) (e : Ending) (w' : World) : Prop :=
  (∃ L q ks vk fx, ANS = .ok ((L, q), ks) ∧ (∃ r, e = .returned r) ∧ In w' R base s q L lim vk fx ∧ OwnI w' base vk ks.length ks ∧ Off R R base w w' ∧ q ≤ 8 * s.size ∧ L.length ≤ lim) ∨ (∃ c, ANS = .error c ∧ c ≠ 0 ∧ e = fault (c : Int) ∧ Off R R base w w')

set_option maxHeartbeats 8000000 in
set_option maxRecDepth 20000 in
theorem nfBlocks_any (R base lim : Nat) (s : ByteArray) (w : World) (h : In w R base s 0 [] lim (.slice none 0 0) (.pointer none)) (hR : R < base) (hb : base ≤ w.heap.size) (hs : s.size ≤ 9000) (hlim : lim ≤ 5000) :
    Calls Tryz.prog 53 #[.pointer (some ⟨R, 0, none⟩)] w (BlocksEnd w R base s lim (Nf.inflate s lim)) := by
  obtain ⟨ANS, hANS⟩ : ∃ r, r = Nf.inflate s lim := ⟨_, rfl⟩
  have hres : (w.alloc (.cells #[.nilFunc, .nilFunc, .nilFunc, .nilFunc] 119)).heap[w.heap.size]? = some (.cells #[.nilFunc, .nilFunc, .nilFunc, .nilFunc] 119 (0, 0)) := heap_alloc_new _ _
  have hinf : (Tryz.prog.info? 119).map (·.size) = some (#[.func (.func 83) #[.pointer (some ⟨R, 0, none⟩)] #[], .func (.func 84) #[.pointer (some ⟨R, 0, none⟩)] #[], .func (.func 85) #[.pointer (some ⟨R, 0, none⟩)] #[], .func (.func 86) #[.pointer (some ⟨R, 0, none⟩)] #[]] : Array Value).size := by show _ = some 4; kernel_rfl
  have hone : (#[.func (.func 83) #[.pointer (some ⟨R, 0, none⟩)] #[], .func (.func 84) #[.pointer (some ⟨R, 0, none⟩)] #[], .func (.func 85) #[.pointer (some ⟨R, 0, none⟩)] #[], .func (.func 86) #[.pointer (some ⟨R, 0, none⟩)] #[]] : Array Value).all (·.oneCell') = true := by kernel_rfl
  obtain ⟨W0, hW0⟩ : ∃ W0, W0 = (w.alloc (.cells #[.nilFunc, .nilFunc, .nilFunc, .nilFunc] 119)).setRow w.heap.size #[.func (.func 83) #[.pointer (some ⟨R, 0, none⟩)] #[], .func (.func 84) #[.pointer (some ⟨R, 0, none⟩)] #[], .func (.func 85) #[.pointer (some ⟨R, 0, none⟩)] #[], .func (.func 86) #[.pointer (some ⟨R, 0, none⟩)] #[]] := ⟨_, rfl⟩
  obtain ⟨AB, hAB⟩ : ∃ AB, AB = w.heap.size := ⟨_, rfl⟩
  have b0 : Below w.heap.size w W0 := by rw [hW0]; exact ((Below.refl _ _).alloc (Nat.le_refl _) _).trans ⟨rfl, rfl, rfl, by simp, fun k hk => setRow_other _ _ k _ (by omega)⟩
  have HX0 : Hid (In W0 R base s 0 [] lim (.slice none 0 0) (.pointer none) ∧ Fixd W0 R (.pointer none) ∧ OwnI W0 base (.slice none 0 0) 0 [] ∧ Off R R base w W0 ∧ W0.heap[AB]? = some (.cells #[.func (.func 83) #[.pointer (some ⟨R, 0, none⟩)] #[], .func (.func 84) #[.pointer (some ⟨R, 0, none⟩)] #[], .func (.func 85) #[.pointer (some ⟨R, 0, none⟩)] #[], .func (.func 86) #[.pointer (some ⟨R, 0, none⟩)] #[]] 119 (0, 0)) ∧ base ≤ W0.heap.size ∧ ANS = (if (0 : Nat) = 0 then Nf.all s lim Nf.fuel 0 [] [] else .ok (([], 0), []))) :=
    ⟨h.kept b0, .inl rfl, World.ownsRow_nil _ _ _ _, (InF.of_below b0).off hb, by rw [hW0, hAB]; exact setRow_heap _ _ _ _ _ _ hres, Nat.le_trans hb b0.size, by rw [if_pos rfl]; exact hANS⟩
  have HR : Hid (R < base ∧ AB ≠ R) := ⟨hR, by omega⟩
  have hf0 : 8 * s.size - 0 < Nf.fuel := by unfold Nf.fuel; omega
  have hmf : ∀ (fn : Fn) (first cap : Array Value) (w : World), (Instr.makeFunc fn first cap).run Tryz.prog w = .ok (.func fn first cap) w := fun _ _ _ _ => rfl
  rw [← hANS]
  clear hANS h hb b0 hR
  go_enter Tryz.func53, Tryz.ntmps53
  go_wp2_with (refine wpList_store_row rfl 119 (.tmp 2) (.tmp 13) rfl w.heap.size #[.func (.func 83) #[.pointer (some ⟨R, 0, none⟩)] #[], .func (.func 84) #[.pointer (some ⟨R, 0, none⟩)] #[], .func (.func 85) #[.pointer (some ⟨R, 0, none⟩)] #[], .func (.func 86) #[.pointer (some ⟨R, 0, none⟩)] #[]] rfl rfl 119 #[.nilFunc, .nilFunc, .nilFunc, .nilFunc] hres hinf rfl hone ?_)
  clear hres hinf hone
  go_upto_region 1 with fail
  rw [← hW0, ← hAB]
  clear hW0 hAB hmf
  go_loopw [3] (fun v wr => ∃ (f q : Nat) (L : List UInt8) (n : Nat) (ks : List Int) (vk fx : Value) (last : Nat), v = .int .i64 (last : Int) ∧ q ≤ 8 * s.size ∧ L.length ≤ lim ∧ (last = 0 → 8 * s.size - q < f) ∧ n + f ≤ 80000 ∧ Hid (In wr R base s q L lim vk fx ∧ Fixd wr R fx ∧ OwnI wr base vk n ks ∧ Off R R base w wr ∧ wr.heap[AB]? = some (.cells #[.func (.func 83) #[.pointer (some ⟨R, 0, none⟩)] #[], .func (.func 84) #[.pointer (some ⟨R, 0, none⟩)] #[], .func (.func 85) #[.pointer (some ⟨R, 0, none⟩)] #[], .func (.func 86) #[.pointer (some ⟨R, 0, none⟩)] #[]] 119 (0, 0)) ∧ base ≤ wr.heap.size ∧ ANS = (if last = 0 then Nf.all s lim f q L ks else .ok ((L, q), ks)))) (fun _ wr => 8 * s.size - atOf R wr)
  case atStart => exact ⟨_, 0, [], 0, [], _, _, 0, rfl, Nat.zero_le _, Nat.zero_le _, fun _ => hf0, by unfold Nf.fuel; omega, HX0⟩
  case round =>
    obtain ⟨f, q, L, n, ks, vk, fx, last, rfl, hq, hL, hf, hn, HX⟩ := hrel
    clear HX0 hf0
    by_cases hl0 : last = 0
    · have hf' := hf hl0
      obtain ⟨f, rfl⟩ : ∃ f2, f = f2 + 1 := ⟨f - 1, by omega⟩
      have HANS : Hid (ANS = Nf.all s lim (f + 1) q L ks) := by
        have h := HX.out.2.2.2.2.2.2
        rw [if_pos hl0] at h
        exact h
      have hnb : n ≤ 100000 := by omega
      have HFU : Hid (8 * s.size - q < f + 1) := hf'
      subst hl0
      have HN1 : Hid (Calls Tryz.prog 87 #[.pointer (some ⟨R, 0, none⟩), .int .i64 1] wr (NumEnd wr R base s q 1 L lim vk fx)) := nfNumber_any R q 1 base lim L vk fx s wr HX.out.1 hs hq (by omega)
      have HAT : Hid (atOf R wr = q) := atOf_in HX.out.1
      clear hf hf'
      go_wp2_with fail
      refine HN1.out.mono ?_
      rintro e w1 (⟨last, hv, rfl, h2, h3⟩ | ⟨hv, rfl, h3⟩)
      · have HN2 : Hid (Calls Tryz.prog 87 #[.pointer (some ⟨R, 0, none⟩), .int .i64 2] w1 (NumEnd w1 R base s (q + 1) 2 L lim vk fx)) := nfNumber_any R (q + 1) 2 base lim L vk fx s w1 h2 hs (Nf.nxt_ok hv).1 (by omega)
        have HV : Hid (Nf.nxt s 1 q = .ok last ∧ InF R base wr w1) := ⟨hv, InF.of_only h3⟩
        clear hv h2 h3 HN1
        go_wp2_with fail
        refine HN2.out.mono ?_
        rintro e w2 (⟨k, hv, rfl, h2, h3⟩ | ⟨hv, rfl, h3⟩)
        · have hk4 : k < 4 := (Nf.nxt_ok hv).2.2
          have hq3 : q + 3 ≤ 8 * s.size := (Nf.nxt_ok hv).1
          have HF2 : Hid (InF R base wr w2) := HV.out.2.trans (InF.of_only h3)
          have HA : Hid (ANS = Nf.all s lim (f + 1) q L ks ∧ Nf.nxt s 1 q = .ok last ∧ Nf.nxt s 2 (q + 1) = .ok k) := ⟨HANS.out, HV.out.1, hv⟩
          have hO2 := HF2.out.ownI HX.out.2.2.1 HR.out.1
          obtain ⟨ao, cap, rfl, _⟩ := hO2.owns
          have HI2 : Hid (In w2 R base s (q + 3) L lim (.slice ao n cap) fx ∧ Fixd w2 R fx ∧ OwnI w2 base (.slice ao n cap) n ks ∧ base ≤ w2.heap.size ∧ w2.heap[AB]? = some (.cells #[.func (.func 83) #[.pointer (some ⟨R, 0, none⟩)] #[], .func (.func 84) #[.pointer (some ⟨R, 0, none⟩)] #[], .func (.func 85) #[.pointer (some ⟨R, 0, none⟩)] #[], .func (.func 86) #[.pointer (some ⟨R, 0, none⟩)] #[]] 119 (0, 0)) ∧ Off R R base w w2) :=
            ⟨h2, HX.out.2.1.inF HF2.out, hO2, Nat.le_trans HX.out.2.2.2.2.2.1 HF2.out.size, HF2.out.block HX.out.2.2.2.2.1 HR.out.2 (by decide), HX.out.2.2.2.1.trans (HF2.out.off HX.out.2.2.2.2.2.1)⟩
          have c5 := h2.cells.2.2.2.2.1
          have hb2 := HI2.out.2.2.2.1
          have HL : Hid (L.length ≤ lim) := hL
          have HQ : Hid (q + 3 ≤ 8 * s.size) := hq3
          clear hv h2 h3 HN2 hO2 HF2 HX HANS HV
          go_wp2_with (at_builtin; refine wpList_app1 w2 (by rfl) _ _ (by rfl) base _ n ks (k : Int) (by rfl) HI2.out.2.2.1 (by rfl) (by omega) hb2 ?_)
          intro g4 cap4 w4 hown4 hg4
          have hI4 := HI2.out.1.beside HI2.out.2.2.1 hg4.block
          have hAB4 : w4.heap[AB]? = some (.cells #[.func (.func 83) #[.pointer (some ⟨R, 0, none⟩)] #[], .func (.func 84) #[.pointer (some ⟨R, 0, none⟩)] #[], .func (.func 85) #[.pointer (some ⟨R, 0, none⟩)] #[], .func (.func 86) #[.pointer (some ⟨R, 0, none⟩)] #[]] 119 (0, 0)) := (hg4.block AB (Array.getElem?_eq_some_iff.1 HI2.out.2.2.2.2.1).1 (fun e => HI2.out.2.2.1.away HI2.out.2.2.2.2.1 (by decide) e.symm)).trans HI2.out.2.2.2.2.1
          have k5 := hI4.cells.2.2.2.2.1
          have f5 := hI4.froz 5
          obtain ⟨w5, hw5⟩ : ∃ w5, w5 = w4.setCell ⟨R, 5, none⟩ (.slice (some ⟨g4, 0, none⟩) (n + 1) cap4) := ⟨_, rfl⟩
          have HI5 : Hid (In w5 R base s (q + 3) L lim (.slice (some ⟨g4, 0, none⟩) (n + 1) cap4) fx ∧ Fixd w5 R fx ∧ OwnI w5 base (.slice (some ⟨g4, 0, none⟩) (n + 1) cap4) (n + 1) (ks ++ [(k : Int)]) ∧ base ≤ w5.heap.size ∧ w5.heap[AB]? = some (.cells #[.func (.func 83) #[.pointer (some ⟨R, 0, none⟩)] #[], .func (.func 84) #[.pointer (some ⟨R, 0, none⟩)] #[], .func (.func 85) #[.pointer (some ⟨R, 0, none⟩)] #[], .func (.func 86) #[.pointer (some ⟨R, 0, none⟩)] #[]] 119 (0, 0)) ∧ Off R R base w w5 ∧ R < base) := by
            have hs5 := hI4.setKinds (.slice (some ⟨g4, 0, none⟩) (n + 1) cap4)
            rw [← hw5] at hs5
            have hF5 : InF R base w4 w5 := InF.of_only hs5.2
            have hbs : base ≤ w4.heap.size := Nat.le_trans hb2 hg4.size
            have hfx4 : Fixd w4 R fx := by
              rcases HI2.out.2.1 with h | ⟨F, BA, BB, e1, e2, e3, e4, e5⟩
              · exact .inl h
              · have hblk : ∀ (kk : Nat) (c : Array Value) (T : TypeId) (z : Nat × Nat), w2.heap[kk]? = some (Obj.cells c T z) → T ≠ 3 → w4.heap[kk]? = some (Obj.cells c T z) := fun kk c T z hh hT => (hg4.block kk (Array.getElem?_eq_some_iff.1 hh).1 (fun e => HI2.out.2.2.1.away hh hT e.symm)).trans hh
                have htr : ∀ B zs, Tree w2 R B zs → Tree w4 R B zs := fun B zs t => by
                  obtain ⟨lo, N, t1, t2, t3⟩ := t
                  exact ⟨lo, N, t1, ⟨fun d v b' hb => ⟨(t2.node d v b' hb).1, hblk b' _ _ _ (t2.node d v b' hb).2 (by decide)⟩, t2.inj, t2.closed, t2.dead⟩, t3⟩
                exact .inr ⟨F, BA, BB, e1, hblk F _ _ _ e2 (by decide), e3, htr _ _ e4, htr _ _ e5⟩
            have hoff4 : Off R R base w2 w4 := ⟨hg4.os, hg4.tape, hg4.output, hg4.size, fun kk hk _ _ => hg4.block kk (by omega) (fun e => by have := (hg4.own kk e.symm).1; omega)⟩
            exact ⟨hs5.1, hfx4.inF hF5, hF5.ownI hown4 HR.out.1, Nat.le_trans hbs hF5.size, hF5.block hAB4 HR.out.2 (by decide), (HI2.out.2.2.2.2.2.trans hoff4).trans (hF5.off hbs), HR.out.1⟩
          clear hI4 hown4 hg4 hAB4 HI2 hb2
          go_upto_region 6 with fail
          rw [← hw5]
          clear hw5 k5 f5 c5
          have hcell : ∀ j, j < 4 → w5.cell? ⟨AB, j, none⟩ = (#[.func (.func 83) #[.pointer (some ⟨R, 0, none⟩)] #[], .func (.func 84) #[.pointer (some ⟨R, 0, none⟩)] #[], .func (.func 85) #[.pointer (some ⟨R, 0, none⟩)] #[], .func (.func 86) #[.pointer (some ⟨R, 0, none⟩)] #[]] : Array Value)[j]? := fun j _ => by simp [World.cell?, HI5.out.2.2.2.2.1]
          have hk4' : k = 0 ∨ k = 1 ∨ k = 2 ∨ k = 3 := by omega
          rcases hk4' with rfl | rfl | rfl | rfl
          · have hfn : w5.cell? ⟨AB, 0, none⟩ = some (.func (.func 83) #[.pointer (some ⟨R, 0, none⟩)] #[]) := hcell 0 (by omega)
            clear hcell
            have HBK : Hid (Calls Tryz.prog 83 #[.pointer (some ⟨R, 0, none⟩)] w5 (BlkX w5 R base s lim (.slice (some ⟨g4, 0, none⟩) (n + 1) cap4) (Nf.block s lim 0 (q + 3) L))) := by
              refine (nfPlain_any R base (q + 3) lim L _ fx s w5 HI5.out.1 HI5.out.2.2.2.1 hs hq3 hL hlim).mono ?_
              intro e w' g
              have := g.x HI5.out.2.1
              rw [show Nf.plain s lim (q + 3) L = Nf.block s lim 0 (q + 3) L from rfl] at this
              exact this
            clear hq3 hL
            go_wp2_with fail
            refine HBK.out.mono ?_
            rintro e w6 (⟨L2, q2, fx2, hbk, ⟨r, rfl⟩, h3, h4, h5, h6, h7⟩ | ⟨c, hc, hc0, rfl, h5⟩)
            · have hgo := block_go hbk HL.out
              have HF : Hid (In w6 R base s q2 L2 lim (.slice (some ⟨g4, 0, none⟩) (n + 1) cap4) fx2 ∧ Fixd w6 R fx2 ∧ OwnI w6 base (.slice (some ⟨g4, 0, none⟩) (n + 1) cap4) (n + 1) (ks ++ [((0 : Nat) : Int)]) ∧ Off R R base w w6 ∧ w6.heap[AB]? = some (.cells #[.func (.func 83) #[.pointer (some ⟨R, 0, none⟩)] #[], .func (.func 84) #[.pointer (some ⟨R, 0, none⟩)] #[], .func (.func 85) #[.pointer (some ⟨R, 0, none⟩)] #[], .func (.func 86) #[.pointer (some ⟨R, 0, none⟩)] #[]] 119 (0, 0)) ∧ base ≤ w6.heap.size ∧ ANS = (if last = 0 then Nf.all s lim f q2 L2 (ks ++ [((0 : Nat) : Int)]) else .ok ((L2, q2), ks ++ [((0 : Nat) : Int)]))) := by
                refine ⟨h3, h4, h5.ownI HI5.out.2.2.1 HR.out.1, HI5.out.2.2.2.2.2.1.trans (h5.off HI5.out.2.2.2.1), h5.block HI5.out.2.2.2.2.1 HR.out.2 (by decide), Nat.le_trans HI5.out.2.2.2.1 h5.size, ?_⟩
                by_cases h0 : last = 0
                · rw [if_pos h0, HA.out.1]
                  exact Nf.all_more (by rw [← h0]; exact HA.out.2.1) HA.out.2.2 hbk
                · rw [if_neg h0, HA.out.1]
                  exact Nf.all_end HA.out.2.1 h0 HA.out.2.2 hbk
              have hm : 8 * s.size - q2 < 8 * s.size - q := by have := HQ.out; omega
              have hm2 : 8 * s.size - q2 < f := by have := HFU.out; omega
              clear hbk h3 h4 h5 HBK HI5 hgo
              go_wp2_with fail
              go_roundw
              case rel => exact ⟨f, q2, L2, n + 1, ks ++ [((0 : Nat) : Int)], _, fx2, last, rfl, h6, h7, fun _ => by omega, by omega, HF⟩
              case measure => rw [HAT.out, atOf_in HF.out.1]; exact hm
            · have HF : Hid (BlocksEnd w R base s lim ANS (fault (c : Int)) w6) := .inr ⟨c, by rw [HA.out.1]; exact Nf.all_no3 HA.out.2.1 HA.out.2.2 hc, hc0, rfl, HI5.out.2.2.2.2.2.1.trans (h5.off HI5.out.2.2.2.1)⟩
              clear hc h5 HBK HI5
              unfold fault
              go_wp2_with fail
              exact ⟨rfl, HF.out⟩
          · have hfn : w5.cell? ⟨AB, 1, none⟩ = some (.func (.func 84) #[.pointer (some ⟨R, 0, none⟩)] #[]) := hcell 1 (by omega)
            clear hcell
            have HBK : Hid (Calls Tryz.prog 84 #[.pointer (some ⟨R, 0, none⟩)] w5 (BlkX w5 R base s lim (.slice (some ⟨g4, 0, none⟩) (n + 1) cap4) (Nf.block s lim 1 (q + 3) L))) := by
              exact nfFixed_any R base (q + 3) lim L _ fx s w5 HI5.out.1 HI5.out.2.1 HI5.out.2.2.2.1 hs hq3 hL hlim
            clear hq3 hL
            go_wp2_with fail
            refine HBK.out.mono ?_
            rintro e w6 (⟨L2, q2, fx2, hbk, ⟨r, rfl⟩, h3, h4, h5, h6, h7⟩ | ⟨c, hc, hc0, rfl, h5⟩)
            · have hgo := block_go hbk HL.out
              have HF : Hid (In w6 R base s q2 L2 lim (.slice (some ⟨g4, 0, none⟩) (n + 1) cap4) fx2 ∧ Fixd w6 R fx2 ∧ OwnI w6 base (.slice (some ⟨g4, 0, none⟩) (n + 1) cap4) (n + 1) (ks ++ [((1 : Nat) : Int)]) ∧ Off R R base w w6 ∧ w6.heap[AB]? = some (.cells #[.func (.func 83) #[.pointer (some ⟨R, 0, none⟩)] #[], .func (.func 84) #[.pointer (some ⟨R, 0, none⟩)] #[], .func (.func 85) #[.pointer (some ⟨R, 0, none⟩)] #[], .func (.func 86) #[.pointer (some ⟨R, 0, none⟩)] #[]] 119 (0, 0)) ∧ base ≤ w6.heap.size ∧ ANS = (if last = 0 then Nf.all s lim f q2 L2 (ks ++ [((1 : Nat) : Int)]) else .ok ((L2, q2), ks ++ [((1 : Nat) : Int)]))) := by
                refine ⟨h3, h4, h5.ownI HI5.out.2.2.1 HR.out.1, HI5.out.2.2.2.2.2.1.trans (h5.off HI5.out.2.2.2.1), h5.block HI5.out.2.2.2.2.1 HR.out.2 (by decide), Nat.le_trans HI5.out.2.2.2.1 h5.size, ?_⟩
                by_cases h0 : last = 0
                · rw [if_pos h0, HA.out.1]
                  exact Nf.all_more (by rw [← h0]; exact HA.out.2.1) HA.out.2.2 hbk
                · rw [if_neg h0, HA.out.1]
                  exact Nf.all_end HA.out.2.1 h0 HA.out.2.2 hbk
              have hm : 8 * s.size - q2 < 8 * s.size - q := by have := HQ.out; omega
              have hm2 : 8 * s.size - q2 < f := by have := HFU.out; omega
              clear hbk h3 h4 h5 HBK HI5 hgo
              go_wp2_with fail
              go_roundw
              case rel => exact ⟨f, q2, L2, n + 1, ks ++ [((1 : Nat) : Int)], _, fx2, last, rfl, h6, h7, fun _ => by omega, by omega, HF⟩
              case measure => rw [HAT.out, atOf_in HF.out.1]; exact hm
            · have HF : Hid (BlocksEnd w R base s lim ANS (fault (c : Int)) w6) := .inr ⟨c, by rw [HA.out.1]; exact Nf.all_no3 HA.out.2.1 HA.out.2.2 hc, hc0, rfl, HI5.out.2.2.2.2.2.1.trans (h5.off HI5.out.2.2.2.1)⟩
              clear hc h5 HBK HI5
              unfold fault
              go_wp2_with fail
              exact ⟨rfl, HF.out⟩
          · have hfn : w5.cell? ⟨AB, 2, none⟩ = some (.func (.func 85) #[.pointer (some ⟨R, 0, none⟩)] #[]) := hcell 2 (by omega)
            clear hcell
            have HBK : Hid (Calls Tryz.prog 85 #[.pointer (some ⟨R, 0, none⟩)] w5 (BlkX w5 R base s lim (.slice (some ⟨g4, 0, none⟩) (n + 1) cap4) (Nf.block s lim 2 (q + 3) L))) := by
              refine (nfOwn_any R base (q + 3) lim L _ fx s w5 HI5.out.1 HI5.out.2.2.2.1 hs hq3 hL hlim).mono ?_
              intro e w' g
              have := g.x HI5.out.2.1
              rw [show Nf.own s lim (q + 3) L = Nf.block s lim 2 (q + 3) L from rfl] at this
              exact this
            clear hq3 hL
            go_wp2_with fail
            refine HBK.out.mono ?_
            rintro e w6 (⟨L2, q2, fx2, hbk, ⟨r, rfl⟩, h3, h4, h5, h6, h7⟩ | ⟨c, hc, hc0, rfl, h5⟩)
            · have hgo := block_go hbk HL.out
              have HF : Hid (In w6 R base s q2 L2 lim (.slice (some ⟨g4, 0, none⟩) (n + 1) cap4) fx2 ∧ Fixd w6 R fx2 ∧ OwnI w6 base (.slice (some ⟨g4, 0, none⟩) (n + 1) cap4) (n + 1) (ks ++ [((2 : Nat) : Int)]) ∧ Off R R base w w6 ∧ w6.heap[AB]? = some (.cells #[.func (.func 83) #[.pointer (some ⟨R, 0, none⟩)] #[], .func (.func 84) #[.pointer (some ⟨R, 0, none⟩)] #[], .func (.func 85) #[.pointer (some ⟨R, 0, none⟩)] #[], .func (.func 86) #[.pointer (some ⟨R, 0, none⟩)] #[]] 119 (0, 0)) ∧ base ≤ w6.heap.size ∧ ANS = (if last = 0 then Nf.all s lim f q2 L2 (ks ++ [((2 : Nat) : Int)]) else .ok ((L2, q2), ks ++ [((2 : Nat) : Int)]))) := by
                refine ⟨h3, h4, h5.ownI HI5.out.2.2.1 HR.out.1, HI5.out.2.2.2.2.2.1.trans (h5.off HI5.out.2.2.2.1), h5.block HI5.out.2.2.2.2.1 HR.out.2 (by decide), Nat.le_trans HI5.out.2.2.2.1 h5.size, ?_⟩
                by_cases h0 : last = 0
                · rw [if_pos h0, HA.out.1]
                  exact Nf.all_more (by rw [← h0]; exact HA.out.2.1) HA.out.2.2 hbk
                · rw [if_neg h0, HA.out.1]
                  exact Nf.all_end HA.out.2.1 h0 HA.out.2.2 hbk
              have hm : 8 * s.size - q2 < 8 * s.size - q := by have := HQ.out; omega
              have hm2 : 8 * s.size - q2 < f := by have := HFU.out; omega
              clear hbk h3 h4 h5 HBK HI5 hgo
              go_wp2_with fail
              go_roundw
              case rel => exact ⟨f, q2, L2, n + 1, ks ++ [((2 : Nat) : Int)], _, fx2, last, rfl, h6, h7, fun _ => by omega, by omega, HF⟩
              case measure => rw [HAT.out, atOf_in HF.out.1]; exact hm
            · have HF : Hid (BlocksEnd w R base s lim ANS (fault (c : Int)) w6) := .inr ⟨c, by rw [HA.out.1]; exact Nf.all_no3 HA.out.2.1 HA.out.2.2 hc, hc0, rfl, HI5.out.2.2.2.2.2.1.trans (h5.off HI5.out.2.2.2.1)⟩
              clear hc h5 HBK HI5
              unfold fault
              go_wp2_with fail
              exact ⟨rfl, HF.out⟩
          · have hfn : w5.cell? ⟨AB, 3, none⟩ = some (.func (.func 86) #[.pointer (some ⟨R, 0, none⟩)] #[]) := hcell 3 (by omega)
            clear hcell
            have HBK : Hid (Calls Tryz.prog 86 #[.pointer (some ⟨R, 0, none⟩)] w5 (BlkX w5 R base s lim (.slice (some ⟨g4, 0, none⟩) (n + 1) cap4) (Nf.block s lim 3 (q + 3) L))) := by
              refine (nfNo_any R w5).mono ?_
              rintro e w' ⟨rfl, rfl⟩
              exact .inr ⟨1, rfl, by decide, rfl, InF.refl _ _ _⟩
            clear hq3 hL
            go_wp2_with fail
            refine HBK.out.mono ?_
            rintro e w6 (⟨L2, q2, fx2, hbk, ⟨r, rfl⟩, h3, h4, h5, h6, h7⟩ | ⟨c, hc, hc0, rfl, h5⟩)
            · have hgo := block_go hbk HL.out
              have HF : Hid (In w6 R base s q2 L2 lim (.slice (some ⟨g4, 0, none⟩) (n + 1) cap4) fx2 ∧ Fixd w6 R fx2 ∧ OwnI w6 base (.slice (some ⟨g4, 0, none⟩) (n + 1) cap4) (n + 1) (ks ++ [((3 : Nat) : Int)]) ∧ Off R R base w w6 ∧ w6.heap[AB]? = some (.cells #[.func (.func 83) #[.pointer (some ⟨R, 0, none⟩)] #[], .func (.func 84) #[.pointer (some ⟨R, 0, none⟩)] #[], .func (.func 85) #[.pointer (some ⟨R, 0, none⟩)] #[], .func (.func 86) #[.pointer (some ⟨R, 0, none⟩)] #[]] 119 (0, 0)) ∧ base ≤ w6.heap.size ∧ ANS = (if last = 0 then Nf.all s lim f q2 L2 (ks ++ [((3 : Nat) : Int)]) else .ok ((L2, q2), ks ++ [((3 : Nat) : Int)]))) := by
                refine ⟨h3, h4, h5.ownI HI5.out.2.2.1 HR.out.1, HI5.out.2.2.2.2.2.1.trans (h5.off HI5.out.2.2.2.1), h5.block HI5.out.2.2.2.2.1 HR.out.2 (by decide), Nat.le_trans HI5.out.2.2.2.1 h5.size, ?_⟩
                by_cases h0 : last = 0
                · rw [if_pos h0, HA.out.1]
                  exact Nf.all_more (by rw [← h0]; exact HA.out.2.1) HA.out.2.2 hbk
                · rw [if_neg h0, HA.out.1]
                  exact Nf.all_end HA.out.2.1 h0 HA.out.2.2 hbk
              have hm : 8 * s.size - q2 < 8 * s.size - q := by have := HQ.out; omega
              have hm2 : 8 * s.size - q2 < f := by have := HFU.out; omega
              clear hbk h3 h4 h5 HBK HI5 hgo
              go_wp2_with fail
              go_roundw
              case rel => exact ⟨f, q2, L2, n + 1, ks ++ [((3 : Nat) : Int)], _, fx2, last, rfl, h6, h7, fun _ => by omega, by omega, HF⟩
              case measure => rw [HAT.out, atOf_in HF.out.1]; exact hm
            · have HF : Hid (BlocksEnd w R base s lim ANS (fault (c : Int)) w6) := .inr ⟨c, by rw [HA.out.1]; exact Nf.all_no3 HA.out.2.1 HA.out.2.2 hc, hc0, rfl, HI5.out.2.2.2.2.2.1.trans (h5.off HI5.out.2.2.2.1)⟩
              clear hc h5 HBK HI5
              unfold fault
              go_wp2_with fail
              exact ⟨rfl, HF.out⟩
        · have HF : Hid (BlocksEnd w R base s lim ANS (fault 2) w2) := .inr ⟨2, by rw [HANS.out]; exact Nf.all_no2 HV.out.1 hv, by decide, rfl, HX.out.2.2.2.1.trans ((HV.out.2.trans h3).off HX.out.2.2.2.2.2.1)⟩
          clear hv h3 HN2 HX HV
          unfold fault
          go_wp2_with fail
          exact ⟨rfl, HF.out⟩
      · have HF : Hid (BlocksEnd w R base s lim ANS (fault 2) w1) := .inr ⟨2, by rw [HANS.out]; exact Nf.all_no1 hv, by decide, rfl, HX.out.2.2.2.1.trans (h3.off HX.out.2.2.2.2.2.1)⟩
        clear hv h3 HN1 HX
        unfold fault
        go_wp2_with fail
        exact ⟨rfl, HF.out⟩
    · have hli : ¬ (last : Int) = 0 := by omega
      have HF : Hid (BlocksEnd w R base s lim ANS (.returned (.tuple #[])) wr) := by
        obtain ⟨a1, a2, a3, a4, a5, a6, a7⟩ := HX.out
        rw [if_neg hl0] at a7
        have hkl := a3.len
        subst hkl
        exact .inl ⟨L, q, ks, vk, fx, a7, ⟨_, rfl⟩, a1, a3, a4, hq, hL⟩
      clear HX hf
      go_wp2_with fail
      go_end0
      exact HF.out
end Go.Proofs.YtejebodgfoihkabGreat

/- The tree of a code in memory, and the heap of its nodes. -/
namespace Go.Proofs.YtejebodgfoihkabGreat
open Go.RowKit
open Ct (Tr Nt)

def nodeC (s : Int) (x y : Value) (o p : Nat) : Obj := .cells #[.int .i64 s, x, y, .int .i64 (o : Int), .int .i64 (p : Int)] 170 (0, 0)
def TreeAt (W : World) : Nat → Tr → Prop
  | k, .leaf s => ∃ o p, W.heap[k]? = some (nodeC (s : Int) (.pointer none) (.pointer none) o p)
  | k, .node l r => ∃ kl kr o p, W.heap[k]? = some (nodeC (-1) (ptN kl) (ptN kr) o p) ∧ TreeAt W kl l ∧ TreeAt W kr r
/-- all nodes are as they were -/
def NodesK (W W' : World) : Prop := ∀ (k : Nat) (cs : Array Value), W.heap[k]? = some (.cells cs 170 (0, 0)) → W'.heap[k]? = some (.cells cs 170 (0, 0))
theorem TreeAt.kept {W W' : World} (h : NodesK W W') : ∀ {t : Tr} {k : Nat}, TreeAt W k t → TreeAt W' k t
  | .leaf _, k, ⟨o, p, e⟩ => ⟨o, p, h k _ e⟩
  | .node _ _, k, ⟨kl, kr, o, p, e, h1, h2⟩ => ⟨kl, kr, o, p, h k _ e, TreeAt.kept h h1, TreeAt.kept h h2⟩
theorem NodesK.of_below {W W' : World} (h : Below W.heap.size W W') : NodesK W W' := fun k _ e => (h.block k (Array.getElem?_eq_some_iff.1 e).1).trans e
theorem NodesK.trans {A B C : World} (h : NodesK A B) (k : NodesK B C) : NodesK A C := fun i cs e => k i cs (h i cs e)
abbrev tD : Nt := (0, Tr.leaf 0)
/-- the nodes that stand in a heap, where they stand, and their trees -/
structure Gs (W : World) (K : Nat → Hp.Key) (ks : List Nat) (ts : List Nt) (P : Nat) : Prop where
  keys : KeysAt W K ks
  inc : ks.Pairwise (fun x y => (K x).2 < (K y).2)
  plc : ∀ x ∈ ks, (K x).2 < P
  len : ks.length = ts.length
  tree : ∀ i, i < ks.length → TreeAt W (ks.getD i 0) (ts.getD i tD).2 ∧ (K (ks.getD i 0)).1 = (ts.getD i tD).1
  wgt : Cf.sum (fun p : Nt => p.1) ts ≤ 3000000
theorem Gs.kept {W W' : World} {K : Nat → Hp.Key} {ks : List Nat} {ts : List Nt} {P : Nat} (h : Gs W K ks ts P) (hk : NodesK W W') : Gs W' K ks ts P :=
  ⟨fun k hx => by obtain ⟨s, x, y, e⟩ := h.keys k hx; exact ⟨s, x, y, hk k _ e⟩, h.inc, h.plc, h.len, fun i hi => ⟨(h.tree i hi).1.kept hk, (h.tree i hi).2⟩, h.wgt⟩
theorem Gs.lt {W : World} {K : Nat → Hp.Key} {ks : List Nat} {ts : List Nt} {P : Nat} (h : Gs W K ks ts P) {k : Nat} (hk : k ∈ ks) : k < W.heap.size := by
  obtain ⟨s, x, y, e⟩ := h.keys k hk
  exact (Array.getElem?_eq_some_iff.1 e).1
theorem sum_at {f : Nt → Nat} : ∀ (l : List Nt) (i : Nat), i < l.length → f (l.getD i tD) ≤ Cf.sum f l
  | [], i, h => by simp at h
  | x :: l, 0, _ => by simp [Cf.sum]
  | x :: l, i + 1, h => by
    have := sum_at (f := f) l i (by simpa using h)
    simp only [Cf.sum, List.getD_cons_succ]
    omega
theorem Gs.bound {W : World} {K : Nat → Hp.Key} {ks : List Nat} {ts : List Nt} {P : Nat} (h : Gs W K ks ts P) (hP : P ≤ 100000) : ∀ x ∈ ks, (K x).1 ≤ 100000000 ∧ (K x).2 ≤ 100000000 := fun x hx => by
  obtain ⟨i, hi, rfl⟩ := List.mem_iff_getElem.1 hx
  have h1 := (h.tree i hi).2
  have h2 := h.plc _ hx
  have h3 := sum_at (f := fun p => p.1) ts i (by rw [← h.len]; exact hi)
  have h4 := h.wgt
  rw [List.getD_eq_getElem?_getD, List.getElem?_eq_getElem hi] at h1
  dsimp only [Option.getD_some] at h1
  exact ⟨by omega, by omega⟩
/-- the key of a node that comes in -/
def addK (K : Nat → Hp.Key) (b : Nat) (o p : Nat) : Nat → Hp.Key := fun z => if z = b then (o, p) else K z
theorem Gs.more {W : World} {K : Nat → Hp.Key} {ks : List Nat} {ts : List Nt} {P o p : Nat} {s : Int} {x y : Value} {t : Tr} (h : Gs W K ks ts P) (hp : P ≤ p) (ht : TreeAt (W.alloc (nodeC s x y o p)) W.heap.size t) (hw : Cf.sum (fun p : Nt => p.1) ts + o ≤ 3000000) :
    Gs (W.alloc (nodeC s x y o p)) (addK K W.heap.size o p) (ks ++ [W.heap.size]) (ts ++ [(o, t)]) (p + 1) := by
  have hk := h.kept (NodesK.of_below ((Below.refl _ W).alloc (Nat.le_refl _) (nodeC s x y o p)))
  have hold : ∀ k ∈ ks, addK K W.heap.size o p k = K k := fun k hx => by unfold addK; rw [if_neg (by have := h.lt hx; omega)]
  have hnew : addK K W.heap.size o p W.heap.size = (o, p) := by unfold addK; rw [if_pos rfl]
  refine ⟨fun k hx => ?_, ?_, fun k hx => ?_, by rw [List.length_append, List.length_append, h.len]; rfl, fun i hi => ?_, ?_⟩
  · rcases List.mem_append.1 hx with h1 | h1
    · rw [hold k h1]; exact hk.keys k h1
    · rw [List.mem_singleton.1 h1, hnew]
      exact ⟨.int .i64 s, x, y, by rw [heap_alloc_new]; rfl⟩
  · rw [List.pairwise_append]
    refine ⟨h.inc.imp_of_mem (fun {a b} ha hb hab => by rw [hold a ha, hold b hb]; exact hab), by simp, fun a ha b hb => ?_⟩
    rw [List.mem_singleton.1 hb, hold a ha, hnew]
    have := h.plc a ha
    show (K a).2 < p
    omega
  · rcases List.mem_append.1 hx with h1 | h1
    · rw [hold k h1]; have := h.plc k h1; omega
    · rw [List.mem_singleton.1 h1, hnew]; show p < p + 1; omega
  · rw [List.length_append] at hi
    by_cases e : i < ks.length
    · have e1 : (ks ++ [W.heap.size]).getD i 0 = ks.getD i 0 := by rw [List.getD_eq_getElem?_getD, List.getD_eq_getElem?_getD, List.getElem?_append_left e]
      have e2 : (ts ++ [(o, t)]).getD i tD = ts.getD i tD := by rw [List.getD_eq_getElem?_getD, List.getD_eq_getElem?_getD, List.getElem?_append_left (by rw [← h.len]; exact e)]
      rw [e1, e2, hold _ (getD_mem e)]
      exact hk.tree i e
    · have ei : i = ks.length := by simp at hi; omega
      have e1 : (ks ++ [W.heap.size]).getD i 0 = W.heap.size := by rw [List.getD_eq_getElem?_getD, ei, List.getElem?_append_right (Nat.le_refl _)]; simp
      have e2 : (ts ++ [(o, t)]).getD i tD = (o, t) := by rw [List.getD_eq_getElem?_getD, ei, h.len, List.getElem?_append_right (Nat.le_refl _)]; simp
      rw [e1, e2, hnew]
      exact ⟨ht, rfl⟩
  · rw [Cf.sum_append]
    show Cf.sum _ ts + (o + 0) ≤ _
    omega
/-- two are taken out -/
theorem Gs.two {W : World} {K : Nat → Hp.Key} {ks : List Nat} {ts : List Nt} {P a b : Nat} (h : Gs W K ks ts P) (hab : a ≠ b) (ha : a < ks.length) (hb : b < ks.length) : Gs W K (Cf.wo a b ks 0) (Cf.wo a b ts 0) P := by
  have hz : ∃ zs : List (Nat × Nt), zs.map Prod.fst = ks ∧ zs.map Prod.snd = ts := ⟨ks.zip ts, List.map_fst_zip (by rw [h.len]; exact Nat.le_refl _), List.map_snd_zip (by rw [h.len]; exact Nat.le_refl _)⟩
  obtain ⟨zs, e1, e2⟩ := hz
  have f1 : Cf.wo a b ks 0 = (Cf.wo a b zs 0).map Prod.fst := by rw [Cf.wo_map, e1]
  have f2 : Cf.wo a b ts 0 = (Cf.wo a b zs 0).map Prod.snd := by rw [Cf.wo_map, e2]
  have hsub := Ct.wo_sub a b ks 0
  have hall : ∀ q ∈ zs, TreeAt W q.1 q.2.2 ∧ (K q.1).1 = q.2.1 := fun q hq => by
    obtain ⟨i, hi, rfl⟩ := List.mem_iff_getElem.1 hq
    have hik : i < ks.length := by rw [← e1, List.length_map]; exact hi
    have h5 := h.tree i hik
    have g1 : ks.getD i 0 = zs[i].1 := by rw [← e1, List.getD_eq_getElem?_getD, List.getElem?_map, List.getElem?_eq_getElem hi]; rfl
    have g2 : ts.getD i tD = zs[i].2 := by rw [← e2, List.getD_eq_getElem?_getD, List.getElem?_map, List.getElem?_eq_getElem hi]; rfl
    rw [g1, g2] at h5
    exact h5
  refine ⟨fun k hk => h.keys k (hsub.mem hk), h.inc.sublist hsub, fun k hk => h.plc k (hsub.mem hk), by rw [f1, f2, List.length_map, List.length_map], fun i hi => ?_, ?_⟩
  · rw [f1, List.length_map] at hi
    have g1 : (Cf.wo a b ks 0).getD i 0 = (Cf.wo a b zs 0)[i].1 := by rw [f1, List.getD_eq_getElem?_getD, List.getElem?_map, List.getElem?_eq_getElem hi]; rfl
    have g2 : (Cf.wo a b ts 0).getD i tD = (Cf.wo a b zs 0)[i].2 := by rw [f2, List.getD_eq_getElem?_getD, List.getElem?_map, List.getElem?_eq_getElem hi]; rfl
    rw [g1, g2]
    exact hall _ ((Ct.wo_sub a b zs 0).mem (List.getElem_mem hi))
  · have := Cf.wo_sum0 (fun p : Nt => p.1) hab ts (by rw [← h.len]; exact ha) (by rw [← h.len]; exact hb)
    have := h.wgt
    omega
theorem Gs.ns {W : World} {K : Nat → Hp.Key} {ks : List Nat} {ts : List Nt} {P : Nat} (h : Gs W K ks ts P) : ∀ i, i < ks.length → ∃ x, (ts.map Ct.wt)[i]? = some x ∧ x.1 = (K (ks.getD i 0)).1 := fun i hi => by
  have hit : i < ts.length := by rw [← h.len]; exact hi
  refine ⟨Ct.wt ts[i], by rw [List.getElem?_map, List.getElem?_eq_getElem hit]; rfl, ?_⟩
  rw [(h.tree i hi).2, List.getD_eq_getElem?_getD, List.getElem?_eq_getElem hit]
  rfl
end Go.Proofs.YtejebodgfoihkabGreat

/- BitsPut of the specification, for every list of bits. -/
namespace Go.Proofs.YtejebodgfoihkabGreat
open Go.RowKit

theorem l1Put_any (hi : Bool) (a : Option Addr) (n cap : Nat) (l : List (Int × Int)) (w : World) (h : Bits2 w a l) (hn : l.length = n) (hl : n ≤ 2000000) (hf : Bp.Fits l l.length) :
    Calls Tryz.prog 71 #[.slice a n cap, .bool hi] w fun e w' => e = .returned (.string ⟨((Bp.text hi l).map UInt8.ofNat).toArray⟩) ∧ Below w.heap.size w w' := by
  cases hi
  · exact l1Put_low a n cap l w h hn hl hf
  · exact l1Put_high a n cap l w h hn hl hf

end Go.Proofs.YtejebodgfoihkabGreat
