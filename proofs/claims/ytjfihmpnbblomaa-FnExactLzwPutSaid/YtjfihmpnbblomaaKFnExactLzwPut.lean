/- Texts laid together: LqFor, LqLong, LqLearn, LqLearn2, LqTop, LqMain, LzOk, LqEx. -/
import Derived.Test.YtjfihmpnbblomaaLqWr
import Derived.Test.YtjfihmpnbblomaaLpSmall
import Derived.Test.YtjfihmpnbblomaaLpPut
import Derived.Test.YtjfihmpnbblomaaBpTop
import Derived.Test.YtjfihmpnbblomaaLzSmall
/- The writer of LZW: forget; the longest text that is known. -/
namespace Go.Proofs.Ytjfihmpnbblomaa
open Go.RowKit Go.Maps

/-- what forget leaves -/
def WrNew (B b n lo : Nat) (wide : Bool) (ov : Value) (out : List (Int × Int)) (w w' : World) : Prop :=
  ∃ g cap mb, Wr w' B b wide (.map (some mb)) 0 (.slice (some ⟨g, 0, none⟩) (n + 1) cap) ∧ OwnP w' lo (.slice (some ⟨g, 0, none⟩) (n + 1) cap) (n + 1) out ∧ w'.ownsMap Try.prog 69 (plainElem (H := Unit) Try.prog 3) mb 0 (.map []) ∧ w.heap.size ≤ mb ∧ WrG B ov w w'

set_option maxHeartbeats 2000000 in
theorem wrForget (B b since n lo : Nat) (wide : Bool) (mv ov : Value) (out : List (Int × Int)) (C : Int × Int) (w : World) (hb : b ≤ 8) (h : Wr w B b wide mv since ov) (ho : OwnP w lo ov n out) (hlo : lo ≤ w.heap.size) (hn : n ≤ 100000) (hs : since ≤ 4200) (hC : C = (((2 ^ b : Nat) : Int), (Lz.width b wide (2 ^ b + 2 + (since - 1)) : Int))) :
    Calls Try.prog 38 #[.pointer (some ⟨B, 0, none⟩)] w fun e w' => e = .returned (.tuple #[]) ∧ WrNew B b n lo wide ov (out ++ [C]) w w' := by
  have HCL : Hid (∀ w', Calls Try.prog 57 #[.agg #[.int .i64 (b : Int), .bool wide]] w' fun e w'' => e = .returned (.int .i64 ((2 ^ b : Nat) : Int)) ∧ Below w'.heap.size w' w'') := fun w' => lzClear_any b hb wide w'
  have HPU : Hid (∀ (w' : World), Wr w' B b wide mv since ov → OwnP w' lo ov n out → lo ≤ w'.heap.size → Calls Try.prog 40 #[.pointer (some ⟨B, 0, none⟩), .int .i64 ((2 ^ b : Nat) : Int)] w' fun e w'' => e = .returned (.tuple #[]) ∧ ∃ g cap, Wr w'' B b wide mv (since + 1) (.slice (some ⟨g, 0, none⟩) (n + 1) cap) ∧ OwnP w'' lo (.slice (some ⟨g, 0, none⟩) (n + 1) cap) (n + 1) (out ++ [C]) ∧ WrG B ov w' w'') := fun w' h1 h2 h3 => wrPut B b since n lo wide mv ov _ out C w' hb h1 h2 h3 hn hs hC
  have HW : Hid (Wr w B b wide mv since ov ∧ OwnP w lo ov n out) := ⟨h, ho⟩
  have c0 := h.cell 0
  have c1 := h.cell 1
  simp at c0 c1
  generalize 2 ^ b = P at *
  clear h ho hC
  go_enter Try.func38, Try.ntmps38
  go_wp2_with fail
  refine (HCL.out _).mono ?_
  rintro e w1 ⟨rfl, b1⟩
  have HW1 : Hid (Wr w1 B b wide mv since ov ∧ OwnP w1 lo ov n out ∧ lo ≤ w1.heap.size ∧ Below w.heap.size w w1) := ⟨HW.out.1.same (b1.block _ HW.out.1.lt), ownsRow_besides HW.out.2 (fun k hk => b1.block k (World.ownsRow.lt HW.out.2 k hk).2), Nat.le_trans hlo b1.size, b1⟩
  clear b1 HCL c0 c1
  go_wp2_with fail
  refine (HPU.out w1 HW1.out.1 HW1.out.2.1 HW1.out.2.2.1).mono ?_
  rintro e w2 ⟨rfl, g, cap, hr2, ho2, hg2⟩
  obtain ⟨W3, hW3⟩ : ∃ W3, W3 = w2.alloc (.map #[] 0) := ⟨_, rfl⟩
  have hB3 : Below w2.heap.size w2 W3 := by rw [hW3]; exact (Below.refl _ _).alloc (Nat.le_refl _) _
  have hr3 : Wr W3 B b wide mv (since + 1) (.slice (some ⟨g, 0, none⟩) (n + 1) cap) := hr2.same (hB3.block _ hr2.lt)
  have ho3 : OwnP W3 lo (.slice (some ⟨g, 0, none⟩) (n + 1) cap) (n + 1) (out ++ [C]) := ownsRow_besides ho2 (fun k hk => hB3.block k (World.ownsRow.lt ho2 k hk).2)
  have hm3 : W3.ownsMap Try.prog 69 (plainElem (H := Unit) Try.prog 3) w2.heap.size 0 (.map []) := by rw [hW3]; exact World.ownsMap_made w2 Try.prog _ _
  have hr4 : Wr (W3.setCell ⟨B, 2, none⟩ (.map (some w2.heap.size))) B b wide (.map (some w2.heap.size)) (since + 1) (.slice (some ⟨g, 0, none⟩) (n + 1) cap) := hr3.set rfl
  have hBm : w2.heap.size ≠ B := by have := hr2.lt; omega
  have HFIN : Hid (WrNew B b n lo wide ov (out ++ [C]) w ((W3.setCell ⟨B, 2, none⟩ (.map (some w2.heap.size))).setCell ⟨B, 3, none⟩ (.int .i64 0))) := by
    have hoB := hr3.apart ho3 (by decide)
    have hsz : w.heap.size ≤ w2.heap.size := Nat.le_trans HW1.out.2.2.2.size hg2.size
    refine ⟨g, cap, w2.heap.size, hr4.set (since' := 0) rfl, ?_, (hm3.setCell hBm _).setCell hBm _, hsz, ?_⟩
    · refine ownsRow_besides ho3 (fun k hk => (Below.heap_setCell _ ⟨B, 3, none⟩ _ k ?_).trans (Below.heap_setCell _ ⟨B, 2, none⟩ _ k ?_))
      · exact fun e => hoB (by rw [hk]; exact congrArg some e)
      · exact fun e => hoB (by rw [hk]; exact congrArg some e)
    · have hG3 : WrG B ov w W3 := ⟨hB3.os.trans (hg2.os.trans HW1.out.2.2.2.os), hB3.tape.trans (hg2.tape.trans HW1.out.2.2.2.tape), hB3.output.trans (hg2.output.trans HW1.out.2.2.2.output), Nat.le_trans hsz hB3.size, fun k hk hkB hko => (hB3.block k (by omega)).trans ((hg2.block k (by have := HW1.out.2.2.2.size; omega) hkB hko).trans (HW1.out.2.2.2.block k hk))⟩
      exact (hG3.set 2 _).set 3 _
  have k2 := hr3.cell 2
  have kf2 := hr3.free 2
  have k3 := hr4.cell 3
  have kf3 := hr4.free 3
  simp at k2 k3
  rw [hW3] at k2 kf2 k3 kf3
  have HW3 : Hid (w2.alloc (.map #[] 0) = W3) := hW3.symm
  have hmm : Sem.run Try.prog (Instr.makeMap 60 none) w2 = .ok (.map (some w2.heap.size)) (w2.alloc (.map #[] 0)) := rfl
  clear hW3 hB3 hr2 ho2 hg2 hr3 ho3 hm3 hr4 HW HW1 HPU
  go_wp2_with fail
  go_end0
  refine ⟨rfl, ?_⟩
  first | (rw [HW3.out]; exact HFIN.out) | (rw [← World.setCell_alloc_past, ← World.setCell_alloc_past, HW3.out]; exact HFIN.out)
end Go.Proofs.Ytjfihmpnbblomaa

/- The writer of LZW: the longest text that is known and stands next. -/
namespace Go.Proofs.Ytjfihmpnbblomaa
open Go.RowKit Go.Maps

theorem lit_inj {a b : Int} (h : (DataW.lit (.int .i64 a) : DataW Unit) = .lit (.int .i64 b)) : a = b := by
  injection h with h
  injection h
theorem zero_int_ (w : World) : (zeroValue 3).run Try.prog w = .ok (.int .i64 0) w := by kernel_rfl
/-- what the table answers -/
theorem tab_look {w : World} {mb N b : Nat} {D : DataW Unit} {l : List ByteArray} (hm : w.ownsMap Try.prog 69 (plainElem Try.prog 3) mb N D) (t : TabIs D b l) (h c : Nat) (hh : h ≤ 100000) (hc : c < 256) :
    ∃ x : Int, (Instr.lookup 60 (.map (some mb)) (pairV h c) true).run Try.prog w = .ok (.tuple #[.int .i64 x, .bool (decide (0 ≤ Lq.look l h c))]) w ∧ (0 ≤ Lq.look l h c → x = Lq.look l h c) ∧ D.atKey (pairKey h c) (.lit (.int .i64 0)) = .lit (.int .i64 x) := by
  obtain ⟨v, ps, hrun, hv⟩ := hm.look_ok key_pair Try.underlying60 (zero_int_ w) (zd := .lit (.int .i64 0)) (zp := []) (plainElem_int Try.underlying3 (by decide)) (pairKey_of h c hh hc)
  obtain ⟨x, rfl, hx, -⟩ := plainElem_int_inv Try.underlying3 hv
  rw [t.has_ h c hh hc] at hrun
  have h2 := congrArg Prod.fst hx
  refine ⟨x, hrun, fun hl => ?_, h2⟩
  exact (lit_inj ((t.at_ h c hh hc hl _).symm.trans h2)).symm

/-- what longest answers -/
def LongOut (l : List ByteArray) (u : ByteArray) (w : World) (e : Ending) (w' : World) : Prop :=
  ∃ v k : Nat, e = .returned (.tuple #[.int .i64 (v : Int), .int .i64 (k : Int)]) ∧ 1 ≤ k ∧ k ≤ u.size ∧ (∀ j, 1 ≤ j → j ≤ k → 0 ≤ Lp.num l (u.extract 0 j)) ∧ Lp.num l (u.extract 0 k) = (v : Int) ∧ (k = u.size ∨ (k < u.size ∧ Lp.num l (u.extract 0 (k + 1)) < 0)) ∧ ∃ m, w' = w.drewN m
/-- how far it is -/
def LongAt (l : List ByteArray) (u : ByteArray) (k v : Nat) : Prop := 1 ≤ k ∧ k ≤ u.size ∧ (∀ j, 1 ≤ j → j ≤ k → 0 ≤ Lp.num l (u.extract 0 j)) ∧ Lp.num l (u.extract 0 k) = (v : Int)

theorem extract_next (u : ByteArray) (k : Nat) (h : k < u.size) : u.extract 0 (k + 1) = u.extract 0 k ++ Lz.one (u[k]).toNat := by
  have h1 : u.extract 0 (k + 1) = u.extract 0 k ++ u.extract k (k + 1) := by
    rw [ByteArray.extract_append_extract, Nat.min_eq_left (by omega), Nat.max_eq_right (by omega)]
  rw [h1]
  congr 1
  have hs : (u.extract k (k + 1)).size = 1 := by rw [ByteArray.size_extract]; omega
  rw [Lp.one_of hs, extract_byte u k h]

set_option linter.unusedSimpArgs false in
set_option maxHeartbeats 2000000 in
set_option maxRecDepth 20000 in
theorem wrLongest (B b since mb N : Nat) (wide : Bool) (ov : Value) (D : DataW Unit) (l : List ByteArray) (u : ByteArray) (w : World) (hb : b ≤ 8) (h : Wr w B b wide (.map (some mb)) since ov) (hm : w.ownsMap Try.prog 69 (plainElem Try.prog 3) mb N D) (tb : TabIs D b l) (g : Lq.Inv b l) (hl4 : l.length ≤ 4096) (hu : 1 ≤ u.size) (hu5 : u.size ≤ 5000) (hsm : ∀ k (h : k < u.size), (u[k]).toNat < 2 ^ b) :
    Calls Try.prog 39 #[.pointer (some ⟨B, 0, none⟩), .string u] w (LongOut l u w) := by
  have hpw := Lz.pow_le hb
  have hb0 := first_byte u (by omega)
  have HSM : Hid (∀ k (h : k < u.size), (u[k]).toNat < 2 ^ b) := hsm
  have e1 : u.extract 0 1 = Lz.one (Lp.byte u) := by
    have hs : (u.extract 0 1).size = 1 := by rw [ByteArray.size_extract]; omega
    rw [Lp.one_of hs, show (1 : Nat) = 0 + 1 from rfl, extract_byte u 0 (by omega), hb0]
  have hbb : Lp.byte u < 2 ^ b := by rw [← hb0]; exact hsm 0 (by omega)
  have hone : Lp.byte (Lz.one (Lp.byte u)) = Lp.byte u := by
    have := Lp.byte_lt u
    have e : Lp.byte (Lz.one (Lp.byte u)) = (UInt8.ofNat (Lp.byte u)).toNat := rfl
    rw [e, UInt8.toNat_ofNat']
    omega
  have H0 : Hid (LongAt l u 1 (Lp.byte u)) := by
    have hn : Lp.num l (u.extract 0 1) = (Lp.byte u : Int) := by rw [e1, Lp.num_one rfl, hone]
    refine ⟨Nat.le_refl _, hu, fun j h1 h2 => ?_, hn⟩
    have : j = 1 := by omega
    subst this
    rw [hn]; omega
  have HM : Hid (Wr w B b wide (.map (some mb)) since ov ∧ w.ownsMap Try.prog 69 (plainElem Try.prog 3) mb N D ∧ TabIs D b l ∧ Lq.Inv b l) := ⟨h, hm, tb, g⟩
  have hb8 : Lp.byte u < 256 := Lp.byte_lt u
  generalize Lp.byte u = y0 at *
  have h0s : 0 < u.size := by omega
  have hui : (0 : Int) < (u.size : Int) := by omega
  clear h hm tb g hsm e1 hone
  go_enter Try.func39, Try.ntmps39
  go_wp2_with fail
  go_loopw [6, 7] (fun nv kv wr => ∃ k v : Nat, nv = .int .i64 (v : Int) ∧ kv = .int .i64 (k : Int) ∧ Hid (LongAt l u k v) ∧ Hid (∃ m, wr = w.drewN m)) (fun _ kv _ => u.size - (intOf kv).toNat)
  case atStart => exact ⟨1, y0, rfl, rfl, H0, 0, rfl⟩
  case round =>
    obtain ⟨k, v, rfl, rfl, HA, HW⟩ := hrel
    clear H0
    have hk1 := HA.out.1
    have hk2 := HA.out.2.1
    have HF : Hid (k = u.size → LongOut l u w (.returned (.tuple #[.int .i64 (v : Int), .int .i64 (k : Int)])) wr) := fun e => ⟨v, k, rfl, hk1, hk2, HA.out.2.2.1, HA.out.2.2.2, .inl e, HW.out⟩
    have hvl : v < l.length := by
      obtain ⟨hv, -⟩ := Lq.at_num HM.out.2.2.2 HA.out.2.2.2 (fun hs => by
        have hk : k = 1 := by rw [ByteArray.size_extract] at hs; omega
        subst hk
        rw [show (1 : Nat) = 0 + 1 from rfl, extract_byte u 0 h0s]
        exact HSM.out 0 h0s)
      exact hv
    by_cases hlt : k < u.size
    · obtain ⟨y, hy⟩ : ∃ y, y = (u[k]).toNat := ⟨_, rfl⟩
      have hsy : (u[k]).toNat = y := hy.symm
      have hyb : y < 256 := by rw [hy]; exact UInt8.toNat_lt _
      have hki : (k : Int) < (u.size : Int) := by omega
      have hlook : Lq.look l v y = Lp.num l (u.extract 0 (k + 1)) := by
        rw [extract_next u k hlt, ← hy]
        refine Lq.look_num y HM.out.2.2.2 HA.out.2.2.2 (fun hs => ?_) (by rw [ByteArray.size_extract]; omega)
        have hk : k = 1 := by rw [ByteArray.size_extract] at hs; omega
        subst hk
        rw [show (1 : Nat) = 0 + 1 from rfl, extract_byte u 0 h0s]
        exact HSM.out 0 h0s
      have HLK : Hid (Lq.look l v y = Lp.num l (u.extract 0 (k + 1))) := hlook
      have HMR : Hid (Wr wr B b wide (.map (some mb)) since ov ∧ wr.ownsMap Try.prog 69 (plainElem Try.prog 3) mb N D) := by
        obtain ⟨m, rfl⟩ := HW.out
        exact ⟨HM.out.1, HM.out.2.1⟩
      obtain ⟨x, hx, hxe, hxa⟩ := tab_look HMR.out.2 HM.out.2.2.1 v y (by omega) hyb
      have HX : Hid (∀ m, (Instr.lookup 60 (.map (some mb)) (pairV v y) true).run Try.prog (wr.drewN m) = .ok (.tuple #[.int .i64 x, .bool (decide (0 ≤ Lq.look l v y))]) (wr.drewN m)) := fun m => by
        obtain ⟨x', hx', -, hxa'⟩ := tab_look (w := wr.drewN m) (show (wr.drewN m).ownsMap _ _ _ _ _ _ from HMR.out.2) HM.out.2.2.1 v y (by omega) hyb
        have e : x' = x := by
          exact lit_inj (hxa'.symm.trans hxa)
        rw [← e]
        exact hx'
      obtain ⟨r, hr⟩ : ∃ r : Bool, r = decide (0 ≤ Lq.look l v y) := ⟨_, rfl⟩
      have HRR : Hid (r = decide (0 ≤ Lq.look l v y)) := hr
      have HXE : Hid (0 ≤ Lq.look l v y → x = Lq.look l v y) := hxe
      rw [← hr] at HX
      clear hx hxe hxa hr hy hlook HF
      go_wp2_with fail
      refine wp_region_told (S := (fun wy => ∃ m, wy = wr.drewN m)) 15 40 [.is (.pointer (some ⟨B, 0, none⟩)), .is (.pointer (some ⟨B, 0, none⟩)), .is (.pointer (some ⟨B, 2, none⟩)), .is (.map (some mb)), .is (.int .i64 (v : Int)), .is (.string u), .is (.int .i64 (k : Int)), .is (.int .u8 (y : Int)), .is (pairV v y), .is (.tuple #[.int .i64 x, .bool r]), .is (.tuple #[.int .i64 x, .bool r]), .is (.int .i64 x), .is (.bool r), .is (.int .i64 x), .is (.bool r)] (by kernel_rfl) (by kernel_rfl) (by rfl) (fun _ _ _ _ hd h => ⟨hd.trans h.1, h.2⟩) (fun vs => by simp only [puts, List.getElem?_toArray, List.getElem?_cons_succ, List.getElem?_cons_zero, Option.bind_some, Act.put, List.setIfInBounds_toArray, List.set_cons_zero, List.set_cons_succ]; exact rfl) ⟨1, rfl⟩ ?_ ?_
      · refine TellsFrom.cons rfl (fun vs wz hS hd K hK => ?_) ?_
        · try dsimp only at hK ⊢
          try simp only [List.getElem_toArray, List.getElem_cons_succ, List.getElem_cons_zero, Act.put, List.setIfInBounds_toArray, List.set_cons_zero, List.set_cons_succ]
          obtain ⟨mz, hmz⟩ := hS
          subst hmz
          have s2 := HMR.out.1.cell 2
          simp at s2
          go_simp
          exact hK.out _ _ ⟨mz, rfl⟩ (Below.refl _ _) rfl
        refine TellsFrom.cons rfl (fun vs wz hS hd K hK => ?_) ?_
        · try dsimp only at hK ⊢
          have h0 : vs 0 = (.pointer (some ⟨B, 0, none⟩)) := hd 0 (by kernel_rfl)
          generalize vs 0 = x0 at *
          subst h0
          try simp only [List.getElem_toArray, List.getElem_cons_succ, List.getElem_cons_zero, Act.put, List.setIfInBounds_toArray, List.set_cons_zero, List.set_cons_succ]
          obtain ⟨mz, hmz⟩ := hS
          subst hmz
          have s2 := HMR.out.1.cell 2
          simp at s2
          go_simp
          exact hK.out _ _ ⟨mz, rfl⟩ (Below.refl _ _) rfl
        refine TellsFrom.cons rfl (fun vs wz hS hd K hK => ?_) ?_
        · try dsimp only at hK ⊢
          have h1 : vs 1 = (.pointer (some ⟨B, 0, none⟩)) := hd 1 (by kernel_rfl)
          generalize vs 1 = x1 at *
          subst h1
          try simp only [List.getElem_toArray, List.getElem_cons_succ, List.getElem_cons_zero, Act.put, List.setIfInBounds_toArray, List.set_cons_zero, List.set_cons_succ]
          obtain ⟨mz, hmz⟩ := hS
          subst hmz
          have s2 := HMR.out.1.cell 2
          simp at s2
          go_simp
          exact hK.out _ _ ⟨mz, rfl⟩ (Below.refl _ _) rfl
        refine TellsFrom.cons rfl (fun vs wz hS hd K hK => ?_) ?_
        · try dsimp only at hK ⊢
          have h2 : vs 2 = (.pointer (some ⟨B, 2, none⟩)) := hd 2 (by kernel_rfl)
          generalize vs 2 = x2 at *
          subst h2
          try simp only [List.getElem_toArray, List.getElem_cons_succ, List.getElem_cons_zero, Act.put, List.setIfInBounds_toArray, List.set_cons_zero, List.set_cons_succ]
          obtain ⟨mz, hmz⟩ := hS
          subst hmz
          have s2 := HMR.out.1.cell 2
          simp at s2
          go_simp
          exact hK.out _ _ ⟨mz, rfl⟩ (Below.refl _ _) rfl
        refine TellsFrom.cons rfl (fun vs wz hS hd K hK => ?_) ?_
        · try dsimp only at hK ⊢
          try simp only [List.getElem_toArray, List.getElem_cons_succ, List.getElem_cons_zero, Act.put, List.setIfInBounds_toArray, List.set_cons_zero, List.set_cons_succ]
          obtain ⟨mz, hmz⟩ := hS
          subst hmz
          have s2 := HMR.out.1.cell 2
          simp at s2
          go_simp
          exact hK.out _ _ ⟨mz, rfl⟩ (Below.refl _ _) rfl
        refine TellsFrom.cons rfl (fun vs wz hS hd K hK => ?_) ?_
        · try dsimp only at hK ⊢
          try simp only [List.getElem_toArray, List.getElem_cons_succ, List.getElem_cons_zero, Act.put, List.setIfInBounds_toArray, List.set_cons_zero, List.set_cons_succ]
          obtain ⟨mz, hmz⟩ := hS
          subst hmz
          have s2 := HMR.out.1.cell 2
          simp at s2
          go_simp
          exact hK.out _ _ ⟨mz, rfl⟩ (Below.refl _ _) rfl
        refine TellsFrom.cons rfl (fun vs wz hS hd K hK => ?_) ?_
        · try dsimp only at hK ⊢
          try simp only [List.getElem_toArray, List.getElem_cons_succ, List.getElem_cons_zero, Act.put, List.setIfInBounds_toArray, List.set_cons_zero, List.set_cons_succ]
          obtain ⟨mz, hmz⟩ := hS
          subst hmz
          have s2 := HMR.out.1.cell 2
          simp at s2
          go_simp
          exact hK.out _ _ ⟨mz, rfl⟩ (Below.refl _ _) rfl
        refine TellsFrom.cons rfl (fun vs wz hS hd K hK => ?_) ?_
        · try dsimp only at hK ⊢
          have h5 : vs 5 = (.string u) := hd 5 (by kernel_rfl)
          generalize vs 5 = x5 at *
          subst h5
          have h6 : vs 6 = (.int .i64 (k : Int)) := hd 6 (by kernel_rfl)
          generalize vs 6 = x6 at *
          subst h6
          try simp only [List.getElem_toArray, List.getElem_cons_succ, List.getElem_cons_zero, Act.put, List.setIfInBounds_toArray, List.set_cons_zero, List.set_cons_succ]
          obtain ⟨mz, hmz⟩ := hS
          subst hmz
          have s2 := HMR.out.1.cell 2
          simp at s2
          go_simp
          exact hK.out _ _ ⟨mz, rfl⟩ (Below.refl _ _) rfl
        refine TellsFrom.cons rfl (fun vs wz hS hd K hK => ?_) ?_
        · try dsimp only at hK ⊢
          have h4 : vs 4 = (.int .i64 (v : Int)) := hd 4 (by kernel_rfl)
          generalize vs 4 = x4 at *
          subst h4
          have h7 : vs 7 = (.int .u8 (y : Int)) := hd 7 (by kernel_rfl)
          generalize vs 7 = x7 at *
          subst h7
          try simp only [List.getElem_toArray, List.getElem_cons_succ, List.getElem_cons_zero, Act.put, List.setIfInBounds_toArray, List.set_cons_zero, List.set_cons_succ]
          obtain ⟨mz, hmz⟩ := hS
          subst hmz
          have s2 := HMR.out.1.cell 2
          simp at s2
          go_simp
          exact hK.out _ _ ⟨mz, rfl⟩ (Below.refl _ _) rfl
        refine TellsFrom.cons rfl (fun vs wz hS hd K hK => ?_) ?_
        · try dsimp only at hK ⊢
          have h3 : vs 3 = (.map (some mb)) := hd 3 (by kernel_rfl)
          generalize vs 3 = x3 at *
          subst h3
          have h8 : vs 8 = (pairV v y) := hd 8 (by kernel_rfl)
          generalize vs 8 = x8 at *
          subst h8
          try simp only [List.getElem_toArray, List.getElem_cons_succ, List.getElem_cons_zero, Act.put, List.setIfInBounds_toArray, List.set_cons_zero, List.set_cons_succ]
          obtain ⟨mz, hmz⟩ := hS
          subst hmz
          have s2 := HMR.out.1.cell 2
          simp at s2
          have hx := HX.out mz
          go_simp
          exact hK.out _ _ ⟨mz, rfl⟩ (Below.refl _ _) rfl
        refine TellsFrom.cons rfl (fun vs wz hS hd K hK => ?_) ?_
        · try dsimp only at hK ⊢
          have h9 : vs 9 = (.tuple #[.int .i64 x, .bool r]) := hd 9 (by kernel_rfl)
          generalize vs 9 = x9 at *
          subst h9
          try simp only [List.getElem_toArray, List.getElem_cons_succ, List.getElem_cons_zero, Act.put, List.setIfInBounds_toArray, List.set_cons_zero, List.set_cons_succ]
          obtain ⟨mz, hmz⟩ := hS
          subst hmz
          have s2 := HMR.out.1.cell 2
          simp at s2
          go_simp
          exact hK.out _ _ ⟨mz, rfl⟩ (Below.refl _ _) rfl
        refine TellsFrom.cons rfl (fun vs wz hS hd K hK => ?_) ?_
        · try dsimp only at hK ⊢
          have h10 : vs 10 = (.tuple #[.int .i64 x, .bool r]) := hd 10 (by kernel_rfl)
          generalize vs 10 = x10 at *
          subst h10
          try simp only [List.getElem_toArray, List.getElem_cons_succ, List.getElem_cons_zero, Act.put, List.setIfInBounds_toArray, List.set_cons_zero, List.set_cons_succ]
          obtain ⟨mz, hmz⟩ := hS
          subst hmz
          have s2 := HMR.out.1.cell 2
          simp at s2
          go_simp
          exact hK.out _ _ ⟨mz, rfl⟩ (Below.refl _ _) rfl
        refine TellsFrom.cons rfl (fun vs wz hS hd K hK => ?_) ?_
        · try dsimp only at hK ⊢
          have h10 : vs 10 = (.tuple #[.int .i64 x, .bool r]) := hd 10 (by kernel_rfl)
          generalize vs 10 = x10 at *
          subst h10
          try simp only [List.getElem_toArray, List.getElem_cons_succ, List.getElem_cons_zero, Act.put, List.setIfInBounds_toArray, List.set_cons_zero, List.set_cons_succ]
          obtain ⟨mz, hmz⟩ := hS
          subst hmz
          have s2 := HMR.out.1.cell 2
          simp at s2
          go_simp
          exact hK.out _ _ ⟨mz, rfl⟩ (Below.refl _ _) rfl
        refine TellsFrom.cons rfl (fun vs wz hS hd K hK => ?_) ?_
        · try dsimp only at hK ⊢
          have h11 : vs 11 = (.int .i64 x) := hd 11 (by kernel_rfl)
          generalize vs 11 = x11 at *
          subst h11
          try simp only [List.getElem_toArray, List.getElem_cons_succ, List.getElem_cons_zero, Act.put, List.setIfInBounds_toArray, List.set_cons_zero, List.set_cons_succ]
          obtain ⟨mz, hmz⟩ := hS
          subst hmz
          have s2 := HMR.out.1.cell 2
          simp at s2
          go_simp
          exact hK.out _ _ ⟨mz, rfl⟩ (Below.refl _ _) rfl
        refine TellsFrom.cons rfl (fun vs wz hS hd K hK => ?_) ?_
        · try dsimp only at hK ⊢
          have h12 : vs 12 = (.bool r) := hd 12 (by kernel_rfl)
          generalize vs 12 = x12 at *
          subst h12
          try simp only [List.getElem_toArray, List.getElem_cons_succ, List.getElem_cons_zero, Act.put, List.setIfInBounds_toArray, List.set_cons_zero, List.set_cons_succ]
          obtain ⟨mz, hmz⟩ := hS
          subst hmz
          have s2 := HMR.out.1.cell 2
          simp at s2
          go_simp
          exact hK.out _ _ ⟨mz, rfl⟩ (Below.refl _ _) rfl
        exact TellsFrom.nil
      · intro vs wz hS hd
        try dsimp only
        have h13 : vs 13 = .int .i64 x := hd 13 (by omega)
        have h14 : vs 14 = .bool r := hd 14 (by omega)
        clear hd
        generalize vs 0 = y0 at *
        generalize vs 1 = y1 at *
        generalize vs 2 = y2 at *
        generalize vs 3 = y3 at *
        generalize vs 4 = y4 at *
        generalize vs 5 = y5 at *
        generalize vs 6 = y6 at *
        generalize vs 7 = y7 at *
        generalize vs 8 = y8 at *
        generalize vs 9 = y9 at *
        generalize vs 10 = y10 at *
        generalize vs 11 = y11 at *
        generalize vs 12 = y12 at *
        generalize vs 13 = y13 at *
        generalize vs 14 = y14 at *
        subst h13
        subst h14
        obtain ⟨mz, hmz⟩ := hS
        subst hmz
        refine wpAnyH_done (by kernel_rfl) ?_ _
        try simp only [List.getElem_toArray, List.getElem_cons_succ, List.getElem_cons_zero, Act.put, List.setIfInBounds_toArray, List.set_cons_zero, List.set_cons_succ]
        have HW2 : Hid (∃ m, wr.drewN mz = w.drewN m) := by
          obtain ⟨m, rfl⟩ := HW.out
          exact ⟨_, World.drewN_drewN _ _ _⟩
        cases hrc : r with
        | true =>
          have hl0 : 0 ≤ Lq.look l v y := by have := HRR.out; rw [hrc] at this; exact of_decide_eq_true this.symm
          obtain ⟨v2, hv2⟩ := Int.eq_ofNat_of_zero_le hl0
          have hxv : x = (v2 : Int) := (HXE.out hl0).trans hv2
          subst hxv
          have HA2 : Hid (LongAt l u (k + 1) v2) := by
            have hn : Lp.num l (u.extract 0 (k + 1)) = (v2 : Int) := HLK.out.symm.trans hv2
            refine ⟨by omega, by omega, fun j h1 h2 => ?_, hn⟩
            by_cases hj : j ≤ k
            · exact HA.out.2.2.1 j h1 hj
            · have : j = k + 1 := by omega
              subst this
              rw [hn]; omega
          subst hrc
          clear HRR HXE HLK hv2 hl0 HX HMR
          go_wp2_with fail
          go_roundw
          case rel => exact ⟨k + 1, v2, rfl, by go_num, HA2, HW2⟩
          case measure => simp [intOf]; omega
        | false =>
          have hl0 : Lp.num l (u.extract 0 (k + 1)) < 0 := by
            have := HRR.out
            rw [hrc] at this
            have h2 := of_decide_eq_false this.symm
            rw [HLK.out] at h2
            omega
          have HF2 : Hid (LongOut l u w (.returned (.tuple #[.int .i64 (v : Int), .int .i64 (k : Int)])) (wr.drewN mz)) := ⟨v, k, rfl, hk1, hk2, HA.out.2.2.1, HA.out.2.2.2, .inr ⟨hlt, hl0⟩, HW2.out⟩
          subst hrc
          clear HRR HXE HLK hl0 HX HMR
          go_wp2_with fail
          go_ret2
          exact HF2.out
    · have HF2 : Hid (LongOut l u w (.returned (.tuple #[.int .i64 (v : Int), .int .i64 (u.size : Int)])) wr) := by
        have e : k = u.size := by omega
        have := HF.out e
        rw [← e]
        exact this
      have hki : ¬ (k : Int) < (u.size : Int) := by omega
      clear HF HM
      go_wp2_with fail
      go_ret2
      exact HF2.out
end Go.Proofs.Ytjfihmpnbblomaa

/- The writer of LZW: learn. -/
namespace Go.Proofs.Ytjfihmpnbblomaa
open Go.RowKit Go.Maps

set_option maxHeartbeats 400000 in
theorem lzFull_any (b : Int) (wide : Bool) (w : World) : Calls Try.prog 60 #[.agg #[.int .i64 b, .bool wide]] w fun e w' => e = .returned (.int .i64 (Lp.full wide : Int)) ∧ Below w.heap.size w w' := by
  have hB0 : Below w.heap.size w (w.alloc (.cells #[.int .i64 b, .bool wide] 50)) := (Below.refl _ _).alloc (Nat.le_refl _) _
  cases wide
  all_goals
    go_enter Try.func60, Try.ntmps60
    go_wp2_with fail
    go_ret
    exact ⟨rfl, hB0⟩

/-- the map's block is no row's -/
theorem map_apart {w : World} {k e : TypeId} {R : Value → Option (DataW Unit × List MemPlace)} {mb N lo n z : Nat} {D : DataW Unit} {v : Value} {l : List Value} (hm : w.ownsMap Try.prog k R mb N D) (ho : w.ownsRow lo e z v n l) : v.ownBlock ≠ some mb := fun hk => by
  obtain ⟨es, cl, hb, -⟩ := hm
  rcases ho.2 with ⟨rfl, _⟩ | ⟨g, cap, cur, rfl, _, hg, _⟩
  · cases hk
  · have e : g = mb := by cases hk; rfl
    subst e
    rw [hb] at hg
    cases hg
theorem map_writer {w : World} {k : TypeId} {R : Value → Option (DataW Unit × List MemPlace)} {mb N B b since : Nat} {D : DataW Unit} {wide : Bool} {mv ov : Value} (hm : w.ownsMap Try.prog k R mb N D) (h : Wr w B b wide mv since ov) : mb ≠ B := fun e => by
  obtain ⟨es, cl, hb, -⟩ := hm
  subst e
  rw [show w.heap[mb]? = _ from h] at hb
  cases hb
theorem map_same {w w' : World} {k : TypeId} {R : Value → Option (DataW Unit × List MemPlace)} {mb N : Nat} {D : DataW Unit} (hm : w.ownsMap Try.prog k R mb N D) (hb : w'.heap[mb]? = w.heap[mb]?) : w'.ownsMap Try.prog k R mb N D := by
  obtain ⟨es, cl, h1, h2⟩ := hm
  exact ⟨es, cl, hb.trans h1, h2⟩
abbrev MapAt (w : World) (mb N : Nat) (D : DataW Unit) : Prop := w.ownsMap Try.prog 69 (plainElem Try.prog 3) mb N D

/-- what learn leaves: a text more is known -/
def LrAdd (B b since n lo mb N : Nat) (wide : Bool) (ov : Value) (l2 : List ByteArray) (out : List (Int × Int)) (w w' : World) : Prop :=
  ∃ D2, Wr w' B b wide (.map (some mb)) since ov ∧ OwnP w' lo ov n out ∧ MapAt w' mb (N + 1) D2 ∧ TabIs D2 b l2 ∧ Below lo w w'
/-- what learn leaves: all is forgotten -/
def LrFull (B b n lo : Nat) (wide : Bool) (out : List (Int × Int)) (w w' : World) : Prop :=
  ∃ g cap mb', Wr w' B b wide (.map (some mb')) 0 (.slice (some ⟨g, 0, none⟩) (n + 1) cap) ∧ OwnP w' lo (.slice (some ⟨g, 0, none⟩) (n + 1) cap) (n + 1) out ∧ MapAt w' mb' 0 (.map []) ∧ lo ≤ mb' ∧ Below lo w w'
/-- the state told while a region runs -/
def WrM (w : World) (B b : Nat) (wide : Bool) (since : Nat) (ov : Value) (pb v c mb N : Nat) (D : DataW Unit) (wy : World) : Prop :=
  Wr wy B b wide (.map (some mb)) since ov ∧ MapAt wy mb N D ∧ Below w.heap.size w wy ∧ wy.cell? ⟨pb, 0, none⟩ = some (.int .i64 (v : Int)) ∧ wy.cell? ⟨pb, 1, none⟩ = some (.int .u8 (c : Int))
theorem WrM.kept {w wy wz : World} {B b since pb v c mb N : Nat} {wide : Bool} {ov : Value} {D : DataW Unit} (h : WrM w B b wide since ov pb v c mb N D wy) (hb : Below wy.heap.size wy wz) : WrM w B b wide since ov pb v c mb N D wz :=
  ⟨h.1.same (hb.block _ h.1.lt), map_same h.2.1 (hb.block _ h.2.1.lt), h.2.2.1.trans (hb.mono h.2.2.1.size), (hb.cell (p := ⟨pb, 0, none⟩) (World.block_lt_of_cell? wy _ h.2.2.2.1)).trans h.2.2.2.1, (hb.cell (p := ⟨pb, 1, none⟩) (World.block_lt_of_cell? wy _ h.2.2.2.2)).trans h.2.2.2.2⟩

set_option linter.unusedSimpArgs false in
set_option linter.unusedVariables false in
set_option maxHeartbeats 4000000 in
set_option maxRecDepth 20000 in
theorem wrLearn_add (B b since n lo mb N v c : Nat) (wide : Bool) (ov : Value) (D : DataW Unit) (l : List ByteArray) (z : ByteArray) (out : List (Int × Int)) (w : World) (hb : b ≤ 8) (h : Wr w B b wide (.map (some mb)) since ov) (ho : OwnP w lo ov n out) (hm : MapAt w mb N D) (tb : TabIs D b l) (g : Lq.Inv b l) (hlB : lo ≤ B) (hlm : lo ≤ mb) (hn : n ≤ 100000) (hN : N ≤ 5000)
    (hv : Lp.num l z = (v : Int)) (hz : z.size = 1 → Lp.byte z < 2 ^ b) (hz1 : 1 ≤ z.size) (hf : Lp.find l (z ++ Lz.one c) < 0) (hc : c < 256) (hfull : l.length + 1 < Lp.full wide) :
    Calls Try.prog 41 #[.pointer (some ⟨B, 0, none⟩), .agg #[.int .i64 (v : Int), .int .u8 (c : Int)]] w fun e w' => e = .returned (.tuple #[]) ∧ LrAdd B b since n lo mb N wide ov (l ++ [z ++ Lz.one c]) out w w' := by
  have hpw := Lz.pow_le hb
  have hfb := Lp.full_bd wide
  have HFI : Hid (∀ w', Calls Try.prog 58 #[.agg #[.int .i64 (b : Int), .bool wide]] w' fun e w'' => e = .returned (.int .i64 ((2 ^ b + 2 : Nat) : Int)) ∧ Below w'.heap.size w' w'') := fun w' => lzFirst_any b hb wide w'
  have HFU : Hid (∀ w', Calls Try.prog 60 #[.agg #[.int .i64 (b : Int), .bool wide]] w' fun e w'' => e = .returned (.int .i64 (Lp.full wide : Int)) ∧ Below w'.heap.size w' w'') := fun w' => lzFull_any b wide w'
  obtain ⟨hvl, -⟩ := Lq.at_num g hv hz
  have htsz := tb.size_
  obtain ⟨F, hF⟩ : ∃ F : Nat, F = 2 ^ b + 2 := ⟨_, rfl⟩
  rw [← hF] at HFI htsz
  obtain ⟨U, hU⟩ : ∃ U : Nat, U = Lp.full wide := ⟨_, rfl⟩
  rw [← hU] at HFU hfb
  obtain ⟨S0, hS0⟩ : ∃ S0 : Nat, S0 = size D := ⟨_, rfl⟩
  rw [← hS0] at htsz
  obtain ⟨L, hL⟩ : ∃ L : Nat, L = l.length := ⟨_, rfl⟩
  have eA : (F : Int) + (S0 : Int) = (L : Int) := by omega
  have hLb : L ≤ 4095 := by omega
  have wA : IntKind.i64.wrap (L : Int) = (L : Int) := wrap_i64_nat L (by omega)
  have hLF : L + 1 < U := by omega
  have HLEN : Hid (∀ wy : World, MapAt wy mb N D → (Builtin.len_ #[60] 3 #[.map (some mb)]).run Try.prog wy = .ok (.int .i64 (S0 : Int)) wy) := fun wy hm => by rw [hS0]; exact hm.len Try.underlying60 _
  have hlk : Lq.look l v c < 0 := by rw [Lq.look_num c g hv hz hz1, Lp.num_two rfl hz1]; exact hf
  have HUP : Hid (∀ wy : World, MapAt wy mb N D → ∃ w', (Instr.mapUpdate 60 (.map (some mb)) (pairV v c) (.int .i64 (L : Int))).run Try.prog wy = .ok () w' ∧ (∃ D', MapAt w' mb (N + 1) D' ∧ TabIs D' b (l ++ [z ++ Lz.one c]) ∧ size D' = S0 + 1) ∧ wy.grownBy w' (some mb)) := fun wy hmy => by
    obtain ⟨w', h1, h2, h3⟩ := hmy.update key_pair Try.underlying60 (by unfold maxLen; omega) (pairKey_of v c (by omega) hc) (plainElem_int (H := Unit) Try.underlying3 (WalkArith.wf_i64 (n := (L : Int)) (by omega)))
    have ht := tb.more (hmy.tidy key_pair) g hv hz hz1 hf hc (by omega)
    rw [← hL] at ht
    refine ⟨w', h1, ⟨_, h2, ht, ?_⟩, h3⟩
    have := ht.size_
    rw [List.length_append, ← hL, ← hF] at this
    simp at this
    omega
  have hBm := map_writer hm h
  have hoB := h.apart ho (by decide)
  have hom := map_apart hm ho
  have hBlt := h.lt
  have HO : Hid (OwnP w lo ov n out) := ho
  have hlw : lo ≤ w.heap.size := by omega
  have HST : Hid (WrM w B b wide since ov w.heap.size v c mb N D (w.alloc (.cells #[.int .i64 (v : Int), .int .u8 (c : Int)] 69)) ∧ OwnP (w.alloc (.cells #[.int .i64 (v : Int), .int .u8 (c : Int)] 69)) lo ov n out) := by
    have hba : Below w.heap.size w (w.alloc (.cells #[.int .i64 (v : Int), .int .u8 (c : Int)] 69)) := (Below.refl _ _).alloc (Nat.le_refl _) _
    exact ⟨⟨h.same (hba.block _ h.lt), hm.alloc _, hba, by simp, by simp⟩, World.ownsRow.alloc (show World.ownsRow _ _ _ _ _ _ _ from ho) _⟩
  clear h ho hm tb hv hz hf hlk hvl hS0 hU g hF hL htsz
  go_enter Try.func41, Try.ntmps41
  go_wp2_with fail
  obtain ⟨w1, hw1⟩ : ∃ w1, w1 = w.alloc (.cells #[.int .i64 (v : Int), .int .u8 (c : Int)] 69) := ⟨_, rfl⟩
  rw [← hw1] at HST ⊢
  clear hw1
  have hpb : w.heap.size ≠ B := by omega
  refine wp_region_told (S := (fun wy => WrM w B b wide since ov w.heap.size v c mb N D wy)) 16 39 [.is (.pointer (some ⟨B, 0, none⟩)), .is (.pointer (some ⟨B, 0, none⟩)), .is (.pointer (some ⟨B, 2, none⟩)), .is (.map (some mb)), .is (pairV v c), .is (.pointer (some ⟨B, 0, none⟩)), .is (.pointer (some ⟨B, 0, none⟩)), .is (.pointer (some ⟨B, 0, none⟩)), .is (.agg #[.int .i64 (b : Int), .bool wide]), .is (.int .i64 (F : Int)), .is (.pointer (some ⟨B, 0, none⟩)), .is (.pointer (some ⟨B, 0, none⟩)), .is (.pointer (some ⟨B, 2, none⟩)), .is (.map (some mb)), .is (.int .i64 (S0 : Int)), .is (.int .i64 (L : Int))] (by kernel_rfl) (by kernel_rfl) (by rfl) (fun _ _ _ _ hd h => ⟨hd.trans h.1, h.2⟩) (fun vs => by simp only [puts, List.getElem?_toArray, List.getElem?_cons_succ, List.getElem?_cons_zero, Option.bind_some, Act.put, List.setIfInBounds_toArray, List.set_cons_zero, List.set_cons_succ]; exact rfl) (HST.out.1.kept (Below.refl _ _).drew) ?_ ?_
  · refine TellsFrom.cons rfl (fun vs wz hS hd K hK => ?_) ?_
    · try dsimp only at hK ⊢
      try simp only [List.getElem_toArray, List.getElem_cons_succ, List.getElem_cons_zero, Act.put, List.setIfInBounds_toArray, List.set_cons_zero, List.set_cons_succ]
      have s0 := hS.1.cell 0
      have s1 := hS.1.cell 1
      have s2 := hS.1.cell 2
      have p0 := hS.2.2.2.1
      have p1 := hS.2.2.2.2
      have hlenm := HLEN.out _ hS.2.1
      simp at s0 s1 s2
      go_simp
      exact hK.out _ _ hS (Below.refl _ _) rfl
    refine TellsFrom.cons rfl (fun vs wz hS hd K hK => ?_) ?_
    · try dsimp only at hK ⊢
      have h0 : vs 0 = (.pointer (some ⟨B, 0, none⟩)) := hd 0 (by kernel_rfl)
      generalize vs 0 = x0 at *
      subst h0
      try simp only [List.getElem_toArray, List.getElem_cons_succ, List.getElem_cons_zero, Act.put, List.setIfInBounds_toArray, List.set_cons_zero, List.set_cons_succ]
      have s0 := hS.1.cell 0
      have s1 := hS.1.cell 1
      have s2 := hS.1.cell 2
      have p0 := hS.2.2.2.1
      have p1 := hS.2.2.2.2
      have hlenm := HLEN.out _ hS.2.1
      simp at s0 s1 s2
      go_simp
      exact hK.out _ _ hS (Below.refl _ _) rfl
    refine TellsFrom.cons rfl (fun vs wz hS hd K hK => ?_) ?_
    · try dsimp only at hK ⊢
      have h1 : vs 1 = (.pointer (some ⟨B, 0, none⟩)) := hd 1 (by kernel_rfl)
      generalize vs 1 = x1 at *
      subst h1
      try simp only [List.getElem_toArray, List.getElem_cons_succ, List.getElem_cons_zero, Act.put, List.setIfInBounds_toArray, List.set_cons_zero, List.set_cons_succ]
      have s0 := hS.1.cell 0
      have s1 := hS.1.cell 1
      have s2 := hS.1.cell 2
      have p0 := hS.2.2.2.1
      have p1 := hS.2.2.2.2
      have hlenm := HLEN.out _ hS.2.1
      simp at s0 s1 s2
      go_simp
      exact hK.out _ _ hS (Below.refl _ _) rfl
    refine TellsFrom.cons rfl (fun vs wz hS hd K hK => ?_) ?_
    · try dsimp only at hK ⊢
      have h2 : vs 2 = (.pointer (some ⟨B, 2, none⟩)) := hd 2 (by kernel_rfl)
      generalize vs 2 = x2 at *
      subst h2
      try simp only [List.getElem_toArray, List.getElem_cons_succ, List.getElem_cons_zero, Act.put, List.setIfInBounds_toArray, List.set_cons_zero, List.set_cons_succ]
      have s0 := hS.1.cell 0
      have s1 := hS.1.cell 1
      have s2 := hS.1.cell 2
      have p0 := hS.2.2.2.1
      have p1 := hS.2.2.2.2
      have hlenm := HLEN.out _ hS.2.1
      simp at s0 s1 s2
      go_simp
      exact hK.out _ _ hS (Below.refl _ _) rfl
    refine TellsFrom.cons rfl (fun vs wz hS hd K hK => ?_) ?_
    · try dsimp only at hK ⊢
      try simp only [List.getElem_toArray, List.getElem_cons_succ, List.getElem_cons_zero, Act.put, List.setIfInBounds_toArray, List.set_cons_zero, List.set_cons_succ]
      have s0 := hS.1.cell 0
      have s1 := hS.1.cell 1
      have s2 := hS.1.cell 2
      have p0 := hS.2.2.2.1
      have p1 := hS.2.2.2.2
      have hlenm := HLEN.out _ hS.2.1
      simp at s0 s1 s2
      go_simp
      exact hK.out _ _ hS (Below.refl _ _) rfl
    refine TellsFrom.cons rfl (fun vs wz hS hd K hK => ?_) ?_
    · try dsimp only at hK ⊢
      try simp only [List.getElem_toArray, List.getElem_cons_succ, List.getElem_cons_zero, Act.put, List.setIfInBounds_toArray, List.set_cons_zero, List.set_cons_succ]
      have s0 := hS.1.cell 0
      have s1 := hS.1.cell 1
      have s2 := hS.1.cell 2
      have p0 := hS.2.2.2.1
      have p1 := hS.2.2.2.2
      have hlenm := HLEN.out _ hS.2.1
      simp at s0 s1 s2
      go_simp
      exact hK.out _ _ hS (Below.refl _ _) rfl
    refine TellsFrom.cons rfl (fun vs wz hS hd K hK => ?_) ?_
    · try dsimp only at hK ⊢
      have h5 : vs 5 = (.pointer (some ⟨B, 0, none⟩)) := hd 5 (by kernel_rfl)
      generalize vs 5 = x5 at *
      subst h5
      try simp only [List.getElem_toArray, List.getElem_cons_succ, List.getElem_cons_zero, Act.put, List.setIfInBounds_toArray, List.set_cons_zero, List.set_cons_succ]
      have s0 := hS.1.cell 0
      have s1 := hS.1.cell 1
      have s2 := hS.1.cell 2
      have p0 := hS.2.2.2.1
      have p1 := hS.2.2.2.2
      have hlenm := HLEN.out _ hS.2.1
      simp at s0 s1 s2
      go_simp
      exact hK.out _ _ hS (Below.refl _ _) rfl
    refine TellsFrom.cons rfl (fun vs wz hS hd K hK => ?_) ?_
    · try dsimp only at hK ⊢
      have h6 : vs 6 = (.pointer (some ⟨B, 0, none⟩)) := hd 6 (by kernel_rfl)
      generalize vs 6 = x6 at *
      subst h6
      try simp only [List.getElem_toArray, List.getElem_cons_succ, List.getElem_cons_zero, Act.put, List.setIfInBounds_toArray, List.set_cons_zero, List.set_cons_succ]
      have s0 := hS.1.cell 0
      have s1 := hS.1.cell 1
      have s2 := hS.1.cell 2
      have p0 := hS.2.2.2.1
      have p1 := hS.2.2.2.2
      have hlenm := HLEN.out _ hS.2.1
      simp at s0 s1 s2
      go_simp
      exact hK.out _ _ hS (Below.refl _ _) rfl
    refine TellsFrom.cons rfl (fun vs wz hS hd K hK => ?_) ?_
    · try dsimp only at hK ⊢
      have h7 : vs 7 = (.pointer (some ⟨B, 0, none⟩)) := hd 7 (by kernel_rfl)
      generalize vs 7 = x7 at *
      subst h7
      try simp only [List.getElem_toArray, List.getElem_cons_succ, List.getElem_cons_zero, Act.put, List.setIfInBounds_toArray, List.set_cons_zero, List.set_cons_succ]
      have s0 := hS.1.cell 0
      have s1 := hS.1.cell 1
      have s2 := hS.1.cell 2
      have p0 := hS.2.2.2.1
      have p1 := hS.2.2.2.2
      have hlenm := HLEN.out _ hS.2.1
      simp at s0 s1 s2
      go_simp
      exact hK.out _ _ hS (Below.refl _ _) rfl
    refine TellsFrom.cons rfl (fun vs wz hS hd K hK => ?_) ?_
    · try dsimp only at hK ⊢
      have h8 : vs 8 = (.agg #[.int .i64 (b : Int), .bool wide]) := hd 8 (by kernel_rfl)
      generalize vs 8 = x8 at *
      subst h8
      try simp only [List.getElem_toArray, List.getElem_cons_succ, List.getElem_cons_zero, Act.put, List.setIfInBounds_toArray, List.set_cons_zero, List.set_cons_succ]
      go_simp
      refine (HFI.out _).mono ?_
      rintro e v1 ⟨rfl, b1⟩
      exact hK.out _ _ (hS.kept b1) b1 rfl
    refine TellsFrom.cons rfl (fun vs wz hS hd K hK => ?_) ?_
    · try dsimp only at hK ⊢
      try simp only [List.getElem_toArray, List.getElem_cons_succ, List.getElem_cons_zero, Act.put, List.setIfInBounds_toArray, List.set_cons_zero, List.set_cons_succ]
      have s0 := hS.1.cell 0
      have s1 := hS.1.cell 1
      have s2 := hS.1.cell 2
      have p0 := hS.2.2.2.1
      have p1 := hS.2.2.2.2
      have hlenm := HLEN.out _ hS.2.1
      simp at s0 s1 s2
      go_simp
      exact hK.out _ _ hS (Below.refl _ _) rfl
    refine TellsFrom.cons rfl (fun vs wz hS hd K hK => ?_) ?_
    · try dsimp only at hK ⊢
      have h10 : vs 10 = (.pointer (some ⟨B, 0, none⟩)) := hd 10 (by kernel_rfl)
      generalize vs 10 = x10 at *
      subst h10
      try simp only [List.getElem_toArray, List.getElem_cons_succ, List.getElem_cons_zero, Act.put, List.setIfInBounds_toArray, List.set_cons_zero, List.set_cons_succ]
      have s0 := hS.1.cell 0
      have s1 := hS.1.cell 1
      have s2 := hS.1.cell 2
      have p0 := hS.2.2.2.1
      have p1 := hS.2.2.2.2
      have hlenm := HLEN.out _ hS.2.1
      simp at s0 s1 s2
      go_simp
      exact hK.out _ _ hS (Below.refl _ _) rfl
    refine TellsFrom.cons rfl (fun vs wz hS hd K hK => ?_) ?_
    · try dsimp only at hK ⊢
      have h11 : vs 11 = (.pointer (some ⟨B, 0, none⟩)) := hd 11 (by kernel_rfl)
      generalize vs 11 = x11 at *
      subst h11
      try simp only [List.getElem_toArray, List.getElem_cons_succ, List.getElem_cons_zero, Act.put, List.setIfInBounds_toArray, List.set_cons_zero, List.set_cons_succ]
      have s0 := hS.1.cell 0
      have s1 := hS.1.cell 1
      have s2 := hS.1.cell 2
      have p0 := hS.2.2.2.1
      have p1 := hS.2.2.2.2
      have hlenm := HLEN.out _ hS.2.1
      simp at s0 s1 s2
      go_simp
      exact hK.out _ _ hS (Below.refl _ _) rfl
    refine TellsFrom.cons rfl (fun vs wz hS hd K hK => ?_) ?_
    · try dsimp only at hK ⊢
      have h12 : vs 12 = (.pointer (some ⟨B, 2, none⟩)) := hd 12 (by kernel_rfl)
      generalize vs 12 = x12 at *
      subst h12
      try simp only [List.getElem_toArray, List.getElem_cons_succ, List.getElem_cons_zero, Act.put, List.setIfInBounds_toArray, List.set_cons_zero, List.set_cons_succ]
      have s0 := hS.1.cell 0
      have s1 := hS.1.cell 1
      have s2 := hS.1.cell 2
      have p0 := hS.2.2.2.1
      have p1 := hS.2.2.2.2
      have hlenm := HLEN.out _ hS.2.1
      simp at s0 s1 s2
      go_simp
      exact hK.out _ _ hS (Below.refl _ _) rfl
    refine TellsFrom.cons rfl (fun vs wz hS hd K hK => ?_) ?_
    · try dsimp only at hK ⊢
      have h13 : vs 13 = (.map (some mb)) := hd 13 (by kernel_rfl)
      generalize vs 13 = x13 at *
      subst h13
      try simp only [List.getElem_toArray, List.getElem_cons_succ, List.getElem_cons_zero, Act.put, List.setIfInBounds_toArray, List.set_cons_zero, List.set_cons_succ]
      have s0 := hS.1.cell 0
      have s1 := hS.1.cell 1
      have s2 := hS.1.cell 2
      have p0 := hS.2.2.2.1
      have p1 := hS.2.2.2.2
      have hlenm := HLEN.out _ hS.2.1
      simp at s0 s1 s2
      go_simp
      exact hK.out _ _ hS (Below.refl _ _) rfl
    refine TellsFrom.cons rfl (fun vs wz hS hd K hK => ?_) ?_
    · try dsimp only at hK ⊢
      have h9 : vs 9 = (.int .i64 (F : Int)) := hd 9 (by kernel_rfl)
      generalize vs 9 = x9 at *
      subst h9
      have h14 : vs 14 = (.int .i64 (S0 : Int)) := hd 14 (by kernel_rfl)
      generalize vs 14 = x14 at *
      subst h14
      try simp only [List.getElem_toArray, List.getElem_cons_succ, List.getElem_cons_zero, Act.put, List.setIfInBounds_toArray, List.set_cons_zero, List.set_cons_succ]
      have s0 := hS.1.cell 0
      have s1 := hS.1.cell 1
      have s2 := hS.1.cell 2
      have p0 := hS.2.2.2.1
      have p1 := hS.2.2.2.2
      have hlenm := HLEN.out _ hS.2.1
      simp at s0 s1 s2
      go_simp
      exact hK.out _ _ hS (Below.refl _ _) rfl
    exact TellsFrom.nil
  · intro vs wz hS hd
    try dsimp only
    have h3 : vs 3 = .map (some mb) := hd 3 (by omega)
    have h4 : vs 4 = pairV v c := hd 4 (by omega)
    have h15 : vs 15 = .int .i64 (L : Int) := hd 15 (by omega)
    clear hd
    generalize vs 0 = y0 at *
    generalize vs 1 = y1 at *
    generalize vs 2 = y2 at *
    generalize vs 3 = y3 at *
    generalize vs 4 = y4 at *
    generalize vs 5 = y5 at *
    generalize vs 6 = y6 at *
    generalize vs 7 = y7 at *
    generalize vs 8 = y8 at *
    generalize vs 9 = y9 at *
    generalize vs 10 = y10 at *
    generalize vs 11 = y11 at *
    generalize vs 12 = y12 at *
    generalize vs 13 = y13 at *
    generalize vs 14 = y14 at *
    generalize vs 15 = y15 at *
    subst h3
    subst h4
    subst h15
    have HS2 : Hid (WrM w B b wide since ov w.heap.size v c mb N D wz) := hS
    clear hS
    obtain ⟨w3, hup, ⟨D2, hm3, ht3, hs3⟩, hg3⟩ := HUP.out wz HS2.out.2.1
    have HR3 : Hid (Wr w3 B b wide (.map (some mb)) since ov) := HS2.out.1.same (hg3.block B HS2.out.1.lt (fun e => hBm (by cases e; rfl)))
    have HM3 : Hid (MapAt w3 mb (N + 1) D2) := hm3
    have HT3 : Hid (TabIs D2 b (l ++ [z ++ Lz.one c])) := ht3
    have HG3 : Hid (wz.grownBy w3 (some mb)) := hg3
    obtain ⟨S1, hS1⟩ : ∃ S1 : Nat, S1 = S0 + 1 := ⟨_, rfl⟩
    obtain ⟨L1, hL1⟩ : ∃ L1 : Nat, L1 = L + 1 := ⟨_, rfl⟩
    have HLEN2 : Hid (∀ wy : World, MapAt wy mb (N + 1) D2 → (Builtin.len_ #[60] 3 #[.map (some mb)]).run Try.prog wy = .ok (.int .i64 (S1 : Int)) wy) := fun wy hm => by rw [hS1, ← hs3]; exact hm.len Try.underlying60 _
    clear hm3 ht3 hs3 hg3 HUP HLEN
    refine wpAnyH_ready (rs := [16]) (by kernel_rfl) (by simp) ?_
    refine AllReadyH.cons rfl (fun K hK => ?_) AllReadyH.nil
    have hup2 : Sem.run Try.prog (Instr.mapUpdate 60 (.map (some mb)) (.agg #[.int .i64 (v : Int), .int .u8 (c : Int)]) (.int .i64 (L : Int))) wz = .ok () w3 := hup
    unfold pairV
    go_simp
    refine hK.out _ _ trivial (fun _ => ?_)
    clear hK K hup hup2
    refine wpAnyH_done (by kernel_rfl) ?_ _
    try simp only [List.getElem_toArray, List.getElem_cons_succ, List.getElem_cons_zero, Act.put, List.setIfInBounds_toArray, List.set_cons_zero, List.set_cons_succ]
    have eA2 : (F : Int) + (S1 : Int) = (L1 : Int) := by omega
    have wA2 : IntKind.i64.wrap (L1 : Int) = (L1 : Int) := wrap_i64_nat L1 (by omega)
    obtain ⟨r, hr⟩ : ∃ r : Bool, r = ((L1 : Int) == (U : Int)) := ⟨_, rfl⟩
    have hrv : r = false := by rw [hr]; rw [beq_eq_false_iff_ne]; omega
    have HRV : Hid (r = false) := hrv
    have hr2 : ((L1 : Int) == (U : Int)) = r := hr.symm
    clear hS1 hL1 hr hrv hLF eA wA
    go_wp2_with fail
    refine wp_region_told (S := (fun wy => WrT w3 B b wide (.map (some mb)) since ov wy ∧ MapAt wy mb (N + 1) D2)) 17 39 [.is (.pointer (some ⟨B, 0, none⟩)), .is (.pointer (some ⟨B, 0, none⟩)), .is (.pointer (some ⟨B, 0, none⟩)), .is (.agg #[.int .i64 (b : Int), .bool wide]), .is (.int .i64 (F : Int)), .is (.pointer (some ⟨B, 0, none⟩)), .is (.pointer (some ⟨B, 0, none⟩)), .is (.pointer (some ⟨B, 2, none⟩)), .is (.map (some mb)), .is (.int .i64 (S1 : Int)), .is (.int .i64 (L1 : Int)), .is (.pointer (some ⟨B, 0, none⟩)), .is (.pointer (some ⟨B, 0, none⟩)), .is (.pointer (some ⟨B, 0, none⟩)), .is (.agg #[.int .i64 (b : Int), .bool wide]), .is (.int .i64 (U : Int)), .is (.bool r)] (by kernel_rfl) (by kernel_rfl) (by rfl) (fun _ _ _ _ hd h => ⟨hd.trans h.1, h.2⟩) (fun vs => by simp only [puts, List.getElem?_toArray, List.getElem?_cons_succ, List.getElem?_cons_zero, Option.bind_some, Act.put, List.setIfInBounds_toArray, List.set_cons_zero, List.set_cons_succ]; exact rfl) ⟨WrT.new HR3.out, HM3.out⟩ ?_ ?_
    · refine TellsFrom.cons rfl (fun vs wz hS hd K hK => ?_) ?_
      · try dsimp only at hK ⊢
        try simp only [List.getElem_toArray, List.getElem_cons_succ, List.getElem_cons_zero, Act.put, List.setIfInBounds_toArray, List.set_cons_zero, List.set_cons_succ]
        have s0 := hS.1.1.cell 0
        have s1 := hS.1.1.cell 1
        have s2 := hS.1.1.cell 2
        have hlenm := HLEN2.out _ hS.2
        simp at s0 s1 s2
        go_simp
        exact hK.out _ _ hS (Below.refl _ _) rfl
      refine TellsFrom.cons rfl (fun vs wz hS hd K hK => ?_) ?_
      · try dsimp only at hK ⊢
        have h0 : vs 0 = (.pointer (some ⟨B, 0, none⟩)) := hd 0 (by kernel_rfl)
        generalize vs 0 = x0 at *
        subst h0
        try simp only [List.getElem_toArray, List.getElem_cons_succ, List.getElem_cons_zero, Act.put, List.setIfInBounds_toArray, List.set_cons_zero, List.set_cons_succ]
        have s0 := hS.1.1.cell 0
        have s1 := hS.1.1.cell 1
        have s2 := hS.1.1.cell 2
        have hlenm := HLEN2.out _ hS.2
        simp at s0 s1 s2
        go_simp
        exact hK.out _ _ hS (Below.refl _ _) rfl
      refine TellsFrom.cons rfl (fun vs wz hS hd K hK => ?_) ?_
      · try dsimp only at hK ⊢
        have h1 : vs 1 = (.pointer (some ⟨B, 0, none⟩)) := hd 1 (by kernel_rfl)
        generalize vs 1 = x1 at *
        subst h1
        try simp only [List.getElem_toArray, List.getElem_cons_succ, List.getElem_cons_zero, Act.put, List.setIfInBounds_toArray, List.set_cons_zero, List.set_cons_succ]
        have s0 := hS.1.1.cell 0
        have s1 := hS.1.1.cell 1
        have s2 := hS.1.1.cell 2
        have hlenm := HLEN2.out _ hS.2
        simp at s0 s1 s2
        go_simp
        exact hK.out _ _ hS (Below.refl _ _) rfl
      refine TellsFrom.cons rfl (fun vs wz hS hd K hK => ?_) ?_
      · try dsimp only at hK ⊢
        have h2 : vs 2 = (.pointer (some ⟨B, 0, none⟩)) := hd 2 (by kernel_rfl)
        generalize vs 2 = x2 at *
        subst h2
        try simp only [List.getElem_toArray, List.getElem_cons_succ, List.getElem_cons_zero, Act.put, List.setIfInBounds_toArray, List.set_cons_zero, List.set_cons_succ]
        have s0 := hS.1.1.cell 0
        have s1 := hS.1.1.cell 1
        have s2 := hS.1.1.cell 2
        have hlenm := HLEN2.out _ hS.2
        simp at s0 s1 s2
        go_simp
        exact hK.out _ _ hS (Below.refl _ _) rfl
      refine TellsFrom.cons rfl (fun vs wz hS hd K hK => ?_) ?_
      · try dsimp only at hK ⊢
        have h3 : vs 3 = (.agg #[.int .i64 (b : Int), .bool wide]) := hd 3 (by kernel_rfl)
        generalize vs 3 = x3 at *
        subst h3
        try simp only [List.getElem_toArray, List.getElem_cons_succ, List.getElem_cons_zero, Act.put, List.setIfInBounds_toArray, List.set_cons_zero, List.set_cons_succ]
        go_simp
        refine (HFI.out _).mono ?_
        rintro e v1 ⟨rfl, b1⟩
        exact hK.out _ _ ⟨hS.1.kept b1, map_same hS.2 (b1.block _ hS.2.lt)⟩ b1 rfl
      refine TellsFrom.cons rfl (fun vs wz hS hd K hK => ?_) ?_
      · try dsimp only at hK ⊢
        try simp only [List.getElem_toArray, List.getElem_cons_succ, List.getElem_cons_zero, Act.put, List.setIfInBounds_toArray, List.set_cons_zero, List.set_cons_succ]
        have s0 := hS.1.1.cell 0
        have s1 := hS.1.1.cell 1
        have s2 := hS.1.1.cell 2
        have hlenm := HLEN2.out _ hS.2
        simp at s0 s1 s2
        go_simp
        exact hK.out _ _ hS (Below.refl _ _) rfl
      refine TellsFrom.cons rfl (fun vs wz hS hd K hK => ?_) ?_
      · try dsimp only at hK ⊢
        have h5 : vs 5 = (.pointer (some ⟨B, 0, none⟩)) := hd 5 (by kernel_rfl)
        generalize vs 5 = x5 at *
        subst h5
        try simp only [List.getElem_toArray, List.getElem_cons_succ, List.getElem_cons_zero, Act.put, List.setIfInBounds_toArray, List.set_cons_zero, List.set_cons_succ]
        have s0 := hS.1.1.cell 0
        have s1 := hS.1.1.cell 1
        have s2 := hS.1.1.cell 2
        have hlenm := HLEN2.out _ hS.2
        simp at s0 s1 s2
        go_simp
        exact hK.out _ _ hS (Below.refl _ _) rfl
      refine TellsFrom.cons rfl (fun vs wz hS hd K hK => ?_) ?_
      · try dsimp only at hK ⊢
        have h6 : vs 6 = (.pointer (some ⟨B, 0, none⟩)) := hd 6 (by kernel_rfl)
        generalize vs 6 = x6 at *
        subst h6
        try simp only [List.getElem_toArray, List.getElem_cons_succ, List.getElem_cons_zero, Act.put, List.setIfInBounds_toArray, List.set_cons_zero, List.set_cons_succ]
        have s0 := hS.1.1.cell 0
        have s1 := hS.1.1.cell 1
        have s2 := hS.1.1.cell 2
        have hlenm := HLEN2.out _ hS.2
        simp at s0 s1 s2
        go_simp
        exact hK.out _ _ hS (Below.refl _ _) rfl
      refine TellsFrom.cons rfl (fun vs wz hS hd K hK => ?_) ?_
      · try dsimp only at hK ⊢
        have h7 : vs 7 = (.pointer (some ⟨B, 2, none⟩)) := hd 7 (by kernel_rfl)
        generalize vs 7 = x7 at *
        subst h7
        try simp only [List.getElem_toArray, List.getElem_cons_succ, List.getElem_cons_zero, Act.put, List.setIfInBounds_toArray, List.set_cons_zero, List.set_cons_succ]
        have s0 := hS.1.1.cell 0
        have s1 := hS.1.1.cell 1
        have s2 := hS.1.1.cell 2
        have hlenm := HLEN2.out _ hS.2
        simp at s0 s1 s2
        go_simp
        exact hK.out _ _ hS (Below.refl _ _) rfl
      refine TellsFrom.cons rfl (fun vs wz hS hd K hK => ?_) ?_
      · try dsimp only at hK ⊢
        have h8 : vs 8 = (.map (some mb)) := hd 8 (by kernel_rfl)
        generalize vs 8 = x8 at *
        subst h8
        try simp only [List.getElem_toArray, List.getElem_cons_succ, List.getElem_cons_zero, Act.put, List.setIfInBounds_toArray, List.set_cons_zero, List.set_cons_succ]
        have s0 := hS.1.1.cell 0
        have s1 := hS.1.1.cell 1
        have s2 := hS.1.1.cell 2
        have hlenm := HLEN2.out _ hS.2
        simp at s0 s1 s2
        go_simp
        exact hK.out _ _ hS (Below.refl _ _) rfl
      refine TellsFrom.cons rfl (fun vs wz hS hd K hK => ?_) ?_
      · try dsimp only at hK ⊢
        have h4 : vs 4 = (.int .i64 (F : Int)) := hd 4 (by kernel_rfl)
        generalize vs 4 = x4 at *
        subst h4
        have h9 : vs 9 = (.int .i64 (S1 : Int)) := hd 9 (by kernel_rfl)
        generalize vs 9 = x9 at *
        subst h9
        try simp only [List.getElem_toArray, List.getElem_cons_succ, List.getElem_cons_zero, Act.put, List.setIfInBounds_toArray, List.set_cons_zero, List.set_cons_succ]
        have s0 := hS.1.1.cell 0
        have s1 := hS.1.1.cell 1
        have s2 := hS.1.1.cell 2
        have hlenm := HLEN2.out _ hS.2
        simp at s0 s1 s2
        go_simp
        exact hK.out _ _ hS (Below.refl _ _) rfl
      refine TellsFrom.cons rfl (fun vs wz hS hd K hK => ?_) ?_
      · try dsimp only at hK ⊢
        try simp only [List.getElem_toArray, List.getElem_cons_succ, List.getElem_cons_zero, Act.put, List.setIfInBounds_toArray, List.set_cons_zero, List.set_cons_succ]
        have s0 := hS.1.1.cell 0
        have s1 := hS.1.1.cell 1
        have s2 := hS.1.1.cell 2
        have hlenm := HLEN2.out _ hS.2
        simp at s0 s1 s2
        go_simp
        exact hK.out _ _ hS (Below.refl _ _) rfl
      refine TellsFrom.cons rfl (fun vs wz hS hd K hK => ?_) ?_
      · try dsimp only at hK ⊢
        have h11 : vs 11 = (.pointer (some ⟨B, 0, none⟩)) := hd 11 (by kernel_rfl)
        generalize vs 11 = x11 at *
        subst h11
        try simp only [List.getElem_toArray, List.getElem_cons_succ, List.getElem_cons_zero, Act.put, List.setIfInBounds_toArray, List.set_cons_zero, List.set_cons_succ]
        have s0 := hS.1.1.cell 0
        have s1 := hS.1.1.cell 1
        have s2 := hS.1.1.cell 2
        have hlenm := HLEN2.out _ hS.2
        simp at s0 s1 s2
        go_simp
        exact hK.out _ _ hS (Below.refl _ _) rfl
      refine TellsFrom.cons rfl (fun vs wz hS hd K hK => ?_) ?_
      · try dsimp only at hK ⊢
        have h12 : vs 12 = (.pointer (some ⟨B, 0, none⟩)) := hd 12 (by kernel_rfl)
        generalize vs 12 = x12 at *
        subst h12
        try simp only [List.getElem_toArray, List.getElem_cons_succ, List.getElem_cons_zero, Act.put, List.setIfInBounds_toArray, List.set_cons_zero, List.set_cons_succ]
        have s0 := hS.1.1.cell 0
        have s1 := hS.1.1.cell 1
        have s2 := hS.1.1.cell 2
        have hlenm := HLEN2.out _ hS.2
        simp at s0 s1 s2
        go_simp
        exact hK.out _ _ hS (Below.refl _ _) rfl
      refine TellsFrom.cons rfl (fun vs wz hS hd K hK => ?_) ?_
      · try dsimp only at hK ⊢
        have h13 : vs 13 = (.pointer (some ⟨B, 0, none⟩)) := hd 13 (by kernel_rfl)
        generalize vs 13 = x13 at *
        subst h13
        try simp only [List.getElem_toArray, List.getElem_cons_succ, List.getElem_cons_zero, Act.put, List.setIfInBounds_toArray, List.set_cons_zero, List.set_cons_succ]
        have s0 := hS.1.1.cell 0
        have s1 := hS.1.1.cell 1
        have s2 := hS.1.1.cell 2
        have hlenm := HLEN2.out _ hS.2
        simp at s0 s1 s2
        go_simp
        exact hK.out _ _ hS (Below.refl _ _) rfl
      refine TellsFrom.cons rfl (fun vs wz hS hd K hK => ?_) ?_
      · try dsimp only at hK ⊢
        have h14 : vs 14 = (.agg #[.int .i64 (b : Int), .bool wide]) := hd 14 (by kernel_rfl)
        generalize vs 14 = x14 at *
        subst h14
        try simp only [List.getElem_toArray, List.getElem_cons_succ, List.getElem_cons_zero, Act.put, List.setIfInBounds_toArray, List.set_cons_zero, List.set_cons_succ]
        go_simp
        refine (HFU.out _).mono ?_
        rintro e v1 ⟨rfl, b1⟩
        exact hK.out _ _ ⟨hS.1.kept b1, map_same hS.2 (b1.block _ hS.2.lt)⟩ b1 rfl
      refine TellsFrom.cons rfl (fun vs wz hS hd K hK => ?_) ?_
      · try dsimp only at hK ⊢
        have h10 : vs 10 = (.int .i64 (L1 : Int)) := hd 10 (by kernel_rfl)
        generalize vs 10 = x10 at *
        subst h10
        have h15 : vs 15 = (.int .i64 (U : Int)) := hd 15 (by kernel_rfl)
        generalize vs 15 = x15 at *
        subst h15
        try simp only [List.getElem_toArray, List.getElem_cons_succ, List.getElem_cons_zero, Act.put, List.setIfInBounds_toArray, List.set_cons_zero, List.set_cons_succ]
        have s0 := hS.1.1.cell 0
        have s1 := hS.1.1.cell 1
        have s2 := hS.1.1.cell 2
        have hlenm := HLEN2.out _ hS.2
        simp at s0 s1 s2
        go_simp
        exact hK.out _ _ hS (Below.refl _ _) rfl
      exact TellsFrom.nil
    · intro vs wz hS hd
      try dsimp only
      have h16 : vs 16 = .bool r := hd 16 (by omega)
      clear hd
      generalize vs 0 = y0 at *
      generalize vs 1 = y1 at *
      generalize vs 2 = y2 at *
      generalize vs 3 = y3 at *
      generalize vs 4 = y4 at *
      generalize vs 5 = y5 at *
      generalize vs 6 = y6 at *
      generalize vs 7 = y7 at *
      generalize vs 8 = y8 at *
      generalize vs 9 = y9 at *
      generalize vs 10 = y10 at *
      generalize vs 11 = y11 at *
      generalize vs 12 = y12 at *
      generalize vs 13 = y13 at *
      generalize vs 14 = y14 at *
      generalize vs 15 = y15 at *
      generalize vs 16 = y16 at *
      subst h16
      have HS5 : Hid (WrT w3 B b wide (.map (some mb)) since ov wz ∧ MapAt wz mb (N + 1) D2) := hS
      clear hS
      refine wpAnyH_done (by kernel_rfl) ?_ _
      try simp only [List.getElem_toArray, List.getElem_cons_succ, List.getElem_cons_zero, Act.put, List.setIfInBounds_toArray, List.set_cons_zero, List.set_cons_succ]
      have hrv := HRV.out
      subst hrv
      have hb5 := HS5.out.1.2
      have hz2 := HS2.out.2.2.1
      have hs2 := hz2.size
      have hs3 := HG3.out.size
      have hown5 : OwnP wz lo ov n out := ownsRow_besides HO.out (fun k hk => by
        have hkl := (World.ownsRow.lt HO.out k hk).2
        exact (hb5.block k (by omega)).trans ((HG3.out.block k (by omega) (fun e => hom (by rw [hk]; exact e))).trans (hz2.block k hkl)))
      have hbel5 : Below lo w wz := ((hz2.mono hlw).grown HG3.out (by omega) (fun k hk => by cases hk; exact hlm)).trans (hb5.mono (by omega))
      have HFIN : Hid (LrAdd B b since n lo mb N wide ov (l ++ [z ++ Lz.one c]) out w wz) := ⟨D2, HS5.out.1.1, hown5, HS5.out.2, HT3.out, hbel5⟩
      clear hb5 hz2 hs2 hs3 hown5 hbel5
      go_wp2_with fail
      go_end0
      exact ⟨rfl, HFIN.out⟩
end Go.Proofs.Ytjfihmpnbblomaa

/- The writer of LZW: learn, where all is forgotten. -/
namespace Go.Proofs.Ytjfihmpnbblomaa
open Go.RowKit Go.Maps

set_option linter.unusedSimpArgs false in
set_option linter.unusedVariables false in
set_option maxHeartbeats 4000000 in
set_option maxRecDepth 20000 in
theorem wrLearn_full (B b since n lo mb N v c : Nat) (wide : Bool) (ov : Value) (D : DataW Unit) (l : List ByteArray) (z : ByteArray) (out : List (Int × Int)) (C : Int × Int) (w : World) (hb : b ≤ 8) (h : Wr w B b wide (.map (some mb)) since ov) (ho : OwnP w lo ov n out) (hm : MapAt w mb N D) (tb : TabIs D b l) (g : Lq.Inv b l) (hlB : lo ≤ B) (hlm : lo ≤ mb) (hn : n ≤ 100000) (hN : N ≤ 5000)
    (hv : Lp.num l z = (v : Int)) (hz : z.size = 1 → Lp.byte z < 2 ^ b) (hz1 : 1 ≤ z.size) (hf : Lp.find l (z ++ Lz.one c) < 0) (hc : c < 256) (hfull : l.length + 1 = Lp.full wide) (hsn : since = l.length - (2 ^ b + 2) + 1) (hC : C = Lp.code b wide ((2 ^ b : Nat) : Int) (l.length + 1)) :
    Calls Try.prog 41 #[.pointer (some ⟨B, 0, none⟩), .agg #[.int .i64 (v : Int), .int .u8 (c : Int)]] w fun e w' => e = .returned (.tuple #[]) ∧ LrFull B b n lo wide (out ++ [C]) w w' := by
  have hpw := Lz.pow_le hb
  have hfb := Lp.full_bd wide
  have HFI : Hid (∀ w', Calls Try.prog 58 #[.agg #[.int .i64 (b : Int), .bool wide]] w' fun e w'' => e = .returned (.int .i64 ((2 ^ b + 2 : Nat) : Int)) ∧ Below w'.heap.size w' w'') := fun w' => lzFirst_any b hb wide w'
  have HFU : Hid (∀ w', Calls Try.prog 60 #[.agg #[.int .i64 (b : Int), .bool wide]] w' fun e w'' => e = .returned (.int .i64 (Lp.full wide : Int)) ∧ Below w'.heap.size w' w'') := fun w' => lzFull_any b wide w'
  obtain ⟨hvl, -⟩ := Lq.at_num g hv hz
  have htsz := tb.size_
  obtain ⟨F, hF⟩ : ∃ F : Nat, F = 2 ^ b + 2 := ⟨_, rfl⟩
  rw [← hF] at HFI htsz
  obtain ⟨U, hU⟩ : ∃ U : Nat, U = Lp.full wide := ⟨_, rfl⟩
  rw [← hU] at HFU hfb
  obtain ⟨S0, hS0⟩ : ∃ S0 : Nat, S0 = size D := ⟨_, rfl⟩
  rw [← hS0] at htsz
  obtain ⟨L, hL⟩ : ∃ L : Nat, L = l.length := ⟨_, rfl⟩
  have eA : (F : Int) + (S0 : Int) = (L : Int) := by omega
  have hLb : L ≤ 4095 := by omega
  have wA : IntKind.i64.wrap (L : Int) = (L : Int) := wrap_i64_nat L (by omega)
  have hLF : L + 1 = U := by omega
  have HLEN : Hid (∀ wy : World, MapAt wy mb N D → (Builtin.len_ #[60] 3 #[.map (some mb)]).run Try.prog wy = .ok (.int .i64 (S0 : Int)) wy) := fun wy hm => by rw [hS0]; exact hm.len Try.underlying60 _
  have hlk : Lq.look l v c < 0 := by rw [Lq.look_num c g hv hz hz1, Lp.num_two rfl hz1]; exact hf
  have HUP : Hid (∀ wy : World, MapAt wy mb N D → ∃ w', (Instr.mapUpdate 60 (.map (some mb)) (pairV v c) (.int .i64 (L : Int))).run Try.prog wy = .ok () w' ∧ (∃ D', MapAt w' mb (N + 1) D' ∧ TabIs D' b (l ++ [z ++ Lz.one c]) ∧ size D' = S0 + 1) ∧ wy.grownBy w' (some mb)) := fun wy hmy => by
    obtain ⟨w', h1, h2, h3⟩ := hmy.update key_pair Try.underlying60 (by unfold maxLen; omega) (pairKey_of v c (by omega) hc) (plainElem_int (H := Unit) Try.underlying3 (WalkArith.wf_i64 (n := (L : Int)) (by omega)))
    have ht := tb.more (hmy.tidy key_pair) g hv hz hz1 hf hc (by omega)
    rw [← hL] at ht
    refine ⟨w', h1, ⟨_, h2, ht, ?_⟩, h3⟩
    have := ht.size_
    rw [List.length_append, ← hL, ← hF] at this
    simp at this
    omega
  have hBm := map_writer hm h
  have hoB := h.apart ho (by decide)
  have hom := map_apart hm ho
  have hBlt := h.lt
  have HO : Hid (OwnP w lo ov n out) := ho
  have hlw : lo ≤ w.heap.size := by omega
  have HST : Hid (WrM w B b wide since ov w.heap.size v c mb N D (w.alloc (.cells #[.int .i64 (v : Int), .int .u8 (c : Int)] 69)) ∧ OwnP (w.alloc (.cells #[.int .i64 (v : Int), .int .u8 (c : Int)] 69)) lo ov n out) := by
    have hba : Below w.heap.size w (w.alloc (.cells #[.int .i64 (v : Int), .int .u8 (c : Int)] 69)) := (Below.refl _ _).alloc (Nat.le_refl _) _
    exact ⟨⟨h.same (hba.block _ h.lt), hm.alloc _, hba, by simp, by simp⟩, World.ownsRow.alloc (show World.ownsRow _ _ _ _ _ _ _ from ho) _⟩
  have hglo := g.lo
  have HFO : Hid (∀ w' : World, Wr w' B b wide (.map (some mb)) since ov → OwnP w' lo ov n out → lo ≤ w'.heap.size → Calls Try.prog 38 #[.pointer (some ⟨B, 0, none⟩)] w' fun e w'' => e = .returned (.tuple #[]) ∧ WrNew B b n lo wide ov (out ++ [C]) w' w'') := fun w' h1 h2 h3 => wrForget B b since n lo wide _ ov out C w' hb h1 h2 h3 hn (by omega) (by
    rw [hC]
    unfold Lp.code Lp.known
    rw [if_neg (by omega), show l.length + 1 - 1 = 2 ^ b + 2 + (since - 1) by omega])
  clear hC hsn hfull
  clear h ho hm tb hv hz hf hlk hvl hS0 hU g hF hL htsz
  go_enter Try.func41, Try.ntmps41
  go_wp2_with fail
  obtain ⟨w1, hw1⟩ : ∃ w1, w1 = w.alloc (.cells #[.int .i64 (v : Int), .int .u8 (c : Int)] 69) := ⟨_, rfl⟩
  rw [← hw1] at HST ⊢
  clear hw1
  have hpb : w.heap.size ≠ B := by omega
  refine wp_region_told (S := (fun wy => WrM w B b wide since ov w.heap.size v c mb N D wy)) 16 39 [.is (.pointer (some ⟨B, 0, none⟩)), .is (.pointer (some ⟨B, 0, none⟩)), .is (.pointer (some ⟨B, 2, none⟩)), .is (.map (some mb)), .is (pairV v c), .is (.pointer (some ⟨B, 0, none⟩)), .is (.pointer (some ⟨B, 0, none⟩)), .is (.pointer (some ⟨B, 0, none⟩)), .is (.agg #[.int .i64 (b : Int), .bool wide]), .is (.int .i64 (F : Int)), .is (.pointer (some ⟨B, 0, none⟩)), .is (.pointer (some ⟨B, 0, none⟩)), .is (.pointer (some ⟨B, 2, none⟩)), .is (.map (some mb)), .is (.int .i64 (S0 : Int)), .is (.int .i64 (L : Int))] (by kernel_rfl) (by kernel_rfl) (by rfl) (fun _ _ _ _ hd h => ⟨hd.trans h.1, h.2⟩) (fun vs => by simp only [puts, List.getElem?_toArray, List.getElem?_cons_succ, List.getElem?_cons_zero, Option.bind_some, Act.put, List.setIfInBounds_toArray, List.set_cons_zero, List.set_cons_succ]; exact rfl) (HST.out.1.kept (Below.refl _ _).drew) ?_ ?_
  · refine TellsFrom.cons rfl (fun vs wz hS hd K hK => ?_) ?_
    · try dsimp only at hK ⊢
      try simp only [List.getElem_toArray, List.getElem_cons_succ, List.getElem_cons_zero, Act.put, List.setIfInBounds_toArray, List.set_cons_zero, List.set_cons_succ]
      have s0 := hS.1.cell 0
      have s1 := hS.1.cell 1
      have s2 := hS.1.cell 2
      have p0 := hS.2.2.2.1
      have p1 := hS.2.2.2.2
      have hlenm := HLEN.out _ hS.2.1
      simp at s0 s1 s2
      go_simp
      exact hK.out _ _ hS (Below.refl _ _) rfl
    refine TellsFrom.cons rfl (fun vs wz hS hd K hK => ?_) ?_
    · try dsimp only at hK ⊢
      have h0 : vs 0 = (.pointer (some ⟨B, 0, none⟩)) := hd 0 (by kernel_rfl)
      generalize vs 0 = x0 at *
      subst h0
      try simp only [List.getElem_toArray, List.getElem_cons_succ, List.getElem_cons_zero, Act.put, List.setIfInBounds_toArray, List.set_cons_zero, List.set_cons_succ]
      have s0 := hS.1.cell 0
      have s1 := hS.1.cell 1
      have s2 := hS.1.cell 2
      have p0 := hS.2.2.2.1
      have p1 := hS.2.2.2.2
      have hlenm := HLEN.out _ hS.2.1
      simp at s0 s1 s2
      go_simp
      exact hK.out _ _ hS (Below.refl _ _) rfl
    refine TellsFrom.cons rfl (fun vs wz hS hd K hK => ?_) ?_
    · try dsimp only at hK ⊢
      have h1 : vs 1 = (.pointer (some ⟨B, 0, none⟩)) := hd 1 (by kernel_rfl)
      generalize vs 1 = x1 at *
      subst h1
      try simp only [List.getElem_toArray, List.getElem_cons_succ, List.getElem_cons_zero, Act.put, List.setIfInBounds_toArray, List.set_cons_zero, List.set_cons_succ]
      have s0 := hS.1.cell 0
      have s1 := hS.1.cell 1
      have s2 := hS.1.cell 2
      have p0 := hS.2.2.2.1
      have p1 := hS.2.2.2.2
      have hlenm := HLEN.out _ hS.2.1
      simp at s0 s1 s2
      go_simp
      exact hK.out _ _ hS (Below.refl _ _) rfl
    refine TellsFrom.cons rfl (fun vs wz hS hd K hK => ?_) ?_
    · try dsimp only at hK ⊢
      have h2 : vs 2 = (.pointer (some ⟨B, 2, none⟩)) := hd 2 (by kernel_rfl)
      generalize vs 2 = x2 at *
      subst h2
      try simp only [List.getElem_toArray, List.getElem_cons_succ, List.getElem_cons_zero, Act.put, List.setIfInBounds_toArray, List.set_cons_zero, List.set_cons_succ]
      have s0 := hS.1.cell 0
      have s1 := hS.1.cell 1
      have s2 := hS.1.cell 2
      have p0 := hS.2.2.2.1
      have p1 := hS.2.2.2.2
      have hlenm := HLEN.out _ hS.2.1
      simp at s0 s1 s2
      go_simp
      exact hK.out _ _ hS (Below.refl _ _) rfl
    refine TellsFrom.cons rfl (fun vs wz hS hd K hK => ?_) ?_
    · try dsimp only at hK ⊢
      try simp only [List.getElem_toArray, List.getElem_cons_succ, List.getElem_cons_zero, Act.put, List.setIfInBounds_toArray, List.set_cons_zero, List.set_cons_succ]
      have s0 := hS.1.cell 0
      have s1 := hS.1.cell 1
      have s2 := hS.1.cell 2
      have p0 := hS.2.2.2.1
      have p1 := hS.2.2.2.2
      have hlenm := HLEN.out _ hS.2.1
      simp at s0 s1 s2
      go_simp
      exact hK.out _ _ hS (Below.refl _ _) rfl
    refine TellsFrom.cons rfl (fun vs wz hS hd K hK => ?_) ?_
    · try dsimp only at hK ⊢
      try simp only [List.getElem_toArray, List.getElem_cons_succ, List.getElem_cons_zero, Act.put, List.setIfInBounds_toArray, List.set_cons_zero, List.set_cons_succ]
      have s0 := hS.1.cell 0
      have s1 := hS.1.cell 1
      have s2 := hS.1.cell 2
      have p0 := hS.2.2.2.1
      have p1 := hS.2.2.2.2
      have hlenm := HLEN.out _ hS.2.1
      simp at s0 s1 s2
      go_simp
      exact hK.out _ _ hS (Below.refl _ _) rfl
    refine TellsFrom.cons rfl (fun vs wz hS hd K hK => ?_) ?_
    · try dsimp only at hK ⊢
      have h5 : vs 5 = (.pointer (some ⟨B, 0, none⟩)) := hd 5 (by kernel_rfl)
      generalize vs 5 = x5 at *
      subst h5
      try simp only [List.getElem_toArray, List.getElem_cons_succ, List.getElem_cons_zero, Act.put, List.setIfInBounds_toArray, List.set_cons_zero, List.set_cons_succ]
      have s0 := hS.1.cell 0
      have s1 := hS.1.cell 1
      have s2 := hS.1.cell 2
      have p0 := hS.2.2.2.1
      have p1 := hS.2.2.2.2
      have hlenm := HLEN.out _ hS.2.1
      simp at s0 s1 s2
      go_simp
      exact hK.out _ _ hS (Below.refl _ _) rfl
    refine TellsFrom.cons rfl (fun vs wz hS hd K hK => ?_) ?_
    · try dsimp only at hK ⊢
      have h6 : vs 6 = (.pointer (some ⟨B, 0, none⟩)) := hd 6 (by kernel_rfl)
      generalize vs 6 = x6 at *
      subst h6
      try simp only [List.getElem_toArray, List.getElem_cons_succ, List.getElem_cons_zero, Act.put, List.setIfInBounds_toArray, List.set_cons_zero, List.set_cons_succ]
      have s0 := hS.1.cell 0
      have s1 := hS.1.cell 1
      have s2 := hS.1.cell 2
      have p0 := hS.2.2.2.1
      have p1 := hS.2.2.2.2
      have hlenm := HLEN.out _ hS.2.1
      simp at s0 s1 s2
      go_simp
      exact hK.out _ _ hS (Below.refl _ _) rfl
    refine TellsFrom.cons rfl (fun vs wz hS hd K hK => ?_) ?_
    · try dsimp only at hK ⊢
      have h7 : vs 7 = (.pointer (some ⟨B, 0, none⟩)) := hd 7 (by kernel_rfl)
      generalize vs 7 = x7 at *
      subst h7
      try simp only [List.getElem_toArray, List.getElem_cons_succ, List.getElem_cons_zero, Act.put, List.setIfInBounds_toArray, List.set_cons_zero, List.set_cons_succ]
      have s0 := hS.1.cell 0
      have s1 := hS.1.cell 1
      have s2 := hS.1.cell 2
      have p0 := hS.2.2.2.1
      have p1 := hS.2.2.2.2
      have hlenm := HLEN.out _ hS.2.1
      simp at s0 s1 s2
      go_simp
      exact hK.out _ _ hS (Below.refl _ _) rfl
    refine TellsFrom.cons rfl (fun vs wz hS hd K hK => ?_) ?_
    · try dsimp only at hK ⊢
      have h8 : vs 8 = (.agg #[.int .i64 (b : Int), .bool wide]) := hd 8 (by kernel_rfl)
      generalize vs 8 = x8 at *
      subst h8
      try simp only [List.getElem_toArray, List.getElem_cons_succ, List.getElem_cons_zero, Act.put, List.setIfInBounds_toArray, List.set_cons_zero, List.set_cons_succ]
      go_simp
      refine (HFI.out _).mono ?_
      rintro e v1 ⟨rfl, b1⟩
      exact hK.out _ _ (hS.kept b1) b1 rfl
    refine TellsFrom.cons rfl (fun vs wz hS hd K hK => ?_) ?_
    · try dsimp only at hK ⊢
      try simp only [List.getElem_toArray, List.getElem_cons_succ, List.getElem_cons_zero, Act.put, List.setIfInBounds_toArray, List.set_cons_zero, List.set_cons_succ]
      have s0 := hS.1.cell 0
      have s1 := hS.1.cell 1
      have s2 := hS.1.cell 2
      have p0 := hS.2.2.2.1
      have p1 := hS.2.2.2.2
      have hlenm := HLEN.out _ hS.2.1
      simp at s0 s1 s2
      go_simp
      exact hK.out _ _ hS (Below.refl _ _) rfl
    refine TellsFrom.cons rfl (fun vs wz hS hd K hK => ?_) ?_
    · try dsimp only at hK ⊢
      have h10 : vs 10 = (.pointer (some ⟨B, 0, none⟩)) := hd 10 (by kernel_rfl)
      generalize vs 10 = x10 at *
      subst h10
      try simp only [List.getElem_toArray, List.getElem_cons_succ, List.getElem_cons_zero, Act.put, List.setIfInBounds_toArray, List.set_cons_zero, List.set_cons_succ]
      have s0 := hS.1.cell 0
      have s1 := hS.1.cell 1
      have s2 := hS.1.cell 2
      have p0 := hS.2.2.2.1
      have p1 := hS.2.2.2.2
      have hlenm := HLEN.out _ hS.2.1
      simp at s0 s1 s2
      go_simp
      exact hK.out _ _ hS (Below.refl _ _) rfl
    refine TellsFrom.cons rfl (fun vs wz hS hd K hK => ?_) ?_
    · try dsimp only at hK ⊢
      have h11 : vs 11 = (.pointer (some ⟨B, 0, none⟩)) := hd 11 (by kernel_rfl)
      generalize vs 11 = x11 at *
      subst h11
      try simp only [List.getElem_toArray, List.getElem_cons_succ, List.getElem_cons_zero, Act.put, List.setIfInBounds_toArray, List.set_cons_zero, List.set_cons_succ]
      have s0 := hS.1.cell 0
      have s1 := hS.1.cell 1
      have s2 := hS.1.cell 2
      have p0 := hS.2.2.2.1
      have p1 := hS.2.2.2.2
      have hlenm := HLEN.out _ hS.2.1
      simp at s0 s1 s2
      go_simp
      exact hK.out _ _ hS (Below.refl _ _) rfl
    refine TellsFrom.cons rfl (fun vs wz hS hd K hK => ?_) ?_
    · try dsimp only at hK ⊢
      have h12 : vs 12 = (.pointer (some ⟨B, 2, none⟩)) := hd 12 (by kernel_rfl)
      generalize vs 12 = x12 at *
      subst h12
      try simp only [List.getElem_toArray, List.getElem_cons_succ, List.getElem_cons_zero, Act.put, List.setIfInBounds_toArray, List.set_cons_zero, List.set_cons_succ]
      have s0 := hS.1.cell 0
      have s1 := hS.1.cell 1
      have s2 := hS.1.cell 2
      have p0 := hS.2.2.2.1
      have p1 := hS.2.2.2.2
      have hlenm := HLEN.out _ hS.2.1
      simp at s0 s1 s2
      go_simp
      exact hK.out _ _ hS (Below.refl _ _) rfl
    refine TellsFrom.cons rfl (fun vs wz hS hd K hK => ?_) ?_
    · try dsimp only at hK ⊢
      have h13 : vs 13 = (.map (some mb)) := hd 13 (by kernel_rfl)
      generalize vs 13 = x13 at *
      subst h13
      try simp only [List.getElem_toArray, List.getElem_cons_succ, List.getElem_cons_zero, Act.put, List.setIfInBounds_toArray, List.set_cons_zero, List.set_cons_succ]
      have s0 := hS.1.cell 0
      have s1 := hS.1.cell 1
      have s2 := hS.1.cell 2
      have p0 := hS.2.2.2.1
      have p1 := hS.2.2.2.2
      have hlenm := HLEN.out _ hS.2.1
      simp at s0 s1 s2
      go_simp
      exact hK.out _ _ hS (Below.refl _ _) rfl
    refine TellsFrom.cons rfl (fun vs wz hS hd K hK => ?_) ?_
    · try dsimp only at hK ⊢
      have h9 : vs 9 = (.int .i64 (F : Int)) := hd 9 (by kernel_rfl)
      generalize vs 9 = x9 at *
      subst h9
      have h14 : vs 14 = (.int .i64 (S0 : Int)) := hd 14 (by kernel_rfl)
      generalize vs 14 = x14 at *
      subst h14
      try simp only [List.getElem_toArray, List.getElem_cons_succ, List.getElem_cons_zero, Act.put, List.setIfInBounds_toArray, List.set_cons_zero, List.set_cons_succ]
      have s0 := hS.1.cell 0
      have s1 := hS.1.cell 1
      have s2 := hS.1.cell 2
      have p0 := hS.2.2.2.1
      have p1 := hS.2.2.2.2
      have hlenm := HLEN.out _ hS.2.1
      simp at s0 s1 s2
      go_simp
      exact hK.out _ _ hS (Below.refl _ _) rfl
    exact TellsFrom.nil
  · intro vs wz hS hd
    try dsimp only
    have h3 : vs 3 = .map (some mb) := hd 3 (by omega)
    have h4 : vs 4 = pairV v c := hd 4 (by omega)
    have h15 : vs 15 = .int .i64 (L : Int) := hd 15 (by omega)
    clear hd
    generalize vs 0 = y0 at *
    generalize vs 1 = y1 at *
    generalize vs 2 = y2 at *
    generalize vs 3 = y3 at *
    generalize vs 4 = y4 at *
    generalize vs 5 = y5 at *
    generalize vs 6 = y6 at *
    generalize vs 7 = y7 at *
    generalize vs 8 = y8 at *
    generalize vs 9 = y9 at *
    generalize vs 10 = y10 at *
    generalize vs 11 = y11 at *
    generalize vs 12 = y12 at *
    generalize vs 13 = y13 at *
    generalize vs 14 = y14 at *
    generalize vs 15 = y15 at *
    subst h3
    subst h4
    subst h15
    have HS2 : Hid (WrM w B b wide since ov w.heap.size v c mb N D wz) := hS
    clear hS
    obtain ⟨w3, hup, ⟨D2, hm3, ht3, hs3⟩, hg3⟩ := HUP.out wz HS2.out.2.1
    have HR3 : Hid (Wr w3 B b wide (.map (some mb)) since ov) := HS2.out.1.same (hg3.block B HS2.out.1.lt (fun e => hBm (by cases e; rfl)))
    have HM3 : Hid (MapAt w3 mb (N + 1) D2) := hm3
    have HT3 : Hid (TabIs D2 b (l ++ [z ++ Lz.one c])) := ht3
    have HG3 : Hid (wz.grownBy w3 (some mb)) := hg3
    obtain ⟨S1, hS1⟩ : ∃ S1 : Nat, S1 = S0 + 1 := ⟨_, rfl⟩
    obtain ⟨L1, hL1⟩ : ∃ L1 : Nat, L1 = L + 1 := ⟨_, rfl⟩
    have HLEN2 : Hid (∀ wy : World, MapAt wy mb (N + 1) D2 → (Builtin.len_ #[60] 3 #[.map (some mb)]).run Try.prog wy = .ok (.int .i64 (S1 : Int)) wy) := fun wy hm => by rw [hS1, ← hs3]; exact hm.len Try.underlying60 _
    clear hm3 ht3 hs3 hg3 HUP HLEN
    refine wpAnyH_ready (rs := [16]) (by kernel_rfl) (by simp) ?_
    refine AllReadyH.cons rfl (fun K hK => ?_) AllReadyH.nil
    have hup2 : Sem.run Try.prog (Instr.mapUpdate 60 (.map (some mb)) (.agg #[.int .i64 (v : Int), .int .u8 (c : Int)]) (.int .i64 (L : Int))) wz = .ok () w3 := hup
    unfold pairV
    go_simp
    refine hK.out _ _ trivial (fun _ => ?_)
    clear hK K hup hup2
    refine wpAnyH_done (by kernel_rfl) ?_ _
    try simp only [List.getElem_toArray, List.getElem_cons_succ, List.getElem_cons_zero, Act.put, List.setIfInBounds_toArray, List.set_cons_zero, List.set_cons_succ]
    have eA2 : (F : Int) + (S1 : Int) = (L1 : Int) := by omega
    have wA2 : IntKind.i64.wrap (L1 : Int) = (L1 : Int) := wrap_i64_nat L1 (by omega)
    obtain ⟨r, hr⟩ : ∃ r : Bool, r = ((L1 : Int) == (U : Int)) := ⟨_, rfl⟩
    have hrv : r = true := by rw [hr]; rw [beq_iff_eq]; omega
    have HRV : Hid (r = true) := hrv
    have hr2 : ((L1 : Int) == (U : Int)) = r := hr.symm
    clear hS1 hL1 hr hrv hLF eA wA
    go_wp2_with fail
    refine wp_region_told (S := (fun wy => WrT w3 B b wide (.map (some mb)) since ov wy ∧ MapAt wy mb (N + 1) D2)) 17 39 [.is (.pointer (some ⟨B, 0, none⟩)), .is (.pointer (some ⟨B, 0, none⟩)), .is (.pointer (some ⟨B, 0, none⟩)), .is (.agg #[.int .i64 (b : Int), .bool wide]), .is (.int .i64 (F : Int)), .is (.pointer (some ⟨B, 0, none⟩)), .is (.pointer (some ⟨B, 0, none⟩)), .is (.pointer (some ⟨B, 2, none⟩)), .is (.map (some mb)), .is (.int .i64 (S1 : Int)), .is (.int .i64 (L1 : Int)), .is (.pointer (some ⟨B, 0, none⟩)), .is (.pointer (some ⟨B, 0, none⟩)), .is (.pointer (some ⟨B, 0, none⟩)), .is (.agg #[.int .i64 (b : Int), .bool wide]), .is (.int .i64 (U : Int)), .is (.bool r)] (by kernel_rfl) (by kernel_rfl) (by rfl) (fun _ _ _ _ hd h => ⟨hd.trans h.1, h.2⟩) (fun vs => by simp only [puts, List.getElem?_toArray, List.getElem?_cons_succ, List.getElem?_cons_zero, Option.bind_some, Act.put, List.setIfInBounds_toArray, List.set_cons_zero, List.set_cons_succ]; exact rfl) ⟨WrT.new HR3.out, HM3.out⟩ ?_ ?_
    · refine TellsFrom.cons rfl (fun vs wz hS hd K hK => ?_) ?_
      · try dsimp only at hK ⊢
        try simp only [List.getElem_toArray, List.getElem_cons_succ, List.getElem_cons_zero, Act.put, List.setIfInBounds_toArray, List.set_cons_zero, List.set_cons_succ]
        have s0 := hS.1.1.cell 0
        have s1 := hS.1.1.cell 1
        have s2 := hS.1.1.cell 2
        have hlenm := HLEN2.out _ hS.2
        simp at s0 s1 s2
        go_simp
        exact hK.out _ _ hS (Below.refl _ _) rfl
      refine TellsFrom.cons rfl (fun vs wz hS hd K hK => ?_) ?_
      · try dsimp only at hK ⊢
        have h0 : vs 0 = (.pointer (some ⟨B, 0, none⟩)) := hd 0 (by kernel_rfl)
        generalize vs 0 = x0 at *
        subst h0
        try simp only [List.getElem_toArray, List.getElem_cons_succ, List.getElem_cons_zero, Act.put, List.setIfInBounds_toArray, List.set_cons_zero, List.set_cons_succ]
        have s0 := hS.1.1.cell 0
        have s1 := hS.1.1.cell 1
        have s2 := hS.1.1.cell 2
        have hlenm := HLEN2.out _ hS.2
        simp at s0 s1 s2
        go_simp
        exact hK.out _ _ hS (Below.refl _ _) rfl
      refine TellsFrom.cons rfl (fun vs wz hS hd K hK => ?_) ?_
      · try dsimp only at hK ⊢
        have h1 : vs 1 = (.pointer (some ⟨B, 0, none⟩)) := hd 1 (by kernel_rfl)
        generalize vs 1 = x1 at *
        subst h1
        try simp only [List.getElem_toArray, List.getElem_cons_succ, List.getElem_cons_zero, Act.put, List.setIfInBounds_toArray, List.set_cons_zero, List.set_cons_succ]
        have s0 := hS.1.1.cell 0
        have s1 := hS.1.1.cell 1
        have s2 := hS.1.1.cell 2
        have hlenm := HLEN2.out _ hS.2
        simp at s0 s1 s2
        go_simp
        exact hK.out _ _ hS (Below.refl _ _) rfl
      refine TellsFrom.cons rfl (fun vs wz hS hd K hK => ?_) ?_
      · try dsimp only at hK ⊢
        have h2 : vs 2 = (.pointer (some ⟨B, 0, none⟩)) := hd 2 (by kernel_rfl)
        generalize vs 2 = x2 at *
        subst h2
        try simp only [List.getElem_toArray, List.getElem_cons_succ, List.getElem_cons_zero, Act.put, List.setIfInBounds_toArray, List.set_cons_zero, List.set_cons_succ]
        have s0 := hS.1.1.cell 0
        have s1 := hS.1.1.cell 1
        have s2 := hS.1.1.cell 2
        have hlenm := HLEN2.out _ hS.2
        simp at s0 s1 s2
        go_simp
        exact hK.out _ _ hS (Below.refl _ _) rfl
      refine TellsFrom.cons rfl (fun vs wz hS hd K hK => ?_) ?_
      · try dsimp only at hK ⊢
        have h3 : vs 3 = (.agg #[.int .i64 (b : Int), .bool wide]) := hd 3 (by kernel_rfl)
        generalize vs 3 = x3 at *
        subst h3
        try simp only [List.getElem_toArray, List.getElem_cons_succ, List.getElem_cons_zero, Act.put, List.setIfInBounds_toArray, List.set_cons_zero, List.set_cons_succ]
        go_simp
        refine (HFI.out _).mono ?_
        rintro e v1 ⟨rfl, b1⟩
        exact hK.out _ _ ⟨hS.1.kept b1, map_same hS.2 (b1.block _ hS.2.lt)⟩ b1 rfl
      refine TellsFrom.cons rfl (fun vs wz hS hd K hK => ?_) ?_
      · try dsimp only at hK ⊢
        try simp only [List.getElem_toArray, List.getElem_cons_succ, List.getElem_cons_zero, Act.put, List.setIfInBounds_toArray, List.set_cons_zero, List.set_cons_succ]
        have s0 := hS.1.1.cell 0
        have s1 := hS.1.1.cell 1
        have s2 := hS.1.1.cell 2
        have hlenm := HLEN2.out _ hS.2
        simp at s0 s1 s2
        go_simp
        exact hK.out _ _ hS (Below.refl _ _) rfl
      refine TellsFrom.cons rfl (fun vs wz hS hd K hK => ?_) ?_
      · try dsimp only at hK ⊢
        have h5 : vs 5 = (.pointer (some ⟨B, 0, none⟩)) := hd 5 (by kernel_rfl)
        generalize vs 5 = x5 at *
        subst h5
        try simp only [List.getElem_toArray, List.getElem_cons_succ, List.getElem_cons_zero, Act.put, List.setIfInBounds_toArray, List.set_cons_zero, List.set_cons_succ]
        have s0 := hS.1.1.cell 0
        have s1 := hS.1.1.cell 1
        have s2 := hS.1.1.cell 2
        have hlenm := HLEN2.out _ hS.2
        simp at s0 s1 s2
        go_simp
        exact hK.out _ _ hS (Below.refl _ _) rfl
      refine TellsFrom.cons rfl (fun vs wz hS hd K hK => ?_) ?_
      · try dsimp only at hK ⊢
        have h6 : vs 6 = (.pointer (some ⟨B, 0, none⟩)) := hd 6 (by kernel_rfl)
        generalize vs 6 = x6 at *
        subst h6
        try simp only [List.getElem_toArray, List.getElem_cons_succ, List.getElem_cons_zero, Act.put, List.setIfInBounds_toArray, List.set_cons_zero, List.set_cons_succ]
        have s0 := hS.1.1.cell 0
        have s1 := hS.1.1.cell 1
        have s2 := hS.1.1.cell 2
        have hlenm := HLEN2.out _ hS.2
        simp at s0 s1 s2
        go_simp
        exact hK.out _ _ hS (Below.refl _ _) rfl
      refine TellsFrom.cons rfl (fun vs wz hS hd K hK => ?_) ?_
      · try dsimp only at hK ⊢
        have h7 : vs 7 = (.pointer (some ⟨B, 2, none⟩)) := hd 7 (by kernel_rfl)
        generalize vs 7 = x7 at *
        subst h7
        try simp only [List.getElem_toArray, List.getElem_cons_succ, List.getElem_cons_zero, Act.put, List.setIfInBounds_toArray, List.set_cons_zero, List.set_cons_succ]
        have s0 := hS.1.1.cell 0
        have s1 := hS.1.1.cell 1
        have s2 := hS.1.1.cell 2
        have hlenm := HLEN2.out _ hS.2
        simp at s0 s1 s2
        go_simp
        exact hK.out _ _ hS (Below.refl _ _) rfl
      refine TellsFrom.cons rfl (fun vs wz hS hd K hK => ?_) ?_
      · try dsimp only at hK ⊢
        have h8 : vs 8 = (.map (some mb)) := hd 8 (by kernel_rfl)
        generalize vs 8 = x8 at *
        subst h8
        try simp only [List.getElem_toArray, List.getElem_cons_succ, List.getElem_cons_zero, Act.put, List.setIfInBounds_toArray, List.set_cons_zero, List.set_cons_succ]
        have s0 := hS.1.1.cell 0
        have s1 := hS.1.1.cell 1
        have s2 := hS.1.1.cell 2
        have hlenm := HLEN2.out _ hS.2
        simp at s0 s1 s2
        go_simp
        exact hK.out _ _ hS (Below.refl _ _) rfl
      refine TellsFrom.cons rfl (fun vs wz hS hd K hK => ?_) ?_
      · try dsimp only at hK ⊢
        have h4 : vs 4 = (.int .i64 (F : Int)) := hd 4 (by kernel_rfl)
        generalize vs 4 = x4 at *
        subst h4
        have h9 : vs 9 = (.int .i64 (S1 : Int)) := hd 9 (by kernel_rfl)
        generalize vs 9 = x9 at *
        subst h9
        try simp only [List.getElem_toArray, List.getElem_cons_succ, List.getElem_cons_zero, Act.put, List.setIfInBounds_toArray, List.set_cons_zero, List.set_cons_succ]
        have s0 := hS.1.1.cell 0
        have s1 := hS.1.1.cell 1
        have s2 := hS.1.1.cell 2
        have hlenm := HLEN2.out _ hS.2
        simp at s0 s1 s2
        go_simp
        exact hK.out _ _ hS (Below.refl _ _) rfl
      refine TellsFrom.cons rfl (fun vs wz hS hd K hK => ?_) ?_
      · try dsimp only at hK ⊢
        try simp only [List.getElem_toArray, List.getElem_cons_succ, List.getElem_cons_zero, Act.put, List.setIfInBounds_toArray, List.set_cons_zero, List.set_cons_succ]
        have s0 := hS.1.1.cell 0
        have s1 := hS.1.1.cell 1
        have s2 := hS.1.1.cell 2
        have hlenm := HLEN2.out _ hS.2
        simp at s0 s1 s2
        go_simp
        exact hK.out _ _ hS (Below.refl _ _) rfl
      refine TellsFrom.cons rfl (fun vs wz hS hd K hK => ?_) ?_
      · try dsimp only at hK ⊢
        have h11 : vs 11 = (.pointer (some ⟨B, 0, none⟩)) := hd 11 (by kernel_rfl)
        generalize vs 11 = x11 at *
        subst h11
        try simp only [List.getElem_toArray, List.getElem_cons_succ, List.getElem_cons_zero, Act.put, List.setIfInBounds_toArray, List.set_cons_zero, List.set_cons_succ]
        have s0 := hS.1.1.cell 0
        have s1 := hS.1.1.cell 1
        have s2 := hS.1.1.cell 2
        have hlenm := HLEN2.out _ hS.2
        simp at s0 s1 s2
        go_simp
        exact hK.out _ _ hS (Below.refl _ _) rfl
      refine TellsFrom.cons rfl (fun vs wz hS hd K hK => ?_) ?_
      · try dsimp only at hK ⊢
        have h12 : vs 12 = (.pointer (some ⟨B, 0, none⟩)) := hd 12 (by kernel_rfl)
        generalize vs 12 = x12 at *
        subst h12
        try simp only [List.getElem_toArray, List.getElem_cons_succ, List.getElem_cons_zero, Act.put, List.setIfInBounds_toArray, List.set_cons_zero, List.set_cons_succ]
        have s0 := hS.1.1.cell 0
        have s1 := hS.1.1.cell 1
        have s2 := hS.1.1.cell 2
        have hlenm := HLEN2.out _ hS.2
        simp at s0 s1 s2
        go_simp
        exact hK.out _ _ hS (Below.refl _ _) rfl
      refine TellsFrom.cons rfl (fun vs wz hS hd K hK => ?_) ?_
      · try dsimp only at hK ⊢
        have h13 : vs 13 = (.pointer (some ⟨B, 0, none⟩)) := hd 13 (by kernel_rfl)
        generalize vs 13 = x13 at *
        subst h13
        try simp only [List.getElem_toArray, List.getElem_cons_succ, List.getElem_cons_zero, Act.put, List.setIfInBounds_toArray, List.set_cons_zero, List.set_cons_succ]
        have s0 := hS.1.1.cell 0
        have s1 := hS.1.1.cell 1
        have s2 := hS.1.1.cell 2
        have hlenm := HLEN2.out _ hS.2
        simp at s0 s1 s2
        go_simp
        exact hK.out _ _ hS (Below.refl _ _) rfl
      refine TellsFrom.cons rfl (fun vs wz hS hd K hK => ?_) ?_
      · try dsimp only at hK ⊢
        have h14 : vs 14 = (.agg #[.int .i64 (b : Int), .bool wide]) := hd 14 (by kernel_rfl)
        generalize vs 14 = x14 at *
        subst h14
        try simp only [List.getElem_toArray, List.getElem_cons_succ, List.getElem_cons_zero, Act.put, List.setIfInBounds_toArray, List.set_cons_zero, List.set_cons_succ]
        go_simp
        refine (HFU.out _).mono ?_
        rintro e v1 ⟨rfl, b1⟩
        exact hK.out _ _ ⟨hS.1.kept b1, map_same hS.2 (b1.block _ hS.2.lt)⟩ b1 rfl
      refine TellsFrom.cons rfl (fun vs wz hS hd K hK => ?_) ?_
      · try dsimp only at hK ⊢
        have h10 : vs 10 = (.int .i64 (L1 : Int)) := hd 10 (by kernel_rfl)
        generalize vs 10 = x10 at *
        subst h10
        have h15 : vs 15 = (.int .i64 (U : Int)) := hd 15 (by kernel_rfl)
        generalize vs 15 = x15 at *
        subst h15
        try simp only [List.getElem_toArray, List.getElem_cons_succ, List.getElem_cons_zero, Act.put, List.setIfInBounds_toArray, List.set_cons_zero, List.set_cons_succ]
        have s0 := hS.1.1.cell 0
        have s1 := hS.1.1.cell 1
        have s2 := hS.1.1.cell 2
        have hlenm := HLEN2.out _ hS.2
        simp at s0 s1 s2
        go_simp
        exact hK.out _ _ hS (Below.refl _ _) rfl
      exact TellsFrom.nil
    · intro vs wz hS hd
      try dsimp only
      have h16 : vs 16 = .bool r := hd 16 (by omega)
      clear hd
      generalize vs 0 = y0 at *
      generalize vs 1 = y1 at *
      generalize vs 2 = y2 at *
      generalize vs 3 = y3 at *
      generalize vs 4 = y4 at *
      generalize vs 5 = y5 at *
      generalize vs 6 = y6 at *
      generalize vs 7 = y7 at *
      generalize vs 8 = y8 at *
      generalize vs 9 = y9 at *
      generalize vs 10 = y10 at *
      generalize vs 11 = y11 at *
      generalize vs 12 = y12 at *
      generalize vs 13 = y13 at *
      generalize vs 14 = y14 at *
      generalize vs 15 = y15 at *
      generalize vs 16 = y16 at *
      subst h16
      have HS5 : Hid (WrT w3 B b wide (.map (some mb)) since ov wz ∧ MapAt wz mb (N + 1) D2) := hS
      clear hS
      refine wpAnyH_done (by kernel_rfl) ?_ _
      try simp only [List.getElem_toArray, List.getElem_cons_succ, List.getElem_cons_zero, Act.put, List.setIfInBounds_toArray, List.set_cons_zero, List.set_cons_succ]
      have hrv := HRV.out
      subst hrv
      have hb5 := HS5.out.1.2
      have hz2 := HS2.out.2.2.1
      have hs2 := hz2.size
      have hs3 := HG3.out.size
      have hown5 : OwnP wz lo ov n out := ownsRow_besides HO.out (fun k hk => by
        have hkl := (World.ownsRow.lt HO.out k hk).2
        exact (hb5.block k (by omega)).trans ((HG3.out.block k (by omega) (fun e => hom (by rw [hk]; exact e))).trans (hz2.block k hkl)))
      have hbel5 : Below lo w wz := ((hz2.mono hlw).grown HG3.out (by omega) (fun k hk => by cases hk; exact hlm)).trans (hb5.mono (by omega))
      have hlz : lo ≤ wz.heap.size := Nat.le_trans hlw hbel5.size
      have HFC : Hid (Calls Try.prog 38 #[.pointer (some ⟨B, 0, none⟩)] wz fun e w'' => e = .returned (.tuple #[]) ∧ WrNew B b n lo wide ov (out ++ [C]) wz w'') := HFO.out wz HS5.out.1.1 hown5 hlz
      have HB5 : Hid (Below lo w wz ∧ OwnP wz lo ov n out) := ⟨hbel5, hown5⟩
      clear hb5 hz2 hs2 hs3 hown5 hbel5
      go_wp2_with fail
      refine HFC.out.mono ?_
      rintro e w6 ⟨rfl, g6, cap6, mb6, hr6, ho6, hm6, hmb6, hg6⟩
      have HFIN : Hid (LrFull B b n lo wide (out ++ [C]) w w6) := ⟨g6, cap6, mb6, hr6, ho6, hm6, by omega, hg6.below HB5.out.1 hlB hlz (fun k hk => (World.ownsRow.lt HB5.out.2 k hk).1)⟩
      clear hr6 ho6 hm6 hg6
      go_wp2_with fail
      go_end0
      exact ⟨rfl, HFIN.out⟩
end Go.Proofs.Ytjfihmpnbblomaa

/- LzwPut of the program. -/
namespace Go.Proofs.Ytjfihmpnbblomaa
open Go.RowKit Go.Maps

theorem shr_small (y b : Nat) (_hy : y < 256) : (y / 2 ^ b = 0) ↔ y < 2 ^ b := by
  rw [Nat.div_eq_zero_iff]
  have : (2 : Nat) ^ b ≠ 0 := by have := Nat.one_le_two_pow (n := b); omega
  omega

set_option maxHeartbeats 1000000 in
theorem bytesFit_any (b : Nat) (s : ByteArray) (w : World) (hb : b ≤ 8) (hs : s.size ≤ 9000) :
    Calls Try.prog 37 #[.string s, .int .i64 (b : Int)] w fun e w' => e = .returned (.bool (Lp.smallB b s)) ∧ w' = w := by
  have HNO : Hid (∀ k (h : k < s.size), 2 ^ b ≤ (s[k]).toNat → Lp.smallB b s = false) := fun k h hk => by
    rw [← Bool.not_eq_true]
    intro hc
    have := Lp.small_of hc k h
    rw [extract_byte s k h] at this
    omega
  have HYES : Hid ((∀ k (h : k < s.size), (s[k]).toNat < 2 ^ b) → Lp.smallB b s = true) := fun h => by
    unfold Lp.smallB
    rw [List.all_eq_true]
    intro k hk
    have hk' := List.mem_range.1 hk
    rw [extract_byte s k hk']
    simpa using h k hk'
  generalize hB : Lp.smallB b s = B at *
  clear hB
  go_enter Try.func37, Try.ntmps37
  go_wp2_with fail
  go_loop [8] (fun i => ∃ k : Nat, k ≤ s.size ∧ i = .int .i64 (k : Int) ∧ Hid (∀ j (h : j < s.size), j < k → (s[j]).toNat < 2 ^ b)) (fun i => s.size - (intOf i).toNat)
  case atStart => exact ⟨0, Nat.zero_le _, rfl, fun j _ h => absurd h (Nat.not_lt_zero _)⟩
  case round =>
    obtain ⟨k, hk, rfl, HA⟩ := hrel
    by_cases hlt : k < s.size
    · obtain ⟨y, hy⟩ : ∃ y, y = (s[k]).toNat := ⟨_, rfl⟩
      have hyb : y < 256 := by rw [hy]; exact UInt8.toNat_lt _
      have hsy : (s[k]).toNat = y := hy.symm
      have hi : (k : Int) < (s.size : Int) := by omega
      have hsh := shr_small y b hyb
      have hA0 : y / 2 ^ b ≤ y := Nat.div_le_self _ _
      obtain ⟨q, hq⟩ : ∃ q, q = y / 2 ^ b := ⟨_, rfl⟩
      rw [← hq] at hsh hA0
      have e1 : (y : Int) / 2 ^ b = (q : Int) := by rw [hq]; simp
      have e2 : (y : Int) >>> b = (q : Int) := by rw [Int.shiftRight_eq_div_pow, hq]; simp
      have hu := wrap_u8_small q (by omega)
      by_cases hsm : y < 2 ^ b
      · have HA2 : Hid (∀ j (h : j < s.size), j < k + 1 → (s[j]).toNat < 2 ^ b) := fun j h hj => by
          rcases Nat.lt_or_ge j k with h1 | h1
          · exact HA.out j h h1
          · have e : j = k := by omega
            subst e
            omega
        have hq0 : q = 0 := hsh.2 hsm
        subst hq0
        clear hy HA hsh hq
        go_wp2_with fail
        go_round
        case rel => exact ⟨k + 1, by omega, by go_num, HA2⟩
        case measure => simp [intOf]; omega
      · have hBf : B = false := HNO.out k hlt (by omega)
        subst hBf
        have hq0 : q ≠ 0 := fun e => hsm (hsh.1 e)
        have hqb : ((q : Int) != 0) = true := by rw [bne_iff_ne]; omega
        clear hy HA hsh hq
        go_wp2_with fail
        go_ret
        exact ⟨rfl, rfl⟩
    · have hBt : B = true := HYES.out (fun j h => HA.out j h (by omega))
      subst hBt
      go_wp2_with fail
      go_ret
      exact ⟨rfl, rfl⟩
end Go.Proofs.Ytjfihmpnbblomaa

/- LzwPut of the program: its loop. -/
namespace Go.Proofs.Ytjfihmpnbblomaa
open Go.RowKit Go.Maps

theorem Lz.width_start {b : Nat} (_hb : b ≤ 8) (hb2 : 2 ≤ b) (wide : Bool) : Lz.width b wide (2 ^ b + 2) = b + 1 := by
  have h1 : 2 ^ 2 ≤ 2 ^ b := Nat.pow_le_pow_right (by omega) hb2
  have h2 : (2 : Nat) ^ (b + 1) = 2 * 2 ^ b := by rw [Nat.pow_succ]; omega
  unfold Lz.width
  refine Lz.grow_stop (fun h => ?_)
  have := h.2
  unfold Lz.known at this
  split at this <;> omega
theorem Lp.known_since {b n : Nat} (h : 2 ^ b + 2 ≤ n) : Lp.known b n = 2 ^ b + 2 + (n - (2 ^ b + 2) - 1) := by
  unfold Lp.known
  generalize 2 ^ b + 2 = F at *
  by_cases e : n = F
  · rw [if_pos e]; omega
  · rw [if_neg e]; omega

/-- between two phrases -/
structure LqA (w : World) (lo B b : Nat) (wide : Bool) (s : ByteArray) (p : Nat) (l : List ByteArray) (out : List (Int × Int)) (ov : Value) (mb N : Nat) (D : DataW Unit) (wr : World) : Prop where
  at_ : Lp.at b wide s (p + 1) = ⟨l, out, s.extract p (p + 1)⟩
  inv : Lq.Inv b l
  wr_ : Wr wr B b wide (.map (some mb)) (l.length - (2 ^ b + 2)) ov
  op : OwnP wr lo ov out.length out
  map_ : MapAt wr mb N D
  nl : N ≤ l.length
  tab : TabIs D b l
  lm : lo ≤ mb
  bel : Below lo w wr
/-- behind the last one -/
structure LqB (w : World) (lo B b : Nat) (wide : Bool) (LL : List (Int × Int)) (mv : Value) (since : Nat) (out : List (Int × Int)) (ov : Value) (wr : World) : Prop where
  wr_ : Wr wr B b wide mv since ov
  op : OwnP wr lo ov out.length out
  bel : Below lo w wr
  si : since ≤ 4200
  ol : out.length ≤ 5003
  all_ : LL = out ++ [(((2 ^ b : Nat) : Int) + 1, (Lz.width b wide (2 ^ b + 2 + (since - 1)) : Int))]
def LqI (w : World) (lo B b : Nat) (wide : Bool) (s : ByteArray) (LL : List (Int × Int)) (p : Nat) (wr : World) : Prop :=
  (p < s.size ∧ ∃ l out ov mb N D, LqA w lo B b wide s p l out ov mb N D wr) ∨ (p = s.size ∧ ∃ mv since out ov, LqB w lo B b wide LL mv since out ov wr)

theorem Lp.at_first {b : Nat} {wide : Bool} {s : ByteArray} (hs : 0 < s.size) : Lp.at b wide s 1 = ⟨Lz.start b, (Lp.init b).out, s.extract 0 1⟩ := by
  show Lp.one b wide (Lp.init b) (s.extract 0 1) = _
  unfold Lp.one Lp.init
  simp only [Lp.nil_app]
  rw [if_pos]
  rw [Lp.num_one (by rw [ByteArray.size_extract]; omega)]
  omega
theorem Lp.close_end {b : Nat} {wide : Bool} {l : List ByteArray} {out : List (Int × Int)} {z : ByteArray} (hz : z.size ≠ 0) (hl : 2 ^ b + 2 ≤ l.length) :
    Lp.close b wide ⟨l, out, z⟩ = (out ++ [Lp.code b wide (Lp.num l z) l.length]) ++ [(((2 ^ b : Nat) : Int) + 1, (Lz.width b wide (2 ^ b + 2 + ((l.length - (2 ^ b + 2) + 1) - 1)) : Int))] := by
  unfold Lp.close
  rw [if_neg hz]
  unfold Lp.code
  rw [Lp.known_since (n := l.length + 1) (by omega), show l.length + 1 - (2 ^ b + 2) - 1 = l.length - (2 ^ b + 2) + 1 - 1 by omega]

set_option linter.unusedSimpArgs false in
set_option maxHeartbeats 4000000 in
set_option maxRecDepth 20000 in
theorem impl_lzwPut_yes (s : ByteArray) (b : Nat) (wide : Bool) (w : World) (hok : Lz.ok b wide = true) (hsz : s.size ≤ 5000) (hsB : Lp.smallB b s = true) :
    Calls Try.prog 13 #[.string s, .int .i64 (b : Int), .bool wide] w fun e w' => e = .returned (.string ⟨((Bp.text wide (Lp.all b wide s)).map UInt8.ofNat).toArray⟩) ∧ Below w.heap.size w w' := by
  have hbd := Lz.ok_rng hok
  have hb : b ≤ 8 := by omega
  have hb2 : 2 ≤ b := by omega
  have hsm := Lp.small_of hsB
  have hallok := Lp.all_ok hb hb2 wide hsm hsz
  have HOK : Hid (∀ w', Calls Try.prog 36 #[.agg #[.int .i64 (b : Int), .bool wide]] w' fun e w'' => e = .returned (.bool true) ∧ Below w'.heap.size w' w'') := fun w' => by rw [← hok]; exact lzOk_any b wide w'
  have HFT : Hid (∀ w', Calls Try.prog 37 #[.string s, .int .i64 (b : Int)] w' fun e w'' => e = .returned (.bool true) ∧ w'' = w') := fun w' => by rw [← hsB]; exact bytesFit_any b s w' hb (by omega)
  have HEN : Hid (∀ w', Calls Try.prog 42 #[.agg #[.int .i64 (b : Int), .bool wide]] w' fun e w'' => e = .returned (.int .i64 ((2 ^ b + 1 : Nat) : Int)) ∧ Below w'.heap.size w' w'') := fun w' => lzEnd_any b hb wide w'
  have HGD : Hid (∀ k, k ≤ s.size → Lp.Good b wide k (Lp.at b wide s k)) := fun k hk => Lp.good_at hb wide hsm k hk
  have HBY : Hid (∀ k (h : k < s.size), (s[k]).toNat < 2 ^ b) := fun k hk => by rw [← extract_byte s k hk]; exact hsm k hk
  obtain ⟨LL, hLL⟩ : ∃ LL, LL = Lp.all b wide s := ⟨_, rfl⟩
  have HLL : Hid (LL = Lp.all b wide s) := hLL
  rw [← hLL] at hallok ⊢
  have HBP : Hid (∀ (a : Option Addr) (cap : Nat) (w' : World), Bits2 w' a LL → Calls Try.prog 43 #[.slice a LL.length cap, .bool wide] w' fun e w'' => e = .returned (.string ⟨((Bp.text wide LL).map UInt8.ofNat).toArray⟩) ∧ Below w'.heap.size w' w'') := fun a cap w' h => by
    have := impl_bitsPut wide a LL.length cap LL w' h rfl (by omega) (fun p hp => by
      obtain ⟨j, hj, e⟩ := List.getElem_of_mem hp
      have := (hallok.1 j hj hj).1
      rw [e] at this
      unfold Bp.Ok at this
      have h3 : 2 ^ p.2.toNat ≤ 2 ^ 24 := Nat.pow_le_pow_right (by omega) (by omega)
      have h4 : (2 : Nat) ^ 24 = 16777216 := by decide
      omega)
    rw [Bp.answer_yes hallok.1] at this
    exact this
  generalize hT : (Bp.text wide LL).map UInt8.ofNat = T at *
  clear hT hLL hok hsB hsm hallok hbd
  have d1 : decide ((s.size : Int) > 5000) = false := decide_eq_false (by omega)
  obtain ⟨W0, hW0⟩ : ∃ W0, W0 = w.alloc (.cells #[.int .i64 (b : Int), .bool wide] 50) := ⟨_, rfl⟩
  have HB0 : Hid (Below w.heap.size w W0) := by show Below _ _ _; rw [hW0]; exact (Below.refl _ _).alloc (Nat.le_refl _) _
  have hz0 : W0.heap.size = w.heap.size + 1 := by rw [hW0]; simp
  have HC0 : Hid (W0.cell? ⟨w.heap.size, 0, none⟩ = some (.int .i64 (b : Int)) ∧ W0.cell? ⟨w.heap.size, 1, none⟩ = some (.bool wide)) := by
    show _ ∧ _
    rw [hW0]; exact ⟨by simp, by simp⟩
  have HW0 : Hid (W0 = w.alloc (.cells #[.int .i64 (b : Int), .bool wide] 50)) := hW0
  clear hW0
  go_enter Try.func13, Try.ntmps13
  go_wp2_with fail
  refine (HOK.out _).mono ?_
  rintro e w1 ⟨rfl, b1⟩
  rw [← HW0.out] at b1
  have HB1 : Hid (Below w.heap.size w w1) := HB0.out.trans (b1.mono (by omega))
  have hz1 : w.heap.size + 1 ≤ w1.heap.size := by have := b1.size; omega
  have c10 : w1.cell? ⟨w.heap.size, 0, none⟩ = some (.int .i64 (b : Int)) := (b1.cell (p := ⟨w.heap.size, 0, none⟩) (by show w.heap.size < _; omega)).trans HC0.out.1
  have c11 : w1.cell? ⟨w.heap.size, 1, none⟩ = some (.bool wide) := (b1.cell (p := ⟨w.heap.size, 1, none⟩) (by show w.heap.size < _; omega)).trans HC0.out.2
  clear b1 HB0 HC0 HW0 HOK hz0
  go_wp2_with fail
  refine (HFT.out _).mono ?_
  rintro e w2 ⟨rfl, hw2⟩
  replace hw2 := hw2.symm
  subst hw2
  clear HFT
  obtain ⟨B, hB⟩ : ∃ B, B = w1.heap.size := ⟨_, rfl⟩
  obtain ⟨W2, hW2⟩ : ∃ W2, W2 = w1.alloc (.cells #[.int .i64 (b : Int), .bool wide, .map none, .int .i64 0, .slice none 0 0] 63) := ⟨_, rfl⟩
  have hr2 : Wr W2 B b wide (.map none) 0 (.slice none 0 0) := by rw [hW2, hB]; exact World.alloc_heap_new w1 _
  have hb2' : Below w.heap.size w W2 := by rw [hW2]; exact HB1.out.alloc HB1.out.size _
  have hlB : w.heap.size ≤ B := by rw [hB]; exact HB1.out.size
  have HFO : Hid (Calls Try.prog 38 #[.pointer (some ⟨B, 0, none⟩)] W2 fun e w' => e = .returned (.tuple #[]) ∧ LqI w w.heap.size B b wide s LL 0 w') := by
    refine (wrForget B b 0 0 w.heap.size wide (.map none) (.slice none 0 0) [] _ W2 hb hr2 (World.ownsRow_nil _ _ _ _) hb2'.size (by omega) (by omega) rfl).mono ?_
    rintro e w3 ⟨rfl, g, cap, mb, hr3, ho3, hm3, hmb, hg3⟩
    refine ⟨rfl, ?_⟩
    have hbel3 : Below w.heap.size w w3 := hg3.below hb2' hlB hb2'.size (fun k hk => by cases hk)
    have hout : ([] : List (Int × Int)) ++ [(((2 ^ b : Nat) : Int), (Lz.width b wide (2 ^ b + 2 + (0 - 1)) : Int))] = (Lp.init b).out := by
      rw [show 2 ^ b + 2 + (0 - 1) = 2 ^ b + 2 by omega, Lz.width_start hb hb2]; rfl
    rw [hout] at ho3
    by_cases hs0 : 0 < s.size
    · refine .inl ⟨hs0, Lz.start b, (Lp.init b).out, .slice (some ⟨g, 0, none⟩) (0 + 1) cap, mb, 0, .map [], { at_ := Lp.at_first hs0, inv := Lq.inv_start hb, wr_ := ?_, op := ho3, map_ := hm3, nl := Nat.zero_le _, tab := tab_start b, lm := by have := hb2'.size; omega, bel := hbel3 }⟩
      rw [Lz.start_len, Nat.sub_self]; exact hr3
    · refine .inr ⟨by omega, _, 0, (Lp.init b).out, _, { wr_ := hr3, op := ho3, bel := hbel3, si := by omega, ol := by show 1 ≤ _; omega, all_ := ?_ }⟩
      rw [HLL.out]
      have e0 : s.size = 0 := by omega
      unfold Lp.all
      rw [e0]
      show Lp.close b wide (Lp.init b) = _
      unfold Lp.close
      rw [if_pos (show (Lp.init b).last.size = 0 from rfl)]
      unfold Lp.code
      rw [show (Lp.init b).l.length = 2 ^ b + 2 from Lz.start_len b, Lp.known_since (Nat.le_refl _), show 2 ^ b + 2 - (2 ^ b + 2) - 1 = 0 - 1 by omega]
  have HW2 : Hid (w1.alloc (.cells #[.int .i64 (b : Int), .bool wide, .map none, .int .i64 0, .slice none 0 0] 63) = W2) := hW2.symm
  have HBB : Hid (B = w1.heap.size) := hB
  rw [hW2, hB] at HFO
  clear hr2 hb2' hW2 hB
  go_wp2_with fail
  refine HFO.out.mono ?_
  rintro e w3 ⟨rfl, hI⟩
  rw [← HBB.out] at hI ⊢
  have HI0 : Hid (LqI w w.heap.size B b wide s LL 0 w3) := hI
  clear hI HFO HW2 HBB c10 c11 HB1 hz1
  go_wp2_with fail
  go_loopw [9] (fun pv wr => ∃ p : Nat, p ≤ s.size ∧ pv = .int .i64 (p : Int) ∧ Hid (LqI w w.heap.size B b wide s LL p wr)) (fun pv _ => s.size - (intOf pv).toNat)
  case atStart => exact ⟨0, Nat.zero_le _, rfl, HI0⟩
  case round =>
    obtain ⟨p, hp, rfl, HI⟩ := hrel
    clear HI0
    by_cases hlt : p < s.size
    · rcases HI.out with ⟨-, l, out, ov, mb, N, D, hA⟩ | ⟨hq, -⟩
      · have HA : Hid (LqA w w.heap.size B b wide s p l out ov mb N D wr) := hA
        clear hA HI
        have hgd := HGD.out (p + 1) (by omega)
        rw [HA.out.at_] at hgd
        have HG1 : Hid (Lp.Good b wide (p + 1) ⟨l, out, s.extract p (p + 1)⟩) := hgd
        have hll : l.length < Lp.full wide := hgd.hi
        have hlo2 : 2 ^ b + 2 ≤ l.length := hgd.lo
        have hol : out.length ≤ 5002 := Lp.len_bd hb hgd (by omega)
        have hfb := Lp.full_bd wide
        have hl95 : l.length ≤ 4094 := by have h1 := hll; have h2 := hfb.2; omega
        have hs42 : l.length - (2 ^ b + 2) + 1 ≤ 4200 := Nat.le_trans (Nat.succ_le_succ (Nat.sub_le _ _)) (by omega)
        clear hgd
        obtain ⟨u, hu⟩ : ∃ u, u = s.extract p s.size := ⟨_, rfl⟩
        have hus : u.size = s.size - p := by rw [hu, ByteArray.size_extract]; omega
        have hux : ∀ j, j ≤ s.size - p → u.extract 0 j = s.extract p (p + j) := fun j hj => by
          rw [hu, ByteArray.extract_extract]
          congr 1
          omega
        have hub : ∀ k (h : k < u.size), (u[k]).toNat < 2 ^ b := fun k hk => by
          have e : u[k] = s[p + k]'(by omega) := by subst hu; exact ByteArray.getElem_extract ..
          rw [e]; exact HBY.out (p + k) (by omega)
        have HLG : Hid (Calls Try.prog 39 #[.pointer (some ⟨B, 0, none⟩), .string u] wr (LongOut l u wr)) := wrLongest B b _ mb N wide ov D l u wr hb HA.out.wr_ HA.out.map_ HA.out.tab HA.out.inv (by omega) (by omega) (by omega) hub
        have HU : Hid (u.size = s.size - p ∧ ∀ j, j ≤ s.size - p → u.extract 0 j = s.extract p (p + j)) := ⟨hus, hux⟩
        have eu : s.extract p s.size = u := hu.symm
        have hpi : (p : Int) < (s.size : Int) := by omega
        clear hu hus hux hub
        go_wp2_with fail
        refine HLG.out.mono ?_
        rintro e w5 ⟨v, k, rfl, hk1, hk2, hkn, hkv, hke, m, hw5⟩
        have hkp : p + k ≤ s.size := by have := HU.out.1; omega
        obtain ⟨z, hz⟩ : ∃ z, z = s.extract p (p + k) := ⟨_, rfl⟩
        have hzs : z.size = k := by rw [hz, ByteArray.size_extract]; omega
        have HZV : Hid (Lp.num l z = (v : Int)) := by show _ = _; rw [hz, ← HU.out.2 k (by omega)]; exact hkv
        have HATK : Hid (Lp.at b wide s (p + k) = ⟨l, out, z⟩) := by
          show _ = _
          rw [hz]
          exact Lq.run HA.out.at_ (fun j h1 h2 => by rw [← HU.out.2 j (by omega)]; exact hkn j h1 h2) k hk1 (Nat.le_refl _)
        have HEND : Hid (p + k = s.size ∨ (p + k < s.size ∧ Lp.num l (s.extract p (p + (k + 1))) < 0)) := by
          rcases hke with h1 | ⟨h1, h2⟩
          · exact .inl (by have := HU.out.1; omega)
          · refine .inr ⟨by have := HU.out.1; omega, ?_⟩
            rw [← HU.out.2 (k + 1) (by have := HU.out.1; omega)]; exact h2
        have HZB : Hid (z.size = 1 → Lp.byte z < 2 ^ b) := fun h1 => by
          have e1 : k = 1 := by omega
          rw [hz, e1, extract_byte s p hlt]; exact HBY.out p hlt
        have HA5 : Hid (LqA w w.heap.size B b wide s p l out ov mb N D w5) := by
          subst hw5
          exact ⟨HA.out.at_, HA.out.inv, HA.out.wr_, HA.out.op, HA.out.map_, HA.out.nl, HA.out.tab, HA.out.lm, below_drewN HA.out.bel m⟩
        have HZZ : Hid (z = s.extract p (p + k)) := hz
        clear hz hkn hkv hke hw5 HA HLG HU eu
        have hsz5 : w.heap.size ≤ w5.heap.size := HA5.out.bel.size
        obtain ⟨C, hC⟩ : ∃ C, C = Lp.code b wide (v : Int) l.length := ⟨_, rfl⟩
        have HPU : Hid (Calls Try.prog 40 #[.pointer (some ⟨B, 0, none⟩), .int .i64 (v : Int)] w5 fun e w' => e = .returned (.tuple #[]) ∧ ∃ g cap, Wr w' B b wide (.map (some mb)) (l.length - (2 ^ b + 2) + 1) (.slice (some ⟨g, 0, none⟩) (out.length + 1) cap) ∧ OwnP w' w.heap.size (.slice (some ⟨g, 0, none⟩) (out.length + 1) cap) (out.length + 1) (out ++ [C]) ∧ WrG B ov w5 w') :=
          wrPut B b (l.length - (2 ^ b + 2)) out.length w.heap.size wide _ ov (v : Int) out C w5 hb HA5.out.wr_ HA5.out.op hsz5 (by omega) (Nat.le_trans (Nat.le_succ _) hs42) (by rw [hC]; unfold Lp.code; rw [Lp.known_since hlo2])
        have HC : Hid (C = Lp.code b wide (v : Int) l.length) := hC
        clear hC
        have hkI : (p : Int) + (k : Int) = ((p + k : Nat) : Int) := by omega
        go_wp2_with fail
        refine HPU.out.mono ?_
        rintro e w6 ⟨rfl, g6, cap6, hr6, ho6, hg6⟩
        have hmB := map_writer HA5.out.map_ HA5.out.wr_
        have hom := map_apart HA5.out.map_ HA5.out.op
        have hm6 : MapAt w6 mb N D := map_same HA5.out.map_ (hg6.block mb HA5.out.map_.lt hmB (fun e => hom e.symm))
        have hbel6 : Below w.heap.size w w6 := hg6.below HA5.out.bel hlB hsz5 (fun k hk => (World.ownsRow.lt HA5.out.op k hk).1)
        have HS6 : Hid (Wr w6 B b wide (.map (some mb)) (l.length - (2 ^ b + 2) + 1) (.slice (some ⟨g6, 0, none⟩) (out.length + 1) cap6) ∧ OwnP w6 w.heap.size (.slice (some ⟨g6, 0, none⟩) (out.length + 1) cap6) (out.length + 1) (out ++ [C]) ∧ MapAt w6 mb N D ∧ Below w.heap.size w w6) := ⟨hr6, ho6, hm6, hbel6⟩
        have HK6 : Hid (TabIs D b l ∧ Lq.Inv b l ∧ N ≤ l.length ∧ w.heap.size ≤ mb) := ⟨HA5.out.tab, HA5.out.inv, HA5.out.nl, HA5.out.lm⟩
        clear hr6 ho6 hg6 hm6 hbel6 hom hmB HPU HA5 hsz5
        by_cases hfin : p + k < s.size
        · obtain ⟨c, hc⟩ : ∃ c, c = (s[p + k]).toNat := ⟨_, rfl⟩
          have hcb : c < 256 := by rw [hc]; exact UInt8.toNat_lt _
          have hsc : (s[p + k]).toNat = c := hc.symm
          have hx1 : s.extract (p + k) (p + k + 1) = Lz.one c := by
            have hs1 : (s.extract (p + k) (p + k + 1)).size = 1 := by rw [ByteArray.size_extract]; omega
            rw [Lp.one_of hs1, extract_byte s (p + k) hfin, hc]
          have hzx : z ++ Lz.one c = s.extract p (p + (k + 1)) := by
            rw [HZZ.out, ← hx1, ByteArray.extract_append_extract, Nat.min_eq_left (by omega), Nat.max_eq_right (by omega)]
            rfl
          have hnum : Lp.num l (z ++ Lz.one c) < 0 := by
            rw [hzx]
            rcases HEND.out with h1 | h1
            · omega
            · exact h1.2
          have hfind : Lp.find l (z ++ Lz.one c) < 0 := by rw [← Lp.num_two rfl (by omega)]; exact hnum
          have hnx : Lp.at b wide s (p + k + 1) = Lp.one b wide ⟨l, out, z⟩ (Lz.one c) := by
            show Lp.one b wide (Lp.at b wide s (p + k)) (s.extract (p + k) (p + k + 1)) = _
            rw [HATK.out, hx1]
          obtain ⟨P, hP⟩ : ∃ P : Nat, P = p + k := ⟨_, rfl⟩
          have hPb : P < s.size := by omega
          have hPi : (P : Int) < (s.size : Int) := by omega
          have hkI2 : (p : Int) + (k : Int) = (P : Int) := by omega
          have hscP : (s[P]).toNat = c := by subst hP; exact hsc
          have HX : Hid (s.extract P (P + 1) = Lz.one c ∧ Lp.at b wide s (P + 1) = Lp.one b wide ⟨l, out, z⟩ (Lz.one c)) := by rw [hP]; exact ⟨hx1, hnx⟩
          have HLN : Hid (Calls Try.prog 41 #[.pointer (some ⟨B, 0, none⟩), .agg #[.int .i64 (v : Int), .int .u8 (c : Int)]] w6 fun e w' => e = .returned (.tuple #[]) ∧ LqI w w.heap.size B b wide s LL P w') := by
            by_cases hfl : l.length + 1 < Lp.full wide
            · refine (wrLearn_add B b _ (out.length + 1) w.heap.size mb N v c wide _ D l z (out ++ [C]) w6 hb HS6.out.1 HS6.out.2.1 HS6.out.2.2.1 HK6.out.1 HK6.out.2.1 hlB HK6.out.2.2.2 (by omega) (by have := HK6.out.2.2.1; omega) HZV.out HZB.out (by omega) hfind hcb hfl).mono ?_
              rintro e w7 ⟨rfl, D2, hr7, ho7, hm7, ht7, hb7⟩
              refine ⟨rfl, .inl ⟨hPb, l ++ [z ++ Lz.one c], out ++ [C], .slice (some ⟨g6, 0, none⟩) (out.length + 1) cap6, mb, N + 1, D2, { at_ := ?_, inv := Lq.inv_more HK6.out.2.1 rfl (by omega) (by rw [HZV.out]; omega) hfind, wr_ := ?_, op := ?_, map_ := hm7, nl := ?_, tab := ht7, lm := HK6.out.2.2.2, bel := HS6.out.2.2.2.trans hb7 }⟩⟩
              · rw [HX.out.2, HX.out.1, Lp.one_add (by show ¬ 0 ≤ Lp.num l (z ++ Lz.one c); omega) (by show ¬ Lp.full wide ≤ l.length + 1; omega), HC.out]
                show Lp.St.mk _ (out ++ [Lp.code b wide (Lp.num l z) l.length]) _ = _
                rw [HZV.out]
              · rw [List.length_append, show l.length + [z ++ Lz.one c].length - (2 ^ b + 2) = l.length - (2 ^ b + 2) + 1 by simp; omega]
                exact hr7
              · rw [List.length_append]; exact ho7
              · rw [List.length_append]; have := HK6.out.2.2.1; simp; omega
            · refine (wrLearn_full B b _ (out.length + 1) w.heap.size mb N v c wide _ D l z (out ++ [C]) _ w6 hb HS6.out.1 HS6.out.2.1 HS6.out.2.2.1 HK6.out.1 HK6.out.2.1 hlB HK6.out.2.2.2 (by omega) (by have := HK6.out.2.2.1; omega) HZV.out HZB.out (by omega) hfind hcb (by omega) rfl rfl).mono ?_
              rintro e w7 ⟨rfl, g7, cap7, mb7, hr7, ho7, hm7, hmb7, hb7⟩
              refine ⟨rfl, .inl ⟨hPb, Lz.start b, (out ++ [C]) ++ [Lp.code b wide ((2 ^ b : Nat) : Int) (l.length + 1)], .slice (some ⟨g7, 0, none⟩) (out.length + 1 + 1) cap7, mb7, 0, .map [], { at_ := ?_, inv := Lq.inv_start hb, wr_ := ?_, op := ?_, map_ := hm7, nl := Nat.zero_le _, tab := tab_start b, lm := hmb7, bel := HS6.out.2.2.2.trans hb7 }⟩⟩
              · rw [HX.out.2, HX.out.1, Lp.one_full (by show ¬ 0 ≤ Lp.num l (z ++ Lz.one c); omega) (by show Lp.full wide ≤ l.length + 1; omega), HC.out]
                show Lp.St.mk _ ((out ++ [Lp.code b wide (Lp.num l z) l.length]) ++ _) _ = _
                rw [HZV.out]
              · rw [Lz.start_len, Nat.sub_self]; exact hr7
              · rw [List.length_append, List.length_append]; exact ho7
          clear hc hx1 hzx hnum hfind hnx hP HX HK6 HS6 HZV HATK HEND HZB HZZ HC hsc hkI
          go_wp2_with fail
          refine HLN.out.mono ?_
          rintro e w7 ⟨rfl, hI7⟩
          have HI7 : Hid (LqI w w.heap.size B b wide s LL P w7) := hI7
          clear hI7 HLN
          go_wp2_with fail
          go_roundw
          case rel => exact ⟨P, by omega, rfl, HI7⟩
          case measure => simp [intOf]; omega
        · obtain ⟨P, hP⟩ : ∃ P : Nat, P = p + k := ⟨_, rfl⟩
          have hPs : P = s.size := by omega
          have hPi : ¬ (P : Int) < (s.size : Int) := by omega
          have hkI2 : (p : Int) + (k : Int) = (P : Int) := by omega
          have HI7 : Hid (LqI w w.heap.size B b wide s LL P w6) := by
            refine .inr ⟨hPs, .map (some mb), l.length - (2 ^ b + 2) + 1, out ++ [C], .slice (some ⟨g6, 0, none⟩) (out.length + 1) cap6, { wr_ := HS6.out.1, op := by rw [List.length_append]; exact HS6.out.2.1, bel := HS6.out.2.2.2, si := hs42, ol := by rw [List.length_append]; show out.length + 1 ≤ _; omega, all_ := ?_ }⟩
            rw [HLL.out]
            unfold Lp.all
            rw [← hPs, hP, HATK.out, Lp.close_end (by omega) hlo2, HZV.out, HC.out]
          have hpP : p < P := by omega
          clear hP HK6 HS6 HZV HATK HEND HZB HZZ HC hkI
          have HPS : Hid (P = s.size) := hPs
          clear hPs
          go_wp2_with fail
          go_roundw
          case rel => exact ⟨P, by have := HPS.out; omega, rfl, HI7⟩
          case measure => simp [intOf]; have := HPS.out; omega
      · omega
    · rcases HI.out with ⟨hq, -⟩ | ⟨-, mv, since, out, ov, hBB⟩
      · exact absurd hq hlt
      · have HBX : Hid (LqB w w.heap.size B b wide LL mv since out ov wr) := hBB
        have c0 := hBB.wr_.cell 0
        have c1 := hBB.wr_.cell 1
        simp at c0 c1
        have hpi : ¬ (p : Int) < (s.size : Int) := by omega
        clear hBB HI
        go_wp2_with fail
        refine (HEN.out _).mono ?_
        rintro e w4 ⟨rfl, b4⟩
        have hr4 : Wr w4 B b wide mv since ov := HBX.out.wr_.same (b4.block _ HBX.out.wr_.lt)
        have ho4 : OwnP w4 w.heap.size ov out.length out := row_below HBX.out.op b4
        have hbel4 : Below w.heap.size w w4 := HBX.out.bel.trans (b4.mono HBX.out.bel.size)
        have HPU : Hid (Calls Try.prog 40 #[.pointer (some ⟨B, 0, none⟩), .int .i64 ((2 ^ b + 1 : Nat) : Int)] w4 fun e w' => e = .returned (.tuple #[]) ∧ ∃ g cap, Wr w' B b wide mv (since + 1) (.slice (some ⟨g, 0, none⟩) LL.length cap) ∧ Bits2 w' (some ⟨g, 0, none⟩) LL ∧ Below w.heap.size w w') := by
          refine (wrPut B b since out.length w.heap.size wide mv ov _ out _ w4 hb hr4 ho4 hbel4.size (by have := HBX.out.ol; omega) HBX.out.si rfl).mono ?_
          rintro e w5 ⟨rfl, g, cap, hr5, ho5, hg5⟩
          have hLL2 : LL = out ++ [(((2 ^ b + 1 : Nat) : Int), (Lz.width b wide (2 ^ b + 2 + (since - 1)) : Int))] := by rw [HBX.out.all_]; rfl
          have hlen : LL.length = out.length + 1 := by rw [hLL2, List.length_append]; rfl
          rw [← hLL2, ← hlen] at ho5
          rw [← hlen] at hr5
          obtain ⟨ao, c2, he, hbits⟩ := OwnP.bits ho5
          cases he
          exact ⟨rfl, g, cap, hr5, hbits, hg5.below hbel4 hlB hbel4.size (fun k hk => (World.ownsRow.lt ho4 k hk).1)⟩
        clear b4 hr4 ho4 hbel4 HEN HBX c0 c1
        generalize 2 ^ b + 1 = E at *
        go_wp2_with fail
        refine HPU.out.mono ?_
        rintro e w5 ⟨rfl, g, cap, hr5, hbits, hb5⟩
        have HS5 : Hid (Bits2 w5 (some ⟨g, 0, none⟩) LL ∧ Below w.heap.size w w5) := ⟨hbits, hb5⟩
        have k4 := hr5.cell 4
        simp at k4
        clear hr5 hbits hb5 HPU
        go_wp2_with fail
        refine (HBP.out (some ⟨g, 0, none⟩) cap w5 HS5.out.1).mono ?_
        rintro e w6 ⟨rfl, b6⟩
        have HB6 : Hid (Below w.heap.size w w6) := HS5.out.2.trans (b6.mono HS5.out.2.size)
        clear b6 HS5
        go_wp2_with fail
        go_ret
        exact ⟨rfl, HB6.out⟩
end Go.Proofs.Ytjfihmpnbblomaa

/- Whether so many bits can be packed, by the specification. -/
namespace Go.Proofs.Ytjfihmpnbblomaa
open Go.RowKit

def inB (n lo hi : Int) : Bool := decide (lo ≤ n ∧ n ≤ hi)
theorem l6In_any (n lo hi : Int) (w : World) : Calls Try.prog 32 #[.int .i64 n, .int .i64 lo, .int .i64 hi] w fun e w' => e = .returned (.bool (inB n lo hi)) ∧ w' = w := by
  by_cases h : lo ≤ n ∧ n ≤ hi
  · rw [show inB n lo hi = true from decide_eq_true h]
    exact l1In_yes n lo hi w h.1 h.2
  · rw [show inB n lo hi = false from decide_eq_false h]
    exact l1In_no n lo hi w h

set_option maxHeartbeats 400000 in
theorem l6Ok_any (b : Int) (wide : Bool) (w : World) : Calls Try.prog 31 #[.int .i64 b, .bool wide] w fun e w' => e = .returned (.bool (Lz.ok b wide)) ∧ w' = w := by
  have HIN : Hid (∀ w, Calls Try.prog 32 #[.int .i64 b, .int .i64 2, .int .i64 8] w fun e w' => e = .returned (.bool (inB b 2 8)) ∧ w' = w) := fun w => l6In_any b 2 8 w
  cases wide with
  | true =>
    by_cases h8 : b = 8
    · subst h8
      rw [show inB 8 2 8 = true from rfl] at HIN
      go_enter Try.func31, Try.ntmps31
      go_wp2_with fail
      refine (HIN.out _).mono ?_
      rintro e w1 ⟨rfl, hw1⟩
      subst hw1
      go_wp2_with fail
      go_ret
      exact ⟨rfl, rfl⟩
    · have hr : Lz.ok b true = false := by simp [Lz.ok, h8]
      rw [hr]
      have hb8 : (b == 8) = false := by simpa using h8
      generalize inB b 2 8 = k at HIN
      cases k
      all_goals
        go_enter Try.func31, Try.ntmps31
        go_wp2_with fail
        refine (HIN.out _).mono ?_
        rintro e w1 ⟨rfl, hw1⟩
        subst hw1
        go_wp2_with fail
        go_ret
        first | exact ⟨rfl, rfl⟩ | exact ⟨by simp [h8], rfl⟩
  | false =>
    have hr : Lz.ok b false = inB b 2 8 := by simp [Lz.ok, inB, Bool.decide_and]
    rw [hr]
    generalize inB b 2 8 = k at HIN ⊢
    cases k
    all_goals
      go_enter Try.func31, Try.ntmps31
      go_wp2_with fail
      refine (HIN.out _).mono ?_
      rintro e w1 ⟨rfl, hw1⟩
      subst hw1
      go_wp2_with fail
      go_ret
      exact ⟨rfl, rfl⟩
end Go.Proofs.Ytjfihmpnbblomaa

/- LzwPut of the program at every input; the exact law, walked. -/
namespace Go.Proofs.Ytjfihmpnbblomaa
open Go.RowKit

set_option maxHeartbeats 1000000 in
theorem impl_lzwPut (s : ByteArray) (b : Int) (wide : Bool) (w : World) (hs : s.size ≤ 3000000) :
    Calls Try.prog 13 #[.string s, .int .i64 b, .bool wide] w fun e w' => e = .returned (.string ⟨(Lp.ans s b wide).toArray⟩) ∧ Below w.heap.size w w' := by
  have HOK : Hid (∀ w', Calls Try.prog 36 #[.agg #[.int .i64 b, .bool wide]] w' fun e w'' => e = .returned (.bool (Lz.ok b wide)) ∧ Below w'.heap.size w' w'') := fun w' => lzOk_any b wide w'
  have HB0 : Hid (Below w.heap.size w (w.alloc (.cells #[.int .i64 b, .bool wide] 50))) := (Below.refl _ _).alloc (Nat.le_refl _) _
  cases hk : Lz.ok b wide with
  | false =>
    have HA : Hid (Lp.ans s b wide = []) := by show _ = _; unfold Lp.ans Lp.ok; rw [hk]; rfl
    rw [hk] at HOK
    rw [HA.out]
    clear hk HA
    go_enter Try.func13, Try.ntmps13
    go_wp2_with fail
    refine (HOK.out _).mono ?_
    rintro e w1 ⟨rfl, b1⟩
    have HB1 : Hid (Below w.heap.size w w1) := HB0.out.trans (b1.mono HB0.out.size)
    clear b1 HB0 HOK
    go_wp2_with fail
    go_ret
    exact ⟨rfl, HB1.out⟩
  | true =>
    have hbd := Lz.ok_rng hk
    obtain ⟨B, rfl⟩ := Int.eq_ofNat_of_zero_le (show 0 ≤ b by omega)
    have HAN : Hid (Lp.ans s B wide = if (decide (s.size ≤ 5000) && Lp.smallB B s) then (Bp.text wide (Lp.all B wide s)).map UInt8.ofNat else []) := by show _ = _; unfold Lp.ans Lp.ok; rw [hk, Bool.true_and, Int.toNat_natCast]
    by_cases h5 : 5000 < s.size
    · have HA : Hid (Lp.ans s B wide = []) := by show _ = _; rw [HAN.out, decide_eq_false (by omega)]; rfl
      rw [HA.out]
      rw [hk] at HOK
      have d1 : decide ((s.size : Int) > 5000) = true := decide_eq_true (by omega)
      clear HAN HA hk
      go_enter Try.func13, Try.ntmps13
      go_wp2_with fail
      refine (HOK.out _).mono ?_
      rintro e w1 ⟨rfl, b1⟩
      have HB1 : Hid (Below w.heap.size w w1) := HB0.out.trans (b1.mono HB0.out.size)
      clear b1 HB0 HOK
      go_wp2_with fail
      go_ret
      exact ⟨rfl, HB1.out⟩
    · cases hsm : Lp.smallB B s with
      | false =>
        have HA : Hid (Lp.ans s B wide = []) := by show _ = _; rw [HAN.out, hsm, Bool.and_false]; rfl
        have HFT : Hid (∀ w', Calls Try.prog 37 #[.string s, .int .i64 (B : Int)] w' fun e w'' => e = .returned (.bool false) ∧ w'' = w') := fun w' => by rw [← hsm]; exact bytesFit_any B s w' (by omega) (by omega)
        have d1 : decide ((s.size : Int) > 5000) = false := decide_eq_false (by omega)
        rw [HA.out]
        rw [hk] at HOK
        clear HAN HA hk hsm
        go_enter Try.func13, Try.ntmps13
        go_wp2_with fail
        refine (HOK.out _).mono ?_
        rintro e w1 ⟨rfl, b1⟩
        have HB1 : Hid (Below w.heap.size w w1) := HB0.out.trans (b1.mono HB0.out.size)
        clear b1 HB0 HOK
        go_wp2_with fail
        refine (HFT.out _).mono ?_
        rintro e w2 ⟨rfl, hw2⟩
        replace hw2 := hw2.symm
        subst hw2
        go_wp2_with fail
        go_ret
        exact ⟨rfl, HB1.out⟩
      | true =>
        have HA : Hid (Lp.ans s B wide = (Bp.text wide (Lp.all B wide s)).map UInt8.ofNat) := by show _ = _; rw [HAN.out, hsm, Bool.and_true, decide_eq_true (by omega)]; rfl
        rw [HA.out]
        exact impl_lzwPut_yes s B wide w hk (by omega) hsm

set_option maxHeartbeats 1000000 in
theorem exLzwPut (s : ByteArray) (b : Int) (wide : Bool) (hs : s.size ≤ maxLen) (_hw : (Lit.int .i64 b).wf = true) (w : World) :
    Calls Try.prog 6 #[.string s, .int .i64 b, .bool wide] w fun e w' => e = .returned (.bool true) ∧ Below w.heap.size w w' := by
  by_cases hbig : 1048576 < s.size
  · unfold maxLen at hs
    go_enter Try.func6, Try.ntmps6
    go_wp2_with fail
    go_ret
    exact ⟨rfl, Below.refl _ _⟩
  have hsm : s.size ≤ 1048576 := by omega
  obtain ⟨T, hT⟩ : ∃ T : ByteArray, T = ⟨(Lp.ans s b wide).toArray⟩ := ⟨_, rfl⟩
  have HSP : Hid (∀ w : World, Calls Try.prog 14 #[.string s, .int .i64 b, .bool wide] w fun e w' => e = .returned (.string T) ∧ Below w.heap.size w w') := fun w => by rw [hT]; exact spec_lzwPut s b wide w (by omega) (fun w => l6Ok_any b wide w)
  have HIM : Hid (∀ w : World, Calls Try.prog 13 #[.string s, .int .i64 b, .bool wide] w fun e w' => e = .returned (.string T) ∧ Below w.heap.size w w') := fun w => by rw [hT]; exact impl_lzwPut s b wide w (by omega)
  have hbe : (T.toList == T.toList) = true := by simp
  clear hT hbig
  go_enter Try.func6, Try.ntmps6
  go_wp2_with fail
  refine (HSP.out _).mono ?_
  rintro e w1 ⟨rfl, b1⟩
  go_wp2_with fail
  refine (HIM.out _).mono ?_
  rintro e w2 ⟨rfl, b2⟩
  have B2 : Hid (Below w.heap.size w w2) := b1.trans (b2.mono b1.size)
  clear b1 b2 HSP HIM
  go_wp2_with fail
  go_ret
  exact ⟨rfl, B2.out⟩
end Go.Proofs.Ytjfihmpnbblomaa
