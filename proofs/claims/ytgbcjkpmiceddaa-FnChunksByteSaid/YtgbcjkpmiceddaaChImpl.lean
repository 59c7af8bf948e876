/- ChunksPut of the program. -/
import Derived.Test.YtgbcjkpmiceddaaChSpec
import Derived.Test.YtgbcjkpmiceddaaOwnText
import Derived.Lib.SlBytesConst
namespace Go.Proofs.Ytgbcjkpmiceddaa
open Go.RowKit

/-- a text more, in a row of one's own -/
theorem wpList_appStr {ops : Array Oper} {rest : List Oper} {o : Oper} {a : Act} {Q : Exit → Act → World → Prop} (w0 : World) (hgd : o.guard = none) (sl x : Operand)
    (ho : o.op = .call { callee := .builtin .append, args := #[sl, x], argTypes := #[22, 9] })
    (base : Nat) (v : Value) (n : Nat) (l : List UInt8) (s : ByteArray) (hs : a.eval sl = v) (hown : OwnT w0 base v n l) (hx : a.eval x = .string s) (hn : n + s.size ≤ 2000000) (hb : base ≤ w0.heap.size)
    (h : ∀ v' w', OwnT w' base v' (n + s.size) (l ++ s.data.toList) → w0.grownBy w' v.ownBlock → wpList Try.prog ops Q rest (a.put o.dst v') w') :
    wpList Try.prog ops Q (o :: rest) a w0 := by
  obtain ⟨i0, hi0, hz0, hz1, hz2⟩ := info_parts info_u8t
  refine Go.Lib.wpList_append_own_string _ hgd sl x _ _ ho base 5 i0 Try.underlying22 Try.underlying9 hi0 hz0 hz1 hz2 v n (u8V l) hs hown s hx (by unfold maxLen; omega) (by omega) hb ?_
  intro v' w' hown' hg _
  rw [u8V_str, u8V_append] at hown'
  exact h v' w' hown' hg

theorem ChT.shape {w : World} {B n : Nat} {v : Value} {l : List UInt8} (h : OwnT w B v n l) : ∃ ao cap, v = .slice ao n cap := by
  rcases h.2 with ⟨rfl, h0⟩ | ⟨g, cap, cur, rfl, _⟩
  · exact ⟨none, 0, by rw [h0]⟩
  · exact ⟨_, _, rfl⟩
theorem ChT.below {w w' : World} {B n : Nat} {v : Value} {l : List UInt8} (h : OwnT w B v n l) (hb : Below w.heap.size w w') : OwnT w' B v n l := by
  refine ⟨h.1, ?_⟩
  rcases h.2 with h2 | ⟨g, cap, cur, hv, hg, hh, r⟩
  · exact .inl h2
  · exact .inr ⟨g, cap, cur, hv, hg, by rw [hb.block g (Array.getElem?_eq_some_iff.1 hh).1]; exact hh, r⟩

/-- the box of a piece -/
def Bx (w : World) (k : Nat) (v s : ByteArray) : Prop := w.heap[k]? = some (.cells #[.string v, .string s] 46 (0, 0))
theorem Bx.lt {w : World} {k : Nat} {v s : ByteArray} (h : Bx w k v s) : k < w.heap.size := (Array.getElem?_eq_some_iff.1 h).1
theorem Bx.cells {w : World} {k : Nat} {v s : ByteArray} (h : Bx w k v s) : w.cell? ⟨k, 0, none⟩ = some (.string v) ∧ w.cell? ⟨k, 1, none⟩ = some (.string s) := by
  refine ⟨?_, ?_⟩ <;> simp [World.cell?, show w.heap[k]? = _ from h]
theorem Bx.below {w w' : World} {k : Nat} {v s : ByteArray} (h : Bx w k v s) (hb : Below w.heap.size w w') : Bx w' k v s := (hb.block k h.lt).trans h
theorem Bx.not_row {w : World} {k B n : Nat} {v s : ByteArray} {u : Value} {l : List UInt8} (h : Bx w k v s) (ho : OwnT w B u n l) : u.ownBlock ≠ some k := by
  rcases ho.2 with ⟨rfl, _⟩ | ⟨g, cap, cur, rfl, _, hg, _⟩
  · intro e; cases e
  · intro e
    have e' : g = k := by simpa [Value.ownBlock] using e
    subst e'
    rw [show w.heap[g]? = _ from h] at hg
    simp at hg
theorem Bx.grown {w w' : World} {k B n : Nat} {v s : ByteArray} {u : Value} {l : List UInt8} (h : Bx w k v s) (ho : OwnT w B u n l) (hg : w.grownBy w' u.ownBlock) : Bx w' k v s := (hg.block k h.lt (fun e => h.not_row ho e.symm)).trans h
theorem ch_grown {w a b : World} {n m : Nat} {u : Value} {l : List UInt8} (h : Below n w a) (ho : OwnT a n u m l) (hn : n ≤ a.heap.size) (hg : a.grownBy b u.ownBlock) : Below n w b :=
  h.grown hg hn (fun k hk => (World.ownsRow.lt ho k hk).1)

/-- the row of the first eight bytes, with the mark of a constant text -/
def signC : Array Value := #[.int .u8 137, .int .u8 80, .int .u8 78, .int .u8 71, .int .u8 13, .int .u8 10, .int .u8 26, .int .u8 10]
theorem signC_list : signC.toList = u8V Ch.sign := rfl
/-- what is written so far: the first eight bytes as they came, or a row of one's own -/
def St (w : World) (base : Nat) (o : Value) (m : Nat) (q : List UInt8) : Prop :=
  OwnT w base o m q ∨ (o = .slice (some ⟨base, 0, none⟩) 8 8 ∧ m = 8 ∧ q = Ch.sign ∧ w.heap[base]? = some (.cells signC 5 (8, 9)))
theorem St.shape {w : World} {B n : Nat} {v : Value} {l : List UInt8} (h : St w B v n l) : ∃ ao cap, v = .slice ao n cap := by
  rcases h with h | ⟨rfl, rfl, _, _⟩
  · exact ChT.shape h
  · exact ⟨_, _, rfl⟩
theorem St.below {w w' : World} {B n : Nat} {v : Value} {l : List UInt8} (h : St w B v n l) (hb : Below w.heap.size w w') : St w' B v n l := by
  rcases h with h | ⟨h1, h2, h3, h4⟩
  · exact .inl (ChT.below h hb)
  · exact .inr ⟨h1, h2, h3, (hb.block B (Array.getElem?_eq_some_iff.1 h4).1).trans h4⟩
theorem St.not_row {w : World} {k B n : Nat} {v s : ByteArray} {u : Value} {l : List UInt8} (ho : St w B u n l) (h : Bx w k v s) : u.ownBlock ≠ some k := by
  rcases ho with ho | ⟨rfl, _, _, h4⟩
  · exact h.not_row ho
  · intro e
    have e' : B = k := by simpa [Value.ownBlock] using e
    subst e'
    rw [show w.heap[B]? = _ from h] at h4
    simp at h4
theorem St.lt {w : World} {B n : Nat} {v : Value} {l : List UInt8} (h : St w B v n l) : ∀ k, v.ownBlock = some k → B ≤ k := by
  rcases h with h | ⟨rfl, _, _, _⟩
  · exact fun k hk => (World.ownsRow.lt h k hk).1
  · intro k hk
    have e' : B = k := by simpa [Value.ownBlock] using hk
    omega
theorem sign_cells {w : World} {g : Nat} (h : w.heap[g]? = some (.cells signC 5 (8, 9))) : ∀ j v, (u8V Ch.sign)[j]? = some v → w.cell? ((⟨g, 0, none⟩ : Addr).add j) = some v := by
  intro j v hj
  have hadd : (⟨g, 0, none⟩ : Addr).add j = ⟨g, j, none⟩ := by unfold Addr.add; split <;> simp_all
  rw [hadd]
  simp only [World.cell?, h]
  rw [← signC_list] at hj
  simpa using hj
theorem St.text {w : World} {B n : Nat} {v : Value} {l : List UInt8} (h : St w B v n l) : Sem.run Try.prog (convert 22 9 v) w = .ok (.string ⟨l.toArray⟩) w := by
  rcases h with h | ⟨rfl, rfl, rfl, h4⟩
  · exact h.text
  · have := run_text w ⟨B, 0, none⟩ 8 (Ch.sign.map UInt8.toNat) (by
      intro j v hj
      have e : (Ch.sign.map UInt8.toNat).map (fun n : Nat => Value.int .u8 (n : Int)) = u8V Ch.sign := by simp [u8V]
      rw [e] at hj
      exact sign_cells h4 j v hj)
    rw [map_toNat, List.length_map] at this
    exact this

/-- four bytes more behind the first eight -/
theorem run_first (w : World) (g base : Nat) (ty : TypeId) (s : ByteArray) (hg : w.heap[g]? = some (.cells signC 5 (8, 9))) (hb : base ≤ w.heap.size) (hs : s.size = 4) :
    ∃ v' w', (Builtin.append_ #[22, 9] ty #[.slice (some ⟨g, 0, none⟩) 8 8, .string s]).run Try.prog w = .ok v' w' ∧ OwnT w' base v' (8 + s.size) (Ch.sign ++ s.data.toList) ∧ w.grownBy w' (some g) := by
  obtain ⟨i0, hi0, hz0, hz1, hz2⟩ := info_parts info_u8t
  have hr := Go.Lib.run_append_grow_string (P := Try.prog) w 22 9 ty 5 i0 (.int .u8 0) Try.underlying22 Try.underlying9 hi0 hz0 ⟨g, 0, none⟩ 8 8 (u8V Ch.sign) (by rw [hz1]; rfl) (sign_cells hg) s (by omega) (by omega) (by rw [hz2, hs]; decide)
  refine ⟨_, _, hr, ⟨by rw [u8V_len, List.length_append, bytes_len]; show 8 + s.size = _; omega, .inr ⟨w.heap.size, _, _, rfl, hb, heap_alloc_new w.drew _, grownCap_ge w _ _ _, grownCap_le_maxLen w _ _ _ (by unfold maxLen; omega), ?_, ?_⟩⟩, ⟨rfl, rfl, rfl, by simp, fun k hk _ => Below.heap_alloc w.drew _ k hk⟩⟩
  · have hge := grownCap_ge w (8 + s.size) 8 5
    have hz1 : (Value.int IntKind.u8 0).cells.size = 1 := rfl
    simp only [Array.size_append, List.size_toArray, size_zeroCells, hz1, u8V_len, Go.Lib.strCells_length]
    have : Ch.sign.length = 8 := rfl
    omega
  · simp only [Array.toList_append, List.append_assoc]
    rw [← List.append_assoc, u8V_str, u8V_append]
    have hlen : (u8V (Ch.sign ++ s.data.toList)).length = (8 + s.size) * 1 := by rw [u8V_len, List.length_append, bytes_len, Nat.mul_one]; rfl
    rw [← hlen]
    exact List.take_left

theorem wpList_appSt {ops : Array Oper} {rest : List Oper} {o : Oper} {a : Act} {Q : Exit → Act → World → Prop} (w0 : World) (hgd : o.guard = none) (sl x : Operand)
    (ho : o.op = .call { callee := .builtin .append, args := #[sl, x], argTypes := #[22, 9] })
    (base : Nat) (v : Value) (n : Nat) (l : List UInt8) (s : ByteArray) (hs : a.eval sl = v) (hown : St w0 base v n l) (hx : a.eval x = .string s) (h4 : s.size = 4) (hn : n + s.size ≤ 2000000) (hb : base ≤ w0.heap.size)
    (h : ∀ v' w', OwnT w' base v' (n + s.size) (l ++ s.data.toList) → w0.grownBy w' v.ownBlock → wpList Try.prog ops Q rest (a.put o.dst v') w') :
    wpList Try.prog ops Q (o :: rest) a w0 := by
  rcases hown with hown | ⟨rfl, rfl, rfl, hg⟩
  · exact wpList_appStr w0 hgd sl x ho base v n l s hs hown hx hn hb h
  · refine wpList_plain hgd fun K hK => ?_
    obtain ⟨v', w', hr, h2, h3⟩ := run_first w0 base base o.type s hg hb h4
    unfold Oper.wp execOp
    simp only [ho, resolve, invoke, builtin, Sem.run_bind, Sem.run_pure, Result.andThen_ok, List.map_toArray, List.map_cons, List.map_nil, hs, hx, hr]
    exact hK _ _ (h v' w' h2 h3)

set_option maxHeartbeats 4000000 in
set_option maxRecDepth 20000 in
theorem impl_chunksPut (a : Option Addr) (n cap : Nat) (l : List (ByteArray × ByteArray)) (w : World) (h : Chs2 w a l) (hn : l.length = n) (hl : n ≤ 1048576) (hz : ∀ p ∈ l, p.1.size ≤ 1048576 ∧ p.2.size ≤ 1048576) :
    Calls Try.prog 9 #[.slice a n cap] w fun e w' => e = .returned (.string ⟨(Ch.ans l).toArray⟩) ∧ Below w.heap.size w w' := by
  have HI : Hid (Chs2 w a l) := h
  have HN : Hid (l.length = n) := hn
  have HZ : Hid (∀ p ∈ l, p.1.size ≤ 1048576 ∧ p.2.size ≤ 1048576) := hz
  have hzg : n ≤ l.length := by omega
  have HSG : Hid (St (w.alloc (.cells signC 5 (8, 9))) w.heap.size (.slice (some ⟨w.heap.size, 0, none⟩) 8 8) 8 Ch.sign) := .inr ⟨rfl, rfl, rfl, heap_alloc_new _ _⟩
  have hcv : Sem.run Try.prog (convert 22 22 (.slice (some ⟨w.heap.size, 0, none⟩) 8 8)) (w.alloc (.cells #[.int .u8 137, .int .u8 80, .int .u8 78, .int .u8 71, .int .u8 13, .int .u8 10, .int .u8 26, .int .u8 10] 5)) = .ok (.slice (some ⟨w.heap.size, 0, none⟩) 8 8) (w.alloc (.cells signC 5 (8, 9))) := Go.Lib.run_convert_bytes_const w 22 5 signC 8 8 Try.underlying22 Try.underlying5
  clear h hn hz
  go_enter Try.func9, Try.ntmps9
  go_wp2_with fail
  clear hcv
  go_loopw [3, 10] (fun o i wr => ∃ (k m : Nat) (q : List UInt8), k ≤ n ∧ i = .int .i64 (k : Int) ∧ m ≤ 9000 ∧ Hid (St wr w.heap.size o m q) ∧ Hid (q = Ch.out (l.take k) ∧ Ch.ok 8 l = Ch.ok m (l.drop k)) ∧ Hid (Below w.heap.size w wr) ∧ (∃ ao cp, o = .slice ao m cp)) (fun _ i _ => n - (intOf i).toNat)
  case atStart => exact ⟨0, 8, Ch.sign, Nat.zero_le _, rfl, by omega, HSG, ⟨by simp [Ch.out], rfl⟩, (Below.refl _ _).alloc (Nat.le_refl _) _, _, _, rfl⟩
  case round =>
    obtain ⟨k, m, q, hk, rfl, hm, HS, HQ, HB, ao, cp, rfl⟩ := hrel
    clear HSG
    have hbs : w.heap.size ≤ wr.heap.size := HB.out.size
    by_cases hlt : k < n
    · have hkl : k < l.length := by omega
      obtain ⟨b, off, rfl, hbB, hc1, hc2⟩ := HI.out.at hkl
      have e1 := (HB.out.cell (p := ⟨b, off + k * 2, none⟩) hbB).trans hc1
      have e2 := (HB.out.cell (p := ⟨b, off + k * 2 + 1, none⟩) hbB).trans hc2
      have hki : (k : Int) < (n : Int) := by omega
      have hzz := HZ.out _ (List.getElem_mem hkl)
      have HOK : Hid (Ch.ok 8 l = (Ch.name (l[k]).1 && (decide (m + 12 + (l[k]).2.size ≤ 9000) && Ch.ok (m + 12 + (l[k]).2.size) (l.drop (k + 1))))) := by
        show _ = _
        rw [HQ.out.2, Ch.ok_drop hkl]
      have HP : Hid (Ch.out (l.take (k + 1)) = q ++ Ch.piece l[k]) := by show _ = _; rw [Ch.out_snoc l k hkl, HQ.out.1]
      have hpd : Ch.piece l[k] = (Pt.low (l[k]).2.size 4).reverse ++ (l[k]).1.data.toList ++ (l[k]).2.data.toList ++ (Pt.low (Ch.crc l[k]) 4).reverse := rfl
      have HPD : Hid (Ch.piece l[k] = (Pt.low (l[k]).2.size 4).reverse ++ (l[k]).1.data.toList ++ (l[k]).2.data.toList ++ (Pt.low (Ch.crc l[k]) 4).reverse) := hpd
      have hcl := Ch.crc_lt l[k]
      have hca := fun (h : ((l[k]).1 ++ (l[k]).2).size ≤ 9000) => Ch.crc_ans (p := l[k]) h
      have hns := fun (h : Ch.name (l[k]).1 = true) => Ch.name_size h
      have HNM : Hid (∀ w : World, Calls Try.prog 24 #[.string (l[k]).1] w fun e w' => e = .returned (.bool (Ch.name (l[k]).1)) ∧ w' = w) := fun w => nameOk_any (l[k]).1 w hzz.1
      clear hc1 hc2 HQ hpd
      generalize Ch.crc l[k] = C at *
      generalize Ch.piece l[k] = PC at *
      generalize (l[k]).1 = v at *
      generalize (l[k]).2 = s at *
      have hvb : v.size ≤ 1048576 := hzz.1
      have hsb : s.size ≤ 1048576 := hzz.2
      have HW1 : Hid (Bx (wr.alloc (.cells #[.string v, .string s] 46)) wr.heap.size v s ∧ St (wr.alloc (.cells #[.string v, .string s] 46)) w.heap.size (.slice ao m cp) m q ∧ Below w.heap.size w (wr.alloc (.cells #[.string v, .string s] 46)) ∧ w.heap.size ≤ (wr.alloc (.cells #[.string v, .string s] 46)).heap.size) := ⟨heap_alloc_new _ _, HS.out.below ((Below.refl _ _).alloc (Nat.le_refl _) _), HB.out.alloc hbs _, Nat.le_trans hbs (by simp)⟩
      clear hzz HS
      cases hnm : Ch.name v
      · have HF : Hid (Ch.ans l = []) := by
          show _ = _
          unfold Ch.ans
          rw [HOK.out, hnm]; rfl
        rw [hnm] at HNM
        clear HOK hnm hca hns hcl
        go_wp2_with fail
        refine (HNM.out _).mono ?_
        rintro e w2 ⟨rfl, hw2⟩
        replace hw2 := hw2.symm
        subst hw2
        clear HNM e1 e2
        go_wp2_with fail
        go_ret
        exact ⟨by rw [HF.out]; rfl, HW1.out.2.2.1⟩
      · rw [hnm] at HNM
        have hn4 := hns hnm
        by_cases hfit : m + 12 + s.size ≤ 9000
        · have HF : Hid (Ch.ok 8 l = Ch.ok (m + 12 + s.size) (l.drop (k + 1))) := by
            show _ = _
            rw [HOK.out, hnm, decide_eq_true hfit, Bool.true_and, Bool.true_and]
          obtain ⟨u, hu⟩ : ∃ u, u = v ++ s := ⟨_, rfl⟩
          have hus : u.size = v.size + s.size := by rw [hu, ByteArray.size_append]
          have HN1 : Hid (∀ w : World, Calls Try.prog 25 #[.int .i64 (s.size : Int), .int .i64 4, .bool true] w fun e w' => e = .returned (.string ⟨((Pt.low s.size 4).reverse).toArray⟩) ∧ Below w.heap.size w w') := fun w => impl_numPut_high s.size 4 w (by omega) (by omega) (by omega)
          have HCR : Hid (∀ w : World, Calls Try.prog 26 #[.string u] w fun e w' => e = .returned (.int .i64 (C : Int)) ∧ Below w.heap.size w w') := fun w => by
            rw [← hca (by rw [← hu]; omega), ← hu]
            exact impl_crc32 u w (by unfold maxLen; omega)
          have HN2 : Hid (∀ w : World, Calls Try.prog 25 #[.int .i64 (C : Int), .int .i64 4, .bool true] w fun e w' => e = .returned (.string ⟨((Pt.low C 4).reverse).toArray⟩) ∧ Below w.heap.size w w') := fun w => impl_numPut_high C 4 w (by omega) (by omega) (by omega)
          obtain ⟨t1, ht1⟩ : ∃ t1 : ByteArray, t1 = ⟨((Pt.low s.size 4).reverse).toArray⟩ := ⟨_, rfl⟩
          obtain ⟨t2, ht2⟩ : ∃ t2 : ByteArray, t2 = ⟨((Pt.low C 4).reverse).toArray⟩ := ⟨_, rfl⟩
          have hz1 : t1.size = 4 := by rw [ht1, ch_size, List.length_reverse, Pt.low_len]
          have hz2 : t2.size = 4 := by rw [ht2, ch_size, List.length_reverse, Pt.low_len]
          rw [← ht1] at HN1
          rw [← ht2] at HN2
          have HR : Hid (q ++ (t1.data.toList ++ (v.data.toList ++ (s.data.toList ++ t2.data.toList))) = Ch.out (l.take (k + 1))) := by
            show _ = _
            rw [HP.out, HPD.out, ht1, ht2]
            simp
          have HZ4 : Hid (t1.size = 4 ∧ t2.size = 4 ∧ v.size = 4) := ⟨hz1, hz2, hn4⟩
          have hd : decide ((9000 : Int) - (m : Int) - 12 < (s.size : Int)) = false := by simp; omega
          have huu : u.size ≤ 9000 := by omega
          have hu' : v ++ s = u := hu.symm
          have hv4 : v.size ≤ 4 := by omega
          have hs9 : s.size ≤ 9000 := by omega
          clear hu hus hn4 hz1 hz2 ht1 ht2 hca hcl HPD HP HOK hnm hns
          go_wp2_with fail
          refine (HNM.out _).mono ?_
          rintro e w2 ⟨rfl, hw2⟩
          rw [← hw2] at HW1
          clear hw2 HNM e1 e2
          obtain ⟨g, hg⟩ : ∃ g, g = wr.heap.size := ⟨_, rfl⟩
          rw [← hg] at HW1 ⊢
          clear hg
          obtain ⟨k0, k1⟩ := HW1.out.1.cells
          go_wp2_with fail
          refine (HN1.out _).mono ?_
          rintro e w3 ⟨rfl, b3⟩
          have HW3 : Hid (Bx w3 g v s ∧ St w3 w.heap.size (.slice ao m cp) m q ∧ Below w.heap.size w w3 ∧ w.heap.size ≤ w3.heap.size) := ⟨HW1.out.1.below b3, HW1.out.2.1.below b3, HW1.out.2.2.1.trans (b3.mono HW1.out.2.2.2), Nat.le_trans HW1.out.2.2.2 b3.size⟩
          clear b3 HW1 k0 k1 HN1
          have h63 : m + t1.size ≤ 2000000 := by have := HZ4.out.1; omega
          go_wp2_with (at_builtin; refine wpList_appSt w3 (by rfl) _ _ (by rfl) w.heap.size _ m q t1 (by rfl) HW3.out.2.1 (by rfl) HZ4.out.1 h63 HW3.out.2.2.2 ?_)
          intro v4 w4 hO4 hg4
          have hB4 : Bx w4 g v s := (hg4.block g HW3.out.1.lt (fun e => HW3.out.2.1.not_row HW3.out.1 e.symm)).trans HW3.out.1
          have hL4 : Below w.heap.size w w4 := HW3.out.2.2.1.grown hg4 HW3.out.2.2.2 (fun k hk => HW3.out.2.1.lt k hk)
          have HW4 : Hid (Bx w4 g v s ∧ OwnT w4 w.heap.size v4 (m + t1.size) (q ++ t1.data.toList) ∧ Below w.heap.size w w4 ∧ w.heap.size ≤ w4.heap.size) := ⟨hB4, hO4, hL4, hL4.size⟩
          obtain ⟨k0, k1⟩ := hB4.cells
          clear hO4 hg4 hB4 hL4 HW3
          have h63b : m + t1.size + v.size ≤ 2000000 := by have := HZ4.out.1; omega
          go_wp2_with (at_builtin; refine wpList_appStr w4 (by rfl) _ _ (by rfl) w.heap.size _ (m + t1.size) _ v (by rfl) HW4.out.2.1 (by rfl) h63b HW4.out.2.2.2 ?_)
          intro v5 w5 hO5 hg5
          have hL5 : Below w.heap.size w w5 := ch_grown HW4.out.2.2.1 HW4.out.2.1 HW4.out.2.2.2 hg5
          have HW5 : Hid (Bx w5 g v s ∧ OwnT w5 w.heap.size v5 (m + t1.size + v.size) (q ++ (t1.data.toList ++ v.data.toList)) ∧ Below w.heap.size w w5 ∧ w.heap.size ≤ w5.heap.size) := ⟨HW4.out.1.grown HW4.out.2.1 hg5, hO5, hL5, hL5.size⟩
          clear k0 k1
          obtain ⟨k0, k1⟩ := HW5.out.1.cells
          clear hO5 hg5 hL5 HW4
          have h63c : m + t1.size + v.size + s.size ≤ 2000000 := by have := HZ4.out.1; omega
          go_wp2_with (at_builtin; refine wpList_appStr w5 (by rfl) _ _ (by rfl) w.heap.size _ (m + t1.size + v.size) _ s (by rfl) HW5.out.2.1 (by rfl) h63c HW5.out.2.2.2 ?_)
          intro v6 w6 hO6 hg6
          have hL6 : Below w.heap.size w w6 := ch_grown HW5.out.2.2.1 HW5.out.2.1 HW5.out.2.2.2 hg6
          have HW6 : Hid (Bx w6 g v s ∧ OwnT w6 w.heap.size v6 (m + t1.size + v.size + s.size) (q ++ (t1.data.toList ++ (v.data.toList ++ s.data.toList))) ∧ Below w.heap.size w w6 ∧ w.heap.size ≤ w6.heap.size) := ⟨HW5.out.1.grown HW5.out.2.1 hg6, hO6, hL6, hL6.size⟩
          clear k0 k1
          obtain ⟨k0, k1⟩ := HW6.out.1.cells
          clear hO6 hg6 hL6 HW5
          go_wp2_with fail
          refine (HCR.out _).mono ?_
          rintro e w7 ⟨rfl, b7⟩
          have HW7 : Hid (OwnT w7 w.heap.size v6 (m + t1.size + v.size + s.size) (q ++ (t1.data.toList ++ (v.data.toList ++ s.data.toList))) ∧ Below w.heap.size w w7 ∧ w.heap.size ≤ w7.heap.size) := ⟨ChT.below HW6.out.2.1 b7, HW6.out.2.2.1.trans (b7.mono HW6.out.2.2.2), Nat.le_trans HW6.out.2.2.2 b7.size⟩
          clear b7 HW6 k0 k1 HCR
          go_wp2_with fail
          refine (HN2.out _).mono ?_
          rintro e w8 ⟨rfl, b8⟩
          have HW8 : Hid (OwnT w8 w.heap.size v6 (m + t1.size + v.size + s.size) (q ++ (t1.data.toList ++ (v.data.toList ++ s.data.toList))) ∧ Below w.heap.size w w8 ∧ w.heap.size ≤ w8.heap.size) := ⟨ChT.below HW7.out.1 b8, HW7.out.2.1.trans (b8.mono HW7.out.2.2), Nat.le_trans HW7.out.2.2 b8.size⟩
          clear b8 HW7 HN2
          have h63d : m + t1.size + v.size + s.size + t2.size ≤ 2000000 := by have := HZ4.out.2.1; have := HZ4.out.1; omega
          go_wp2_with (at_builtin; refine wpList_appStr w8 (by rfl) _ _ (by rfl) w.heap.size _ (m + t1.size + v.size + s.size) _ t2 (by rfl) HW8.out.1 (by rfl) h63d HW8.out.2.2 ?_)
          intro v9 w9 hO9 hg9
          have hL9 : Below w.heap.size w w9 := ch_grown HW8.out.2.1 HW8.out.1 HW8.out.2.2 hg9
          have hM : m + t1.size + v.size + s.size + t2.size = m + 12 + s.size := by have := HZ4.out; omega
          rw [hM, HR.out] at hO9
          have HW9 : Hid (St w9 w.heap.size v9 (m + 12 + s.size) (Ch.out (l.take (k + 1)))) := .inl hO9
          have HL9 : Hid (Below w.heap.size w w9) := hL9
          have hsh := ChT.shape hO9
          clear hO9 hg9 hL9 HW8 hM
          go_wp2_with fail
          go_roundw
          case rel => exact ⟨k + 1, m + 12 + s.size, _, by omega, by go_num, hfit, HW9, ⟨rfl, HF.out⟩, HL9, hsh⟩
          case measure => simp [intOf]; omega
        · have HF : Hid (Ch.ans l = []) := by
            show _ = _
            unfold Ch.ans
            rw [HOK.out, hnm, decide_eq_false hfit]; rfl
          have hd : decide ((9000 : Int) - (m : Int) - 12 < (s.size : Int)) = true := by simp; omega
          clear HOK hnm hca hns hcl
          go_wp2_with fail
          refine (HNM.out _).mono ?_
          rintro e w2 ⟨rfl, hw2⟩
          replace hw2 := hw2.symm
          subst hw2
          clear HNM e1 e2
          go_wp2_with fail
          go_ret
          exact ⟨by rw [HF.out]; rfl, HW1.out.2.2.1⟩
    · have hok : Ch.ok 8 l = true := by rw [HQ.out.2, Ch.ok_end (by have := HN.out; omega)]
      have HF : Hid (Ch.ans l = q) := by
        show _ = _
        unfold Ch.ans
        rw [if_pos hok, HQ.out.1, List.take_of_length_le (by have := HN.out; omega)]
      have htx := HS.out.text
      clear hok HQ HS
      go_wp2_with fail
      go_ret
      exact ⟨by rw [HF.out]; rfl, HB.out⟩
end Go.Proofs.Ytgbcjkpmiceddaa
