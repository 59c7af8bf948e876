/- The specification's reader of LZW does what a number says: the next one, not learnt. -/
import Derived.Test.YtjfihmpnbblomaaLzStep
namespace Go.Proofs.Ytjfihmpnbblomaa
open Go.RowKit

set_option linter.unusedSimpArgs false in
set_option linter.unusedVariables false in
set_option maxHeartbeats 2000000 in
set_option maxRecDepth 20000 in
theorem szStep_morenn (w0 : World) (base B b limit p v g n cap : Nat) (wide : Bool) (s last : ByteArray) (l : List ByteArray) (o : List UInt8) (cs : List Int) (ov cv : Value) (w : World) (hb : b ≤ 8) (hB : base ≤ B) (hn : n ≤ 4096) (hv4 : v ≤ 4096) (hlim : limit ≤ 5000) (hol : o.length ≤ 5000) (hlb : last.size ≤ 5001)
    (h : SzP w0 base B b wide s limit p l last o cs 0 g n cap ov cv w) (h1 : v ≠ 2 ^ b) (h2 : v ≠ 2 ^ b + 1) (hvn : v = n) (hl1 : 1 ≤ last.size) (t : ByteArray) (ht : t = last ++ last.extract 0 1) (htp : 1 ≤ t.size) (htb : t.size ≤ 5001) (hshort : o.length + t.size ≤ limit) (hno : ¬ (0 < last.size ∧ n < 4096)) :
    Calls Try.prog 56 #[.pointer (some ⟨B, 0, none⟩), .int .i64 (v : Int)] w fun e w' => e = .returned (.bool true) ∧ SzS w0 base B b wide s limit p l t (o ++ t.data.toList) cs 0 w' := by
  have HPW : Hid (∀ w', Calls Try.prog 35 #[.int .i64 (b : Int)] w' fun e w'' => e = .returned (.int .i64 ((2 ^ b : Nat) : Int)) ∧ w'' = w') := fun w' => l1Pow_any b w' (by omega)
  have hpw := Lz.pow_le hb
  have HS : Hid (SzP w0 base B b wide s limit p l last o cs 0 g n cap ov cv w) := h
  have hln := h.ol.len
  have c1 := h.r.cell 1
  have c5 := h.r.cell 5
  have c6 := h.r.cell 6
  have c7 := h.r.cell 7
  have c9 := h.r.cell 9
  have f5 := h.r.free 5
  have f6 := h.r.free 6
  have f9 := h.r.free 9
  simp at c1 c5 c6 c7 c9
  subst hvn
  have hem := ne_empty hl1
  have hi1 : (1 : Int) ≤ (last.size : Int) := by omega
  have hng : ¬ (v : Int) < (v : Int) := by omega
  have hlz : ¬ 9223372036854775807 < last.size + (last.extract 0 1).size := by rw [ByteArray.size_extract]; omega
  have hlz2 : last.size + (last.extract 0 1).size ≤ 9223372036854775807 := by omega
  have HT : Hid (last ++ last.extract 0 1 = t) := ht.symm
  clear ht
  have eA : IntKind.i64.wrap ((o.length : Int) + (t.size : Int)) = ((o.length + t.size : Nat) : Int) := by
    have := wrap_i64_nat (o.length + t.size) (by omega)
    simpa using this
  obtain ⟨ao, ocap, rfl⟩ : ∃ ao ocap, ov = .slice ao o.length ocap := by
    rcases h.ot.2 with ⟨rfl, h0⟩ | ⟨g', cap', cur, rfl, _⟩
    · exact ⟨none, 0, by rw [h0]⟩
    · exact ⟨_, _, rfl⟩
  have c3 := h.r.cell 3
  simp at c3
  have hne1 : ¬ (v : Int) = ((2 ^ b : Nat) : Int) := by omega
  have hne2 : ¬ (v : Int) = ((2 ^ b : Nat) : Int) + 1 := by omega
  have hqb : ((2 ^ b : Nat) : Int) ≤ 256 := by omega
  clear h
  obtain ⟨i0, hi0, hz0, hz1, hz2⟩ := info_parts info_u8t
  have hbase : base ≤ w.heap.size := by have := HS.out.r.lt; omega
  have hml : o.length + t.size ≤ maxLen := by unfold maxLen; omega
  have hdl : ¬ (limit : Int) < (o.length : Int) + (t.size : Int) := by omega
  generalize 2 ^ b = Q at *
  have hne6 := ne_empty hl1
  have hnb : ¬ (v : Int) < 4096 := by omega
  go_enter Try.func56, Try.ntmps56
  go_wp2_with fail
  refine (HPW.out _).mono ?_
  rintro e w1 ⟨rfl, hw1⟩
  replace hw1 := hw1.symm
  subst hw1
  go_wp2_with fail
  try rw [HT.out]
  go_quiet (fail)
  generalize hwr : w.drewN nq = w1
  have HS1 : Hid (SzP w0 base B b wide s limit p l last o cs 0 g v cap (.slice ao o.length ocap) cv w1) := by rw [← hwr]; exact HS.out.drewN _
  have hbase1 : base ≤ w1.heap.size := by rw [← hwr]; exact hbase
  clear hwr c1 c3 c5 c6 c7 c9 f5 f6 f9 HS hbase
  have c7 := HS1.out.r.cell 7
  simp at c7
  go_wp2_with (at_builtin; refine Go.Lib.wpList_append_own_string _ (by rfl) _ _ _ _ (by rfl) base 5 i0 Try.underlying22 Try.underlying9 hi0 hz0 hz1 hz2 (.slice ao o.length ocap) o.length (u8V o) (by rfl) HS1.out.ot t (by rfl) hml (by omega) hbase1 ?_)
  intro ov2 w2 hown2 hg2 hat2
  clear hat2
  rw [u8V_str, u8V_append] at hown2
  obtain ⟨ao2, n2, ocap2, rfl⟩ : ∃ ao n cap, ov2 = .slice ao n cap := by
    rcases hown2.2 with ⟨rfl, _⟩ | ⟨g', cap', cur, rfl, _⟩
    · exact ⟨_, _, _, rfl⟩
    · exact ⟨_, _, _, rfl⟩
  have hlo2 : (o ++ t.data.toList).length = o.length + t.size := by rw [List.length_append]; rfl
  have hoB : (Value.slice ao o.length ocap).ownBlock ≠ some B := HS1.out.r.apart HS1.out.ot (by decide)
  have hr2 : SzR w2 B b wide s limit p (.slice (some ⟨g, 0, none⟩) v cap) last (.slice ao o.length ocap) cv 0 := HS1.out.r.same (hg2.block _ HS1.out.r.lt (fun e => hoB e.symm))
  have hol2 : OwnL w2 base (.slice (some ⟨g, 0, none⟩) v cap) v l := ownsRow_besides HS1.out.ol (fun k hk => hg2.block k (World.ownsRow.lt HS1.out.ol k hk).2 (fun e => rows_apart HS1.out.ot HS1.out.ol (by decide) k e.symm hk))
  have hoi2 : OwnI w2 base cv cs.length cs := ownsRow_besides HS1.out.oi (fun k hk => hg2.block k (World.ownsRow.lt HS1.out.oi k hk).2 (fun e => rows_apart HS1.out.ot HS1.out.oi (by decide) k e.symm hk))
  have hbel2 : Below base w0 w2 := HS1.out.bel.grown hg2 hbase1 (fun k hk => (World.ownsRow.lt HS1.out.ot k hk).1)
  obtain ⟨W3, hW3⟩ : ∃ W3, W3 = w2.setCell ⟨B, 7, none⟩ (.slice ao2 n2 ocap2) := ⟨_, rfl⟩
  have hP3 : SzP w0 base B b wide s limit p l last (o ++ t.data.toList) cs 0 g v cap (.slice ao2 n2 ocap2) cv W3 := by
    rw [hW3]
    exact ⟨hr2.set rfl, row_set hol2 (hr2.apart hol2 (by decide)), row_set (by rw [hlo2]; exact hown2) (hr2.apart hown2 (by decide)), row_set hoi2 (hr2.apart hoi2 (by decide)), hbel2.setCell hB _⟩
  have HP3 : Hid (SzP w0 base B b wide s limit p l last (o ++ t.data.toList) cs 0 g v cap (.slice ao2 n2 ocap2) cv W3) := hP3
  have k7 := hr2.cell 7
  have kf7 := hr2.free 7
  have k5 := hP3.r.cell 5
  have kf5 := hP3.r.free 5
  have k6 := hP3.r.cell 6
  have kf6 := hP3.r.free 6
  simp at k5 k6 k7
  have hbase3 : base ≤ W3.heap.size := by have := hP3.r.lt; omega
  rw [hW3] at k5 kf5 k6 kf6
  have HW3 : Hid (w2.setCell ⟨B, 7, none⟩ (.slice ao2 n2 ocap2) = W3) := hW3.symm
  clear hown2 hg2 hlo2 hoB hr2 hol2 hoi2 hbel2 hP3 HS1 c7 hW3
  go_wp2_with fail
  go_ret
  rw [HW3.out]
  exact ⟨rfl, _, _, _, _, _, HP3.out.set hB rfl⟩
end Go.Proofs.Ytjfihmpnbblomaa
