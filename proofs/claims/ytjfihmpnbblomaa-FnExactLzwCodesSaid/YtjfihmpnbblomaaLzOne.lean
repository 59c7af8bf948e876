/- What comes of one number, by the specification. -/
import Derived.Test.YtjfihmpnbblomaaLzStep2
import Derived.Test.YtjfihmpnbblomaaLzStep3
import Derived.Test.YtjfihmpnbblomaaLzStep4
import Derived.Test.YtjfihmpnbblomaaLzStep5
import Derived.Test.YtjfihmpnbblomaaLzAns
import Derived.Test.YtjfihmpnbblomaaBgMath2
namespace Go.Proofs.Ytjfihmpnbblomaa
open Go.RowKit

theorem SzS.len {w0 : World} {base B b : Nat} {wide : Bool} {s : ByteArray} {limit p : Nat} {l : List ByteArray} {last : ByteArray} {o : List UInt8} {cs : List Int} {c : Int} {w : World} (h : SzS w0 base B b wide s limit p l last o cs c w) : ∃ g cap ov cv, SzP w0 base B b wide s limit p l last o cs c g l.length cap ov cv w := by
  obtain ⟨g, n, cap, ov, cv, h⟩ := h
  have := h.ol.len
  subst this
  exact ⟨g, cap, ov, cv, h⟩

/-- what comes of a number -/
def SzOut (w0 : World) (base B b : Nat) (wide : Bool) (s : ByteArray) (limit p : Nat) (l : List ByteArray) (last : ByteArray) (o : List UInt8) (cs : List Int) (R : Except Int (Nat × ByteArray × List ByteArray × ByteArray × Nat)) (e : Ending) (w' : World) : Prop :=
  (∃ c, c ≠ 0 ∧ R = .error c ∧ e = .returned (.bool false) ∧ SzS w0 base B b wide s limit p l last o cs c w') ∨
  (∃ v t l2 last2 left2, R = .ok (v, t, l2, last2, left2) ∧ Lz.Good b l2 last2 ∧ (o ++ t.data.toList).length + left2 = limit ∧ e = .returned (.bool (decide (v ≠ 2 ^ b + 1))) ∧ SzS w0 base B b wide s limit p l2 last2 (o ++ t.data.toList) cs 0 w')

theorem szStep_any (w0 : World) (base B b limit p q v left N : Nat) (wide : Bool) (s last : ByteArray) (l : List ByteArray) (o : List UInt8) (cs : List Int) (w : World) (hb : b ≤ 8) (hB : base ≤ B) (hlim : limit ≤ 5000) (hleft : o.length + left = limit) (gd : Lz.Good b l last)
    (hN : N = Lz.width b wide l.length) (hin : q + N ≤ 8 * s.size) (hv : v = Lz.num s wide q N) (hv4 : v ≤ 4096)
    (h : SzS w0 base B b wide s limit p l last o cs 0 w) :
    Calls Try.prog 56 #[.pointer (some ⟨B, 0, none⟩), .int .i64 (v : Int)] w (SzOut w0 base B b wide s limit p l last o cs (Lz.step s b wide q l last left)) := by
  obtain ⟨g, cap, ov, cv, h⟩ := h.len
  have hlen := gd.ge
  have hlast := gd.last
  have hsn : ¬ 8 * s.size < q + N := by omega
  unfold Lz.step
  simp only [← hN, ← hv, if_neg hsn]
  by_cases h1 : v = 2 ^ b
  · rw [if_pos h1]
    refine (szStep_clear w0 base B b limit p v g l.length cap wide s last l o cs ov cv w hb hB hlen hv4 hlim (by omega) (by omega) h h1).mono ?_
    rintro e w' ⟨rfl, hs⟩
    refine .inr ⟨_, _, _, _, _, rfl, Lz.good_start hb, by simp; omega, by rw [decide_eq_true (by omega)], ?_⟩
    rw [show (ByteArray.mk #[]).data.toList = [] from rfl, List.append_nil]
    exact hs
  · rw [if_neg h1]
    by_cases h2 : v = 2 ^ b + 1
    · rw [if_pos h2]
      refine (szStep_end w0 base B b limit p v g l.length cap wide s last l o cs ov cv w hb hB hlen hv4 hlim (by omega) (by omega) h h2).mono ?_
      rintro e w' ⟨rfl, hs⟩
      refine .inr ⟨_, _, _, _, _, rfl, gd, by simp; omega, by rw [decide_eq_false (by omega)], ?_⟩
      rw [show (ByteArray.mk #[]).data.toList = [] from rfl, List.append_nil]
      exact hs
    · rw [if_neg h2]
      by_cases h3 : l.length < v ∨ (v = l.length ∧ last.size = 0)
      · rw [if_pos h3]
        rcases h3 with h3 | ⟨h3, h4⟩
        · refine (szStep_bada w0 base B b limit p v g l.length cap wide s last l o cs ov cv w hb hB hlen hv4 hlim (by omega) (by omega) h h1 h2 h3).mono ?_
          rintro e w' ⟨rfl, hs⟩
          exact .inl ⟨1, by decide, rfl, rfl, hs⟩
        · refine (szStep_badb w0 base B b limit p v g l.length cap wide s last l o cs ov cv w hb hB hlen hv4 hlim (by omega) (by omega) h h1 h2 h3 h4).mono ?_
          rintro e w' ⟨rfl, hs⟩
          exact .inl ⟨1, by decide, rfl, rfl, hs⟩
      · rw [if_neg h3]
        obtain ⟨t, ht⟩ : ∃ t, t = Lz.text l last v := ⟨_, rfl⟩
        have hts := Lz.text_pos gd h1 h2 h3
        rw [← ht] at hts ⊢
        have e3 : t.data.toList.length = t.size := rfl
        by_cases hk : v < l.length
        · have htk : t = l[v] := by rw [ht]; unfold Lz.text; rw [dif_pos hk]
          by_cases h5 : left < t.size
          · rw [if_pos h5]
            refine (szStep_longk w0 base B b limit p v g l.length cap wide s last l o cs ov cv w hb hB hlen hv4 hlim (by omega) (by omega) h h1 h2 hk t htk hts.2 (by omega)).mono ?_
            rintro e w' ⟨rfl, hs⟩
            exact .inl ⟨3, by decide, rfl, rfl, hs⟩
          · rw [if_neg h5]
            by_cases h6 : 0 < last.size ∧ l.length < 4096
            · refine (szStep_moreky w0 base B b limit p v g l.length cap wide s last l o cs ov cv w hb hB hlen hv4 hlim (by omega) (by omega) h h1 h2 hk t htk hts.1 hts.2 (by omega) h6.1 h6.2).mono ?_
              rintro e w' ⟨rfl, hs⟩
              refine .inr ⟨_, _, _, _, _, rfl, Lz.learn_good gd (by omega), by rw [List.length_append, e3]; omega, by rw [decide_eq_true h2], ?_⟩
              unfold Lz.learn
              rw [if_pos h6]
              exact hs
            · refine (szStep_morekn w0 base B b limit p v g l.length cap wide s last l o cs ov cv w hb hB hlen hv4 hlim (by omega) (by omega) h h1 h2 hk t htk hts.1 hts.2 (by omega) h6).mono ?_
              rintro e w' ⟨rfl, hs⟩
              refine .inr ⟨_, _, _, _, _, rfl, Lz.learn_good gd (by omega), by rw [List.length_append, e3]; omega, by rw [decide_eq_true h2], ?_⟩
              unfold Lz.learn
              rw [if_neg h6]
              exact hs
        · have htk : t = last ++ last.extract 0 1 := by rw [ht]; unfold Lz.text; rw [dif_neg hk]
          have hvl : v = l.length := by omega
          have hl1 : 1 ≤ last.size := by omega
          by_cases h5 : left < t.size
          · rw [if_pos h5]
            refine (szStep_longn w0 base B b limit p v g l.length cap wide s last l o cs ov cv w hb hB hlen hv4 hlim (by omega) (by omega) h h1 h2 hvl hl1 t htk hts.2 (by omega)).mono ?_
            rintro e w' ⟨rfl, hs⟩
            exact .inl ⟨3, by decide, rfl, rfl, hs⟩
          · rw [if_neg h5]
            by_cases h6 : 0 < last.size ∧ l.length < 4096
            · refine (szStep_moreny w0 base B b limit p v g l.length cap wide s last l o cs ov cv w hb hB hlen hv4 hlim (by omega) (by omega) h h1 h2 hvl hl1 t htk hts.1 hts.2 (by omega) h6.1 h6.2).mono ?_
              rintro e w' ⟨rfl, hs⟩
              refine .inr ⟨_, _, _, _, _, rfl, Lz.learn_good gd (by omega), by rw [List.length_append, e3]; omega, by rw [decide_eq_true h2], ?_⟩
              unfold Lz.learn
              rw [if_pos h6]
              exact hs
            · refine (szStep_morenn w0 base B b limit p v g l.length cap wide s last l o cs ov cv w hb hB hlen hv4 hlim (by omega) (by omega) h h1 h2 hvl hl1 t htk hts.1 hts.2 (by omega) h6).mono ?_
              rintro e w' ⟨rfl, hs⟩
              refine .inr ⟨_, _, _, _, _, rfl, Lz.learn_good gd (by omega), by rw [List.length_append, e3]; omega, by rw [decide_eq_true h2], ?_⟩
              unfold Lz.learn
              rw [if_neg h6]
              exact hs

theorem Lz.num_lt (s : ByteArray) (wide : Bool) (q N : Nat) (h : N ≤ 12) : Lz.num s wide q N ≤ 4096 := by
  have := Bg.num_lt (fun i => bitAt s wide (q + i)) (fun i => bitAt_lt _ _ _) N wide
  have h2 : 2 ^ N ≤ 2 ^ 12 := Nat.pow_le_pow_right (by omega) h
  unfold Lz.num
  omega

/-- a number is put behind the others -/
theorem SzP.push {w0 : World} {base B b : Nat} {wide : Bool} {s : ByteArray} {limit p : Nat} {l : List ByteArray} {last : ByteArray} {o : List UInt8} {cs : List Int} {c : Int} {g n cap : Nat} {ov cv : Value} {w w2 : World} {g2 cap2 : Nat} {x : Int} (h : SzP w0 base B b wide s limit p l last o cs c g n cap ov cv w) (hB : base ≤ B)
    (ho : OwnI w2 base (.slice (some ⟨g2, 0, none⟩) (cs.length + 1) cap2) (cs.length + 1) (cs ++ [x])) (hg : Grew base w w2 cv g2) :
    SzR w2 B b wide s limit p (.slice (some ⟨g, 0, none⟩) n cap) last ov cv c ∧ SzP w0 base B b wide s limit p l last o (cs ++ [x]) c g n cap ov (.slice (some ⟨g2, 0, none⟩) (cs.length + 1) cap2) (w2.setCell ⟨B, 8, none⟩ (.slice (some ⟨g2, 0, none⟩) (cs.length + 1) cap2)) := by
  have hcB := h.r.apart h.oi (by decide)
  have hr2 : SzR w2 B b wide s limit p (.slice (some ⟨g, 0, none⟩) n cap) last ov cv c := h.r.same (hg.block _ h.r.lt (fun e => hcB e.symm))
  have hbase : base ≤ w.heap.size := by have := h.r.lt; omega
  have hol : OwnL w2 base (.slice (some ⟨g, 0, none⟩) n cap) n l := ownsRow_besides h.ol (fun k hk => hg.block k (World.ownsRow.lt h.ol k hk).2 (fun e => rows_apart h.oi h.ol (by decide) k e.symm hk))
  have hot : OwnT w2 base ov o.length o := ownsRow_besides h.ot (fun k hk => hg.block k (World.ownsRow.lt h.ot k hk).2 (fun e => rows_apart h.oi h.ot (by decide) k e.symm hk))
  refine ⟨hr2, hr2.set rfl, row_set hol (hr2.apart hol (by decide)), row_set hot (hr2.apart hot (by decide)), ?_, (hg.below h.bel (Nat.le_refl _) hbase).setCell hB _⟩
  have := row_set (i := 8) (u := .slice (some ⟨g2, 0, none⟩) (cs.length + 1) cap2) ho (hr2.apart ho (by decide))
  unfold OwnI
  rw [List.length_append]
  exact this

theorem sz_new (w0 w : World) (base b limit : Nat) (wide : Bool) (s : ByteArray) (g n cap : Nat) (l : List ByteArray) (ho : OwnL w base (.slice (some ⟨g, 0, none⟩) n cap) n l) (hb : Below base w0 w) (hs : base ≤ w.heap.size) :
    SzP w0 base w.heap.size b wide s limit 0 l ⟨#[]⟩ [] [] 0 g n cap (.slice none 0 0) (.slice none 0 0) (w.alloc (.cells #[.string s, .int .i64 (b : Int), .bool wide, .int .i64 (limit : Int), .int .i64 0, .slice (some ⟨g, 0, none⟩) n cap, .string ⟨#[]⟩, .slice none 0 0, .slice none 0 0, .int .i64 0] 55)) :=
  ⟨World.alloc_heap_new w _, ho.alloc _, ownT_nil _ _, ownI_nil _ _, hb.alloc hs _⟩

end Go.Proofs.Ytjfihmpnbblomaa
