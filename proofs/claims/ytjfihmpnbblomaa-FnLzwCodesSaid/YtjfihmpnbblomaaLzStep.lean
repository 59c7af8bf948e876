/- The specification's reader of LZW does what a number says. -/
import Derived.Test.YtjfihmpnbblomaaLzSpec
namespace Go.Proofs.Ytjfihmpnbblomaa
open Go.RowKit

/-- all that it has in memory -/
structure SzP (w0 : World) (base B b : Nat) (wide : Bool) (s : ByteArray) (limit p : Nat) (l : List ByteArray) (last : ByteArray) (o : List UInt8) (cs : List Int) (c : Int) (g n cap : Nat) (ov cv : Value) (w : World) : Prop where
  r : SzR w B b wide s limit p (.slice (some ⟨g, 0, none⟩) n cap) last ov cv c
  ol : OwnL w base (.slice (some ⟨g, 0, none⟩) n cap) n l
  ot : OwnT w base ov o.length o
  oi : OwnI w base cv cs.length cs
  bel : Below base w0 w
def SzS (w0 : World) (base B b : Nat) (wide : Bool) (s : ByteArray) (limit p : Nat) (l : List ByteArray) (last : ByteArray) (o : List UInt8) (cs : List Int) (c : Int) (w : World) : Prop :=
  ∃ g n cap ov cv, SzP w0 base B b wide s limit p l last o cs c g n cap ov cv w

theorem row_set {w : World} {lo e z n B i : Nat} {v u : Value} {l : List Value} (h : w.ownsRow lo e z v n l) (hB : v.ownBlock ≠ some B) : (w.setCell ⟨B, i, none⟩ u).ownsRow lo e z v n l :=
  ownsRow_besides h (fun k hk => Below.heap_setCell w ⟨B, i, none⟩ u k (fun e => hB (by rw [hk]; exact congrArg some e)))
theorem SzP.drewN {w0 : World} {base B b : Nat} {wide : Bool} {s : ByteArray} {limit p : Nat} {l : List ByteArray} {last : ByteArray} {o : List UInt8} {cs : List Int} {c : Int} {g n cap : Nat} {ov cv : Value} {w : World} (h : SzP w0 base B b wide s limit p l last o cs c g n cap ov cv w) (m : Nat) : SzP w0 base B b wide s limit p l last o cs c g n cap ov cv (w.drewN m) :=
  ⟨h.r, h.ol, h.ot, h.oi, below_drewN h.bel m⟩
theorem SzP.set {w0 : World} {base B b : Nat} {wide : Bool} {s : ByteArray} {limit p p' : Nat} {l : List ByteArray} {last last' : ByteArray} {o : List UInt8} {cs : List Int} {c c' : Int} {g n cap : Nat} {ov cv u : Value} {w : World} {i : Nat} (h : SzP w0 base B b wide s limit p l last o cs c g n cap ov cv w) (hB : base ≤ B)
    (hi : (#[Value.string s, .int .i64 (b : Int), .bool wide, .int .i64 (limit : Int), .int .i64 (p : Int), (.slice (some ⟨g, 0, none⟩) n cap), .string last, ov, cv, .int .i64 c]).setIfInBounds i u = #[Value.string s, .int .i64 (b : Int), .bool wide, .int .i64 (limit : Int), .int .i64 (p' : Int), (.slice (some ⟨g, 0, none⟩) n cap), .string last', ov, cv, .int .i64 c']) :
    SzP w0 base B b wide s limit p' l last' o cs c' g n cap ov cv (w.setCell ⟨B, i, none⟩ u) :=
  ⟨h.r.set hi, row_set h.ol (h.r.apart h.ol (by decide)), row_set h.ot (h.r.apart h.ot (by decide)), row_set h.oi (h.r.apart h.oi (by decide)), h.bel.setCell hB u⟩
theorem ne_empty {last : ByteArray} (h : 1 ≤ last.size) : last.toList.isEmpty = false := by
  rw [← Bool.not_eq_true, List.isEmpty_iff]
  exact fun e => by have h := congrArg List.length e; rw [toList_len] at h; have h2 : last.size = 0 := h; omega
theorem big_empty {last : ByteArray} (h : last.size = 0) : last.toList.isEmpty = true := by
  rw [List.isEmpty_iff]
  exact List.eq_nil_of_length_eq_zero (by rw [toList_len]; exact h)

set_option linter.unusedSimpArgs false in
set_option linter.unusedVariables false in
set_option maxHeartbeats 2000000 in
set_option maxRecDepth 20000 in
theorem szStep_clear (w0 : World) (base B b limit p v g n cap : Nat) (wide : Bool) (s last : ByteArray) (l : List ByteArray) (o : List UInt8) (cs : List Int) (ov cv : Value) (w : World) (hb : b ≤ 8) (hB : base ≤ B) (hn : n ≤ 4096) (hv4 : v ≤ 4096) (hlim : limit ≤ 5000) (hol : o.length ≤ 5000) (hlb : last.size ≤ 5001)
    (h : SzP w0 base B b wide s limit p l last o cs 0 g n cap ov cv w) (hv : v = 2 ^ b) :
    Calls Try.prog 56 #[.pointer (some ⟨B, 0, none⟩), .int .i64 (v : Int)] w fun e w' => e = .returned (.bool true) ∧ SzS w0 base B b wide s limit p (Lz.start b) ⟨#[]⟩ o cs 0 w' := by
  have HPW : Hid (∀ w', Calls Try.prog 35 #[.int .i64 (b : Int)] w' fun e w'' => e = .returned (.int .i64 ((2 ^ b : Nat) : Int)) ∧ w'' = w') := fun w' => l1Pow_any b w' (by omega)
  have hpw := Lz.pow_le hb
  have HS : Hid (SzP w0 base B b wide s limit p l last o cs 0 g n cap ov cv w) := h
  have hln := h.ol.len
  have c1 := h.r.cell 1
  have c5 := h.r.cell 5
  have c6 := h.r.cell 6
  have c7 := h.r.cell 7
  have c9 := h.r.cell 9
  have f5 := h.r.free 5
  have f6 := h.r.free 6
  have f9 := h.r.free 9
  simp at c1 c5 c6 c7 c9
  have HST : Hid (∀ w', Calls Try.prog 54 #[.int .i64 (b : Int)] w' fun e w'' => ∃ g cap, e = .returned (.slice (some ⟨g, 0, none⟩) (2 ^ b + 2) cap) ∧ OwnL w'' w'.heap.size (.slice (some ⟨g, 0, none⟩) (2 ^ b + 2) cap) (2 ^ b + 2) (Lz.start b) ∧ Below w'.heap.size w' w'') := fun w' => l6Start_any b hb w'
  clear h
  generalize hS0 : Lz.start b = S0 at *
  clear hS0
  generalize 2 ^ b = Q at *
  subst hv
  go_enter Try.func56, Try.ntmps56
  go_wp2_with fail
  refine (HPW.out _).mono ?_
  rintro e w1 ⟨rfl, hw1⟩
  replace hw1 := hw1.symm
  subst hw1
  go_wp2_with fail
  refine (HST.out _).mono ?_
  rintro e w2 ⟨g2, cap2, rfl, ho2, b2⟩
  have hr2 : SzR w2 B b wide s limit p (.slice (some ⟨g, 0, none⟩) n cap) last ov cv 0 := HS.out.r.same (b2.block _ HS.out.r.lt)
  have hbw := HS.out.bel.size
  have hbase : base ≤ w.heap.size := by have := HS.out.r.lt; omega
  have hP3 : SzP w0 base B b wide s limit p S0 last o cs 0 g2 (v + 2) cap2 ov cv (w2.setCell ⟨B, 5, none⟩ (.slice (some ⟨g2, 0, none⟩) (v + 2) cap2)) :=
    ⟨hr2.set rfl, row_set (ho2.down hbase) (hr2.apart ho2 (by decide)), row_set (ownsRow_besides HS.out.ot (fun k hk => b2.block k (World.ownsRow.lt HS.out.ot k hk).2)) (HS.out.r.apart HS.out.ot (by decide)), row_set (ownsRow_besides HS.out.oi (fun k hk => b2.block k (World.ownsRow.lt HS.out.oi k hk).2)) (HS.out.r.apart HS.out.oi (by decide)), (HS.out.bel.trans (b2.mono hbase)).setCell hB _⟩
  have HP3 : Hid (SzP w0 base B b wide s limit p S0 last o cs 0 g2 (v + 2) cap2 ov cv (w2.setCell ⟨B, 5, none⟩ (.slice (some ⟨g2, 0, none⟩) (v + 2) cap2))) := hP3
  have k5 := hr2.cell 5
  have kf5 := hr2.free 5
  have k6 := hP3.r.cell 6
  have kf6 := hP3.r.free 6
  simp at k5 k6
  clear ho2 b2 hr2 hP3 c1 c5 c6 c7 c9 f5 f6 f9
  go_wp2_with fail
  go_ret
  exact ⟨rfl, _, _, _, _, _, HP3.out.set hB rfl⟩

set_option linter.unusedSimpArgs false in
set_option linter.unusedVariables false in
set_option maxHeartbeats 2000000 in
set_option maxRecDepth 20000 in
theorem szStep_end (w0 : World) (base B b limit p v g n cap : Nat) (wide : Bool) (s last : ByteArray) (l : List ByteArray) (o : List UInt8) (cs : List Int) (ov cv : Value) (w : World) (hb : b ≤ 8) (hB : base ≤ B) (hn : n ≤ 4096) (hv4 : v ≤ 4096) (hlim : limit ≤ 5000) (hol : o.length ≤ 5000) (hlb : last.size ≤ 5001)
    (h : SzP w0 base B b wide s limit p l last o cs 0 g n cap ov cv w) (hv : v = 2 ^ b + 1) :
    Calls Try.prog 56 #[.pointer (some ⟨B, 0, none⟩), .int .i64 (v : Int)] w fun e w' => e = .returned (.bool false) ∧ SzS w0 base B b wide s limit p l last o cs 0 w' := by
  have HPW : Hid (∀ w', Calls Try.prog 35 #[.int .i64 (b : Int)] w' fun e w'' => e = .returned (.int .i64 ((2 ^ b : Nat) : Int)) ∧ w'' = w') := fun w' => l1Pow_any b w' (by omega)
  have hpw := Lz.pow_le hb
  have HS : Hid (SzP w0 base B b wide s limit p l last o cs 0 g n cap ov cv w) := h
  have hln := h.ol.len
  have c1 := h.r.cell 1
  have c5 := h.r.cell 5
  have c6 := h.r.cell 6
  have c7 := h.r.cell 7
  have c9 := h.r.cell 9
  have f5 := h.r.free 5
  have f6 := h.r.free 6
  have f9 := h.r.free 9
  simp at c1 c5 c6 c7 c9
  clear h
  generalize 2 ^ b = Q at *
  subst hv
  go_enter Try.func56, Try.ntmps56
  go_wp2_with fail
  refine (HPW.out _).mono ?_
  rintro e w1 ⟨rfl, hw1⟩
  replace hw1 := hw1.symm
  subst hw1
  go_wp2_with fail
  go_ret
  exact ⟨rfl, _, _, _, _, _, HS.out⟩

set_option linter.unusedSimpArgs false in
set_option linter.unusedVariables false in
set_option maxHeartbeats 2000000 in
set_option maxRecDepth 20000 in
theorem szStep_bada (w0 : World) (base B b limit p v g n cap : Nat) (wide : Bool) (s last : ByteArray) (l : List ByteArray) (o : List UInt8) (cs : List Int) (ov cv : Value) (w : World) (hb : b ≤ 8) (hB : base ≤ B) (hn : n ≤ 4096) (hv4 : v ≤ 4096) (hlim : limit ≤ 5000) (hol : o.length ≤ 5000) (hlb : last.size ≤ 5001)
    (h : SzP w0 base B b wide s limit p l last o cs 0 g n cap ov cv w) (h1 : v ≠ 2 ^ b) (h2 : v ≠ 2 ^ b + 1) (hv : n < v) :
    Calls Try.prog 56 #[.pointer (some ⟨B, 0, none⟩), .int .i64 (v : Int)] w fun e w' => e = .returned (.bool false) ∧ SzS w0 base B b wide s limit p l last o cs 1 w' := by
  have HPW : Hid (∀ w', Calls Try.prog 35 #[.int .i64 (b : Int)] w' fun e w'' => e = .returned (.int .i64 ((2 ^ b : Nat) : Int)) ∧ w'' = w') := fun w' => l1Pow_any b w' (by omega)
  have hpw := Lz.pow_le hb
  have HS : Hid (SzP w0 base B b wide s limit p l last o cs 0 g n cap ov cv w) := h
  have hln := h.ol.len
  have c1 := h.r.cell 1
  have c5 := h.r.cell 5
  have c6 := h.r.cell 6
  have c7 := h.r.cell 7
  have c9 := h.r.cell 9
  have f5 := h.r.free 5
  have f6 := h.r.free 6
  have f9 := h.r.free 9
  simp at c1 c5 c6 c7 c9
  have hne1 : ¬ (v : Int) = ((2 ^ b : Nat) : Int) := by omega
  have hne2 : ¬ (v : Int) = ((2 ^ b : Nat) : Int) + 1 := by omega
  have hqb : ((2 ^ b : Nat) : Int) ≤ 256 := by omega
  clear h
  have hgt : (n : Int) < (v : Int) := by omega
  generalize 2 ^ b = Q at *
  go_enter Try.func56, Try.ntmps56
  go_wp2_with fail
  refine (HPW.out _).mono ?_
  rintro e w1 ⟨rfl, hw1⟩
  replace hw1 := hw1.symm
  subst hw1
  go_wp2_with fail
  go_ret
  exact ⟨rfl, _, _, _, _, _, HS.out.set hB rfl⟩

set_option linter.unusedSimpArgs false in
set_option linter.unusedVariables false in
set_option maxHeartbeats 2000000 in
set_option maxRecDepth 20000 in
theorem szStep_badb (w0 : World) (base B b limit p v g n cap : Nat) (wide : Bool) (s last : ByteArray) (l : List ByteArray) (o : List UInt8) (cs : List Int) (ov cv : Value) (w : World) (hb : b ≤ 8) (hB : base ≤ B) (hn : n ≤ 4096) (hv4 : v ≤ 4096) (hlim : limit ≤ 5000) (hol : o.length ≤ 5000) (hlb : last.size ≤ 5001)
    (h : SzP w0 base B b wide s limit p l last o cs 0 g n cap ov cv w) (h1 : v ≠ 2 ^ b) (h2 : v ≠ 2 ^ b + 1) (hv : v = n) (hl0 : last.size = 0) :
    Calls Try.prog 56 #[.pointer (some ⟨B, 0, none⟩), .int .i64 (v : Int)] w fun e w' => e = .returned (.bool false) ∧ SzS w0 base B b wide s limit p l last o cs 1 w' := by
  have HPW : Hid (∀ w', Calls Try.prog 35 #[.int .i64 (b : Int)] w' fun e w'' => e = .returned (.int .i64 ((2 ^ b : Nat) : Int)) ∧ w'' = w') := fun w' => l1Pow_any b w' (by omega)
  have hpw := Lz.pow_le hb
  have HS : Hid (SzP w0 base B b wide s limit p l last o cs 0 g n cap ov cv w) := h
  have hln := h.ol.len
  have c1 := h.r.cell 1
  have c5 := h.r.cell 5
  have c6 := h.r.cell 6
  have c7 := h.r.cell 7
  have c9 := h.r.cell 9
  have f5 := h.r.free 5
  have f6 := h.r.free 6
  have f9 := h.r.free 9
  simp at c1 c5 c6 c7 c9
  have hne1 : ¬ (v : Int) = ((2 ^ b : Nat) : Int) := by omega
  have hne2 : ¬ (v : Int) = ((2 ^ b : Nat) : Int) + 1 := by omega
  have hqb : ((2 ^ b : Nat) : Int) ≤ 256 := by omega
  clear h
  subst hv
  have hem := big_empty hl0
  generalize 2 ^ b = Q at *
  go_enter Try.func56, Try.ntmps56
  go_wp2_with fail
  refine (HPW.out _).mono ?_
  rintro e w1 ⟨rfl, hw1⟩
  replace hw1 := hw1.symm
  subst hw1
  go_wp2_with fail
  go_ret
  exact ⟨rfl, _, _, _, _, _, HS.out.set hB rfl⟩

set_option linter.unusedSimpArgs false in
set_option linter.unusedVariables false in
set_option maxHeartbeats 2000000 in
set_option maxRecDepth 20000 in
theorem szStep_longk (w0 : World) (base B b limit p v g n cap : Nat) (wide : Bool) (s last : ByteArray) (l : List ByteArray) (o : List UInt8) (cs : List Int) (ov cv : Value) (w : World) (hb : b ≤ 8) (hB : base ≤ B) (hn : n ≤ 4096) (hv4 : v ≤ 4096) (hlim : limit ≤ 5000) (hol : o.length ≤ 5000) (hlb : last.size ≤ 5001)
    (h : SzP w0 base B b wide s limit p l last o cs 0 g n cap ov cv w) (h1 : v ≠ 2 ^ b) (h2 : v ≠ 2 ^ b + 1) (hvn : v < n) (t : ByteArray) (ht : t = l[v]'(by rw [h.ol.len]; exact hvn)) (htb : t.size ≤ 5001) (hlong : limit < o.length + t.size) :
    Calls Try.prog 56 #[.pointer (some ⟨B, 0, none⟩), .int .i64 (v : Int)] w fun e w' => e = .returned (.bool false) ∧ SzS w0 base B b wide s limit p l last o cs 3 w' := by
  have HPW : Hid (∀ w', Calls Try.prog 35 #[.int .i64 (b : Int)] w' fun e w'' => e = .returned (.int .i64 ((2 ^ b : Nat) : Int)) ∧ w'' = w') := fun w' => l1Pow_any b w' (by omega)
  have hpw := Lz.pow_le hb
  have HS : Hid (SzP w0 base B b wide s limit p l last o cs 0 g n cap ov cv w) := h
  have hln := h.ol.len
  have c1 := h.r.cell 1
  have c5 := h.r.cell 5
  have c6 := h.r.cell 6
  have c7 := h.r.cell 7
  have c9 := h.r.cell 9
  have f5 := h.r.free 5
  have f6 := h.r.free 6
  have f9 := h.r.free 9
  simp at c1 c5 c6 c7 c9
  have hlt : (v : Int) < (n : Int) := by omega
  have hngt : ¬ (n : Int) < (v : Int) := by omega
  have hneq : ¬ (v : Int) = (n : Int) := by omega
  have ct := h.ol.cell v (by omega)
  rw [← ht] at ct
  have HT : Hid True := trivial
  clear ht
  have eA : IntKind.i64.wrap ((o.length : Int) + (t.size : Int)) = ((o.length + t.size : Nat) : Int) := by
    have := wrap_i64_nat (o.length + t.size) (by omega)
    simpa using this
  obtain ⟨ao, ocap, rfl⟩ : ∃ ao ocap, ov = .slice ao o.length ocap := by
    rcases h.ot.2 with ⟨rfl, h0⟩ | ⟨g', cap', cur, rfl, _⟩
    · exact ⟨none, 0, by rw [h0]⟩
    · exact ⟨_, _, rfl⟩
  have c3 := h.r.cell 3
  simp at c3
  have hne1 : ¬ (v : Int) = ((2 ^ b : Nat) : Int) := by omega
  have hne2 : ¬ (v : Int) = ((2 ^ b : Nat) : Int) + 1 := by omega
  have hqb : ((2 ^ b : Nat) : Int) ≤ 256 := by omega
  clear h
  have hdl : (limit : Int) < (o.length : Int) + (t.size : Int) := by omega
  generalize 2 ^ b = Q at *
  generalize hO : o.length = O at *
  go_enter Try.func56, Try.ntmps56
  go_wp2_with fail
  refine (HPW.out _).mono ?_
  rintro e w1 ⟨rfl, hw1⟩
  replace hw1 := hw1.symm
  subst hw1
  go_wp2_with fail
  try rw [HT.out]
  go_quiet (fail)
  go_wp2_with fail
  go_ret
  exact ⟨rfl, _, _, _, _, _, (HS.out.drewN _).set hB rfl⟩

set_option linter.unusedSimpArgs false in
set_option linter.unusedVariables false in
set_option maxHeartbeats 2000000 in
set_option maxRecDepth 20000 in
theorem szStep_longn (w0 : World) (base B b limit p v g n cap : Nat) (wide : Bool) (s last : ByteArray) (l : List ByteArray) (o : List UInt8) (cs : List Int) (ov cv : Value) (w : World) (hb : b ≤ 8) (hB : base ≤ B) (hn : n ≤ 4096) (hv4 : v ≤ 4096) (hlim : limit ≤ 5000) (hol : o.length ≤ 5000) (hlb : last.size ≤ 5001)
    (h : SzP w0 base B b wide s limit p l last o cs 0 g n cap ov cv w) (h1 : v ≠ 2 ^ b) (h2 : v ≠ 2 ^ b + 1) (hvn : v = n) (hl1 : 1 ≤ last.size) (t : ByteArray) (ht : t = last ++ last.extract 0 1) (htb : t.size ≤ 5001) (hlong : limit < o.length + t.size) :
    Calls Try.prog 56 #[.pointer (some ⟨B, 0, none⟩), .int .i64 (v : Int)] w fun e w' => e = .returned (.bool false) ∧ SzS w0 base B b wide s limit p l last o cs 3 w' := by
  have HPW : Hid (∀ w', Calls Try.prog 35 #[.int .i64 (b : Int)] w' fun e w'' => e = .returned (.int .i64 ((2 ^ b : Nat) : Int)) ∧ w'' = w') := fun w' => l1Pow_any b w' (by omega)
  have hpw := Lz.pow_le hb
  have HS : Hid (SzP w0 base B b wide s limit p l last o cs 0 g n cap ov cv w) := h
  have hln := h.ol.len
  have c1 := h.r.cell 1
  have c5 := h.r.cell 5
  have c6 := h.r.cell 6
  have c7 := h.r.cell 7
  have c9 := h.r.cell 9
  have f5 := h.r.free 5
  have f6 := h.r.free 6
  have f9 := h.r.free 9
  simp at c1 c5 c6 c7 c9
  subst hvn
  have hem := ne_empty hl1
  have hi1 : (1 : Int) ≤ (last.size : Int) := by omega
  have hng : ¬ (v : Int) < (v : Int) := by omega
  have hlz : ¬ 9223372036854775807 < last.size + (last.extract 0 1).size := by rw [ByteArray.size_extract]; omega
  have hlz2 : last.size + (last.extract 0 1).size ≤ 9223372036854775807 := by omega
  have HT : Hid (last ++ last.extract 0 1 = t) := ht.symm
  clear ht
  have eA : IntKind.i64.wrap ((o.length : Int) + (t.size : Int)) = ((o.length + t.size : Nat) : Int) := by
    have := wrap_i64_nat (o.length + t.size) (by omega)
    simpa using this
  obtain ⟨ao, ocap, rfl⟩ : ∃ ao ocap, ov = .slice ao o.length ocap := by
    rcases h.ot.2 with ⟨rfl, h0⟩ | ⟨g', cap', cur, rfl, _⟩
    · exact ⟨none, 0, by rw [h0]⟩
    · exact ⟨_, _, rfl⟩
  have c3 := h.r.cell 3
  simp at c3
  have hne1 : ¬ (v : Int) = ((2 ^ b : Nat) : Int) := by omega
  have hne2 : ¬ (v : Int) = ((2 ^ b : Nat) : Int) + 1 := by omega
  have hqb : ((2 ^ b : Nat) : Int) ≤ 256 := by omega
  clear h
  have hdl : (limit : Int) < (o.length : Int) + (t.size : Int) := by omega
  generalize 2 ^ b = Q at *
  generalize hO : o.length = O at *
  go_enter Try.func56, Try.ntmps56
  go_wp2_with fail
  refine (HPW.out _).mono ?_
  rintro e w1 ⟨rfl, hw1⟩
  replace hw1 := hw1.symm
  subst hw1
  go_wp2_with fail
  try rw [HT.out]
  go_quiet (fail)
  go_wp2_with fail
  go_ret
  exact ⟨rfl, _, _, _, _, _, (HS.out.drewN _).set hB rfl⟩
end Go.Proofs.Ytjfihmpnbblomaa
