/- lzwRead[int] of the program. -/
import Derived.Test.YtjfihmpnbblomaaLzWorkI
import Derived.Test.YtjfihmpnbblomaaLzNew
import Derived.Test.YtjfihmpnbblomaaLzFine
import Derived.Shelf.Abstract
namespace Go.Proofs.Ytjfihmpnbblomaa
open Go.RowKit Go.Shelf

theorem KpI.down {w : World} {base base' : Nat} {kv : Value} {dn : List (Nat × ByteArray)} (h : KpI w base kv dn) (hb : base' ≤ base) : KpI w base' kv dn := by
  refine ⟨h.1, ?_⟩
  rcases h.2 with h0 | ⟨g, cap, cur, rfl, hgB, r⟩
  · exact .inl h0
  · exact .inr ⟨g, cap, cur, rfl, Nat.le_trans hb hgB, r⟩
def LzYesI (w : World) (Rs : Except Int (List (Nat × ByteArray))) (KB : Nat) (w' : World) : Prop := ∃ dn kv, Rs = .ok dn ∧ Boxed w' KB 33 kv ∧ KpI w' (KB + 2) kv dn ∧ Below w.heap.size w w'
def LzNoI (w : World) (Rs : Except Int (List (Nat × ByteArray))) (c : Int) (w' : World) : Prop := c ≠ 0 ∧ Rs = .error c ∧ Below w.heap.size w w'
/-- what lzwRead answers -/
def LzRdI (w : World) (Rs : Except Int (List (Nat × ByteArray))) (e : Ending) (w' : World) : Prop :=
  (∃ dn ao n cap, Rs = .ok dn ∧ e = .returned (.tuple #[.slice ao n cap, .int .i64 0]) ∧ KpI w' w.heap.size (.slice ao n cap) dn ∧ Below w.heap.size w w') ∨ ∃ c, c ≠ 0 ∧ Rs = .error c ∧ e = .returned (.tuple #[.slice none 0 0, .int .i64 c]) ∧ Below w.heap.size w w'

set_option maxHeartbeats 1000000 in
theorem lzReadI_no (s : ByteArray) (b limit : Int) (wide : Bool) (w : World) (hs : s.size ≤ 3000000) (hno : ¬ LzFine s b wide limit) :
    Calls Try.prog 48 #[.string s, .agg #[.int .i64 b, .bool wide], .int .i64 limit, .func (.func 47) #[] #[]] w fun e w' => e = .returned (.tuple #[.slice none 0 0, .int .i64 1]) ∧ Below w.heap.size w w' := by
  have HOK : Hid (∀ w', Calls Try.prog 36 #[.agg #[.int .i64 b, .bool wide]] w' fun e w'' => e = .returned (.bool (Lz.ok b wide)) ∧ Below w'.heap.size w' w'') := fun w' => lzOk_any b wide w'
  have HB0 : Hid (Below w.heap.size w ((w.alloc (.cells #[.int .i64 b, .bool wide] 50)).alloc (.cells #[.func (.func 47) #[] #[]] 73))) := ((Below.refl _ _).alloc (Nat.le_refl _) _).alloc (by simp) _
  have hz0 : w.heap.size ≤ ((w.alloc (.cells #[.int .i64 b, .bool wide] 50)).alloc (.cells #[.func (.func 47) #[] #[]] 73)).heap.size := by simp; omega
  unfold LzFine at hno
  generalize hk : Lz.ok b wide = k at *
  clear hk
  cases k with
  | false =>
    clear hno
    go_enter Try.func48, Try.ntmps48
    go_wp2_with fail
    refine (HOK.out _).mono ?_
    rintro e w1 ⟨rfl, b1⟩
    have HB1 : Hid (Below w.heap.size w w1) := HB0.out.trans (b1.mono hz0)
    clear b1 HB0 hz0 HOK
    go_wp2_with fail
    exact bodyPost_ret (v := .tuple #[.slice none 0 0, .int .i64 1]) (by simp [results, Try.results48, go_sem]) rfl ⟨rfl, HB1.out⟩
  | true =>
    by_cases h1 : 9000 < s.size
    · have d1 : decide ((s.size : Int) > 9000) = true := decide_eq_true (by omega)
      clear hno
      go_enter Try.func48, Try.ntmps48
      go_wp2_with fail
      refine (HOK.out _).mono ?_
      rintro e w1 ⟨rfl, b1⟩
      have HB1 : Hid (Below w.heap.size w w1) := HB0.out.trans (b1.mono hz0)
      clear b1 HB0 hz0 HOK
      go_wp2_with fail
      exact bodyPost_ret (v := .tuple #[.slice none 0 0, .int .i64 1]) (by simp [results, Try.results48, go_sem]) rfl ⟨rfl, HB1.out⟩
    · have d1 : decide ((s.size : Int) > 9000) = false := decide_eq_false (by omega)
      by_cases h2 : limit < 0
      · have d2 : decide (limit < 0) = true := decide_eq_true h2
        clear hno
        go_enter Try.func48, Try.ntmps48
        go_wp2_with fail
        refine (HOK.out _).mono ?_
        rintro e w1 ⟨rfl, b1⟩
        have HB1 : Hid (Below w.heap.size w w1) := HB0.out.trans (b1.mono hz0)
        clear b1 HB0 hz0 HOK
        go_wp2_with fail
        exact bodyPost_ret (v := .tuple #[.slice none 0 0, .int .i64 1]) (by simp [results, Try.results48, go_sem]) rfl ⟨rfl, HB1.out⟩
      · have d2 : decide (limit < 0) = false := decide_eq_false h2
        have h3 : limit > 5000 := by
          have : ¬ (0 ≤ limit ∧ limit ≤ 5000) := fun h => hno ⟨rfl, by omega, h.1, h.2⟩
          omega
        have d3 : decide (limit > 5000) = true := decide_eq_true h3
        clear hno
        go_enter Try.func48, Try.ntmps48
        go_wp2_with fail
        refine (HOK.out _).mono ?_
        rintro e w1 ⟨rfl, b1⟩
        have HB1 : Hid (Below w.heap.size w w1) := HB0.out.trans (b1.mono hz0)
        clear b1 HB0 hz0 HOK
        go_wp2_with fail
        exact bodyPost_ret (v := .tuple #[.slice none 0 0, .int .i64 1]) (by simp [results, Try.results48, go_sem]) rfl ⟨rfl, HB1.out⟩

set_option maxHeartbeats 2000000 in
set_option maxRecDepth 20000 in
theorem lzReadI_yes (s : ByteArray) (b limit : Nat) (wide : Bool) (Rs : Except Int (List (Nat × ByteArray))) (w : World) (hf : LzFine s b wide limit) (hRs : Rs = Lz.go s b wide (8 * s.size + 1) 0 (Lz.start b) ⟨#[]⟩ limit) :
    Calls Try.prog 48 #[.string s, .agg #[.int .i64 (b : Int), .bool wide], .int .i64 (limit : Int), .func (.func 47) #[] #[]] w (LzRdI w Rs) := by
  obtain ⟨hok, hsz, -, hlim⟩ := hf
  have hb : b ≤ 8 := by
    unfold Lz.ok at hok
    split at hok
    · have := eq_of_beq hok; omega
    · simp at hok; omega
  have HOK : Hid (∀ w', Calls Try.prog 36 #[.agg #[.int .i64 (b : Int), .bool wide]] w' fun e w'' => e = .returned (.bool true) ∧ Below w'.heap.size w' w'') := fun w' => by rw [← hok]; exact lzOk_any b wide w'
  have HNW : Hid (∀ w', Calls Try.prog 50 #[.string s, .agg #[.int .i64 (b : Int), .bool wide], .int .i64 (limit : Int)] w' (LzNew w' b wide s limit)) := fun w' => lzNew_any b limit wide s hb w'
  obtain ⟨W0, hW0⟩ : ∃ W0, W0 = (w.alloc (.cells #[.int .i64 (b : Int), .bool wide] 50)).alloc (.cells #[.func (.func 47) #[] #[]] 73) := ⟨_, rfl⟩
  have HB0 : Hid (Below w.heap.size w W0) := by show Below _ _ _; rw [hW0]; exact ((Below.refl _ _).alloc (Nat.le_refl _) _).alloc (by simp) _
  have hz0 : W0.heap.size = w.heap.size + 2 := by rw [hW0]; simp
  have HFB : Hid (Boxed W0 (w.heap.size + 1) 73 (.func (.func 47) #[] #[])) := by
    show Boxed _ _ _ _
    rw [hW0]
    exact duo1 ..
  have HCW : Hid (W0.cell? ⟨w.heap.size, 0, none⟩ = some (.int .i64 (b : Int)) ∧ W0.cell? ⟨w.heap.size, 1, none⟩ = some (.bool wide)) := by
    show _ ∧ _
    rw [hW0]
    exact ⟨(alloc_cell _ _ ⟨w.heap.size, 0, none⟩ (by simp)).trans (by simp), (alloc_cell _ _ ⟨w.heap.size, 1, none⟩ (by simp)).trans (by simp)⟩
  have HW0 : Hid (W0 = (w.alloc (.cells #[.int .i64 (b : Int), .bool wide] 50)).alloc (.cells #[.func (.func 47) #[] #[]] 73)) := hW0
  clear hW0
  have d1 : decide ((s.size : Int) > 9000) = false := decide_eq_false (by omega)
  have d2 : decide ((limit : Int) < 0) = false := decide_eq_false (by omega)
  have d3 : decide ((limit : Int) > 5000) = false := decide_eq_false (by omega)
  have hmf : ∀ (fn : Fn) (first cap : Array Value) (w : World), (Instr.makeFunc fn first cap).run Try.prog w = .ok (.func fn first cap) w := fun _ _ _ _ => rfl
  have HRS : Hid (Rs = Lz.go s b wide (8 * s.size + 1) 0 (Lz.start b) ⟨#[]⟩ limit) := hRs
  clear hRs hok
  go_enter Try.func48, Try.ntmps48
  go_wp2_with fail
  refine (HOK.out _).mono ?_
  rintro e w1 ⟨rfl, b1⟩
  rw [← HW0.out] at b1
  have HB1 : Hid (Below w.heap.size w w1) := HB0.out.trans (b1.mono (by omega))
  have hz1 : w.heap.size + 2 ≤ w1.heap.size := by have := b1.size; omega
  have HFB1 : Hid (Boxed w1 (w.heap.size + 1) 73 (.func (.func 47) #[] #[])) := (b1.block _ (by omega)).trans HFB.out
  have c10 : w1.cell? ⟨w.heap.size, 0, none⟩ = some (.int .i64 (b : Int)) := (b1.cell (p := ⟨w.heap.size, 0, none⟩) (by show w.heap.size < _; omega)).trans HCW.out.1
  have c11 : w1.cell? ⟨w.heap.size, 1, none⟩ = some (.bool wide) := (b1.cell (p := ⟨w.heap.size, 1, none⟩) (by show w.heap.size < _; omega)).trans HCW.out.2
  clear b1 HB0 HFB HCW HOK HW0 hz0
  go_wp2_with fail
  refine (HNW.out _).mono ?_
  rintro e w2 ⟨B, g, rfl, hl2, ho2, b2, hB2, hg2, hgB⟩
  have HB2 : Hid (Below w.heap.size w w2) := HB1.out.trans (b2.mono (by omega))
  have HFB2 : Hid (Boxed w2 (w.heap.size + 1) 73 (.func (.func 47) #[] #[])) := (b2.block _ (by omega)).trans HFB1.out
  have HL2 : Hid (LzR w2 B b wide s 0 (.slice (some ⟨g, 0, none⟩) (2 ^ b + 2) (2 ^ b + 2)) ⟨#[]⟩ limit ∧ OwnL w2 w1.heap.size (.slice (some ⟨g, 0, none⟩) (2 ^ b + 2) (2 ^ b + 2)) (2 ^ b + 2) (Lz.start b)) := ⟨hl2, ho2⟩
  have hBw := hl2.lt
  have hgw := (ho2.lt g rfl).2
  have hz2 := b2.size
  clear hl2 ho2 b2 HB1 HFB1 c10 c11 HNW
  obtain ⟨W4, hW4⟩ : ∃ W4, W4 = (w2.alloc (.cells #[.pointer (some ⟨B, 0, none⟩)] 79)).alloc (.cells #[.slice none 0 0] 33) := ⟨_, rfl⟩
  have hs4 : W4.heap.size = w2.heap.size + 2 := by rw [hW4]; simp
  have HB24 : Hid (Below w2.heap.size w2 W4) := by show Below _ _ _; rw [hW4]; exact ((Below.refl _ _).alloc (Nat.le_refl _) _).alloc (by simp) _
  have HX : Hid (Boxed W4 w2.heap.size 79 (.pointer (some ⟨B, 0, none⟩)) ∧ Boxed W4 (w2.heap.size + 1) 33 (.slice none 0 0)) := by
    show Boxed _ _ _ _ ∧ Boxed _ _ _ _
    rw [hW4]
    exact ⟨duo0 .., duo1 ..⟩
  have HWK : Hid (Calls Try.prog 67 #[.pointer (some ⟨w2.heap.size, 0, none⟩), .pointer (some ⟨w.heap.size + 1, 0, none⟩), .pointer (some ⟨w2.heap.size + 1, 0, none⟩)] (W4.alloc (.cells #[.int .i64 0] 3)) fun e w' => Boxed w' W4.heap.size 3 (.int .i64 0) ∧ ((∃ v, e = .returned v) ∧ LzYesI w Rs (w2.heap.size + 1) w' ∨ ∃ c, e = fault c ∧ LzNoI w Rs c w')) := by
    obtain ⟨x1, x2⟩ := HX.out
    have ba : Below W4.heap.size W4 (W4.alloc (.cells #[.int .i64 0] 3)) := (Below.refl _ _).alloc (Nat.le_refl _) _
    have b24 : Below w2.heap.size w2 (W4.alloc (.cells #[.int .i64 0] 3)) := HB24.out.trans (ba.mono (by omega))
    have hsa : (W4.alloc (.cells #[.int .i64 0] 3)).heap.size = w2.heap.size + 3 := by rw [World.size_alloc, hs4]
    refine (lzWorkI w2.heap.size (w.heap.size + 1) (w2.heap.size + 1) B b w1.heap.size g (2 ^ b + 2) (2 ^ b + 2) limit wide s Rs _ ((ba.block _ (by omega)).trans x1) ((b24.block _ (by omega)).trans HFB2.out) ((ba.block _ (by omega)).trans x2) (HL2.out.1.kept b24) (HL2.out.2.up b24) hb hsz (by omega) HRS.out (by omega) (by omega) (by omega) (by omega) (by omega) (by omega) hgB (by omega) (by omega) (by omega)).mono ?_
    intro e w' hwk
    have hfr : LzF B (w2.heap.size + 1) g (W4.alloc (.cells #[.int .i64 0] 3)) w' := by
      rcases hwk with ⟨-, dn, -, kv, -, -, h⟩ | ⟨c, -, -, -, h⟩ <;> exact h
    have hbel : Below w.heap.size w w' := by
      have h1 : Below w.heap.size w (W4.alloc (.cells #[.int .i64 0] 3)) := HB2.out.trans (b24.mono (by omega))
      exact ⟨hfr.os.trans h1.os, hfr.tape.trans h1.tape, hfr.output.trans h1.output, Nat.le_trans h1.size hfr.size, fun k hk => (hfr.block k (by omega) (by omega) (by omega) (by omega)).trans (h1.block k hk)⟩
    refine ⟨hfr.box (Boxed.new W4 3 (.int .i64 0)) (by omega) (by omega) (by omega), ?_⟩
    rcases hwk with ⟨hv, dn, hR, kv, hbx, hkp, -⟩ | ⟨c, he, hc, hR, -⟩
    · exact .inl ⟨hv, dn, kv, hR, hbx, hkp.down (by omega), hbel⟩
    · exact .inr ⟨c, he, hc, hR, hbel⟩
  have HFI : Hid (Calls Try.prog 51 #[.func (.func 67) #[] #[.pointer (some ⟨w2.heap.size, 0, none⟩), .pointer (some ⟨w.heap.size + 1, 0, none⟩), .pointer (some ⟨w2.heap.size + 1, 0, none⟩)]] W4 (FaultOut W4 (LzYesI w Rs (w2.heap.size + 1)) (LzNoI w Rs))) :=
    faultIn_any 67 _ (enters_of Try.func67 (by kernel_rfl) rfl) _ _ W4 HWK.out
  clear HWK HX HL2 HFB2 HB24 HRS
  have hW4' : (w2.alloc (.cells #[.pointer (some ⟨B, 0, none⟩)] 79)).alloc (.cells #[.slice none 0 0] 33) = W4 := hW4.symm
  clear hW4
  go_wp2_with fail
  refine HFI.out.mono ?_
  rintro e w7 ⟨w6, hb6, (⟨rfl, ⟨dn, kv, hR, hbx, hkp, g5⟩, ht⟩ | ⟨c, rfl, ⟨hc0, hR, g5⟩, ht⟩)⟩
  · have hb7 : Boxed w7 (w2.heap.size + 1) 33 kv := by rw [ht]; exact (Below.heap_setCell w6 ⟨W4.heap.size, 0, none⟩ _ _ (fun e => by have e2 : w2.heap.size + 1 = W4.heap.size := e; omega)).trans hbx
    have hk7 : KpI w7 w.heap.size kv dn := by
      rw [ht]
      exact (hkp.besides (fun k hk => Below.heap_setCell w6 ⟨W4.heap.size, 0, none⟩ _ k (fun e => by have e2 : k = W4.heap.size := e; have := (hkp.lt k hk).1; omega))).down (by omega)
    obtain ⟨ao, n, cap, rfl⟩ : ∃ ao n cap, kv = .slice ao n cap := by
      rcases hk7.2 with ⟨rfl, _⟩ | ⟨g, cap, cur, rfl, _⟩
      · exact ⟨_, _, _, rfl⟩
      · exact ⟨_, _, _, rfl⟩
    have HF : Hid (LzRdI w Rs (.returned (.tuple #[.slice ao n cap, .int .i64 0])) w7) := .inl ⟨dn, ao, n, cap, hR, rfl, hk7, by rw [ht]; exact g5.setCell (by show w.heap.size ≤ W4.heap.size; omega) _⟩
    have k1 := hb7.cell
    clear hb7 hk7 hR hbx hkp g5 ht hb6 HFI
    go_wp2_with fail
    exact bodyPost_ret (v := .tuple #[.slice ao n cap, .int .i64 0]) (by simp [results, Try.results48, go_sem]) rfl HF.out
  · have HF : Hid (LzRdI w Rs (.returned (.tuple #[.slice none 0 0, .int .i64 c])) w7) := .inr ⟨c, hc0, hR, rfl, by rw [ht]; exact g5.setCell (by show w.heap.size ≤ W4.heap.size; omega) _⟩
    have hcb : (c != 0) = true := by rw [bne_iff_ne]; exact hc0
    clear hR g5 ht hb6 HFI hc0
    go_wp2_with fail
    exact bodyPost_ret (v := .tuple #[.slice none 0 0, .int .i64 c]) (by simp [results, Try.results48, go_sem]) rfl HF.out
end Go.Proofs.Ytjfihmpnbblomaa
