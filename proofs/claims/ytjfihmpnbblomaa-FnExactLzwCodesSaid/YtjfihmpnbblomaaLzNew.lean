/- A new reader of LZW, of the program. -/
import Derived.Test.YtjfihmpnbblomaaLzRdr
import Derived.Test.YtjfihmpnbblomaaLzStart
import Derived.Laws.MakeOwn
import Derived.Deep.RegionHeld3
namespace Go.Proofs.Ytjfihmpnbblomaa
open Go.RowKit

/-- the first k are there, the others are nothing yet -/
def Lz.part (n k : Nat) : List ByteArray := Lz.ones k ++ List.replicate (n - k) ⟨#[]⟩
theorem Lz.ones_len (k : Nat) : (Lz.ones k).length = k := by simp [Lz.ones]
theorem Lz.part_set (n k : Nat) (h : k < n) : (Lz.part n k).set k (Lz.one k) = Lz.part n (k + 1) := by
  unfold Lz.part
  rw [Lz.ones_snoc, show n - k = (n - (k + 1)) + 1 by omega, List.replicate_succ, List.append_assoc, List.set_append_right _ _ (by rw [Lz.ones_len]; omega), Lz.ones_len, Nat.sub_self]
  rfl
theorem Lz.part_start (b : Nat) : Lz.part (2 ^ b + 2) (2 ^ b) = Lz.start b := by
  unfold Lz.part
  rw [Nat.add_sub_cancel_left]
  rfl
theorem txtsV_set (l : List ByteArray) (j : Nat) (x : ByteArray) : (txtsV l).set j (.string x) = txtsV (l.set j x) := by simp [txtsV, List.map_set]
theorem txtsV_rep (n : Nat) : txtsV (List.replicate n ⟨#[]⟩) = List.replicate n (.string ⟨#[]⟩) := by simp [txtsV]

theorem make_txts (n : Nat) (hl : n ≤ 2000000) (w : World) :
    (Instr.makeSlice 43 (.int .i64 (n : Int)) (.int .i64 (n : Int))).run Try.prog w = .ok (.slice (some ⟨w.heap.size, 0, none⟩) n n) (w.alloc (.cells (madeCells #[.string ⟨#[]⟩] n) 9)) := by
  obtain ⟨i0, hi, hz0, hz1, hz2⟩ := info_parts info_string
  have h := run_make (P := Try.prog) w 43 9 i0 (.string ⟨#[]⟩) Try.underlying43 hi hz0 .i64 .i64 (n : Int) (n : Int) (by omega) (by omega) (by rw [hz2]; omega) (by omega)
  rw [h, Int.toNat_natCast, hz1, Nat.mul_one]
  rfl
theorem own_txts (w : World) (n : Nat) (hl : n ≤ 2000000) : OwnL (w.alloc (.cells (madeCells #[.string ⟨#[]⟩] n) 9)) w.heap.size (.slice (some ⟨w.heap.size, 0, none⟩) n n) n (Lz.part n 0) := by
  unfold OwnL
  have e : txtsV (Lz.part n 0) = (madeCells #[Value.string ⟨#[]⟩] n).toList := by
    rw [toList_madeCells_one]
    exact txtsV_rep n
  rw [e]
  exact World.ownsRow_lit w _ n (Nat.le_refl _) (by unfold maxLen; omega) (by rw [size_madeCells, Nat.mul_one])

theorem alloc_cell (w : World) (o : Obj) (p : Addr) (h : p.block < w.heap.size) : (w.alloc o).cell? p = w.cell? p := ((Below.refl w.heap.size w).alloc (Nat.le_refl _) o).cell h

theorem orderOf_any (hi : Bool) (w : World) : Calls Try.prog 61 #[.bool hi] w fun e w' => e = .returned (ordV hi) ∧ w' = w := by
  cases hi
  · exact orderOf_low w
  · exact orderOf_high w

theorem lzr_new (w : World) (b : Nat) (wide : Bool) (s : ByteArray) (tv : Value) (limit : Nat) : LzR (w.alloc (.cells #[.int .i64 (b : Int), .bool wide, ordV wide, .string s, .int .i64 0, tv, .string ⟨#[]⟩, .int .i64 (limit : Int)] 89)) w.heap.size b wide s 0 tv ⟨#[]⟩ limit := by
  have hc : ∀ i, (w.alloc (.cells #[.int .i64 (b : Int), .bool wide, ordV wide, .string s, .int .i64 0, tv, .string ⟨#[]⟩, .int .i64 (limit : Int)] 89)).cell? ⟨w.heap.size, i, none⟩ = (#[.int .i64 (b : Int), .bool wide, ordV wide, .string s, .int .i64 0, tv, .string ⟨#[]⟩, .int .i64 (limit : Int)] : Array Value)[i]? := fun i => World.cell?_alloc_at _ _ _ _ rfl
  have hf : ∀ i, (w.alloc (.cells #[.int .i64 (b : Int), .bool wide, ordV wide, .string s, .int .i64 0, tv, .string ⟨#[]⟩, .int .i64 (limit : Int)] 89)).frozen? ⟨w.heap.size, i, none⟩ = false := fun i => World.frozen?_alloc_at _ _ _ _ rfl
  exact ⟨hc 0, hc 1, ⟨hc 2, hc 3, hc 4, hf 4⟩, hc 5, hc 6, hc 7, hf 5, hf 6, hf 7⟩

/-- what comes of it -/
def LzNew (w : World) (b : Nat) (wide : Bool) (s : ByteArray) (limit : Nat) (e : Ending) (w' : World) : Prop :=
  ∃ B g, e = .returned (.pointer (some ⟨B, 0, none⟩)) ∧ LzR w' B b wide s 0 (.slice (some ⟨g, 0, none⟩) (2 ^ b + 2) (2 ^ b + 2)) ⟨#[]⟩ limit ∧ OwnL w' w.heap.size (.slice (some ⟨g, 0, none⟩) (2 ^ b + 2) (2 ^ b + 2)) (2 ^ b + 2) (Lz.start b) ∧ Below w.heap.size w w' ∧ w.heap.size ≤ B ∧ w.heap.size ≤ g ∧ g ≠ B

set_option maxHeartbeats 2000000 in
theorem lzNew_any (b limit : Nat) (wide : Bool) (s : ByteArray) (hb : b ≤ 8) (w : World) :
    Calls Try.prog 50 #[.string s, .agg #[.int .i64 (b : Int), .bool wide], .int .i64 (limit : Int)] w (LzNew w b wide s limit) := by
  have HFI : Hid (∀ w', Calls Try.prog 58 #[.agg #[.int .i64 (b : Int), .bool wide]] w' fun e w'' => e = .returned (.int .i64 ((2 ^ b + 2 : Nat) : Int)) ∧ Below w'.heap.size w' w'') := fun w' => lzFirst_any b hb wide w'
  have HCL : Hid (∀ w', Calls Try.prog 57 #[.agg #[.int .i64 (b : Int), .bool wide]] w' fun e w'' => e = .returned (.int .i64 ((2 ^ b : Nat) : Int)) ∧ Below w'.heap.size w' w'') := fun w' => lzClear_any b hb wide w'
  have hp := Lz.pow_le hb
  have HPS : Hid (Lz.part (2 ^ b + 2) (2 ^ b) = Lz.start b) := Lz.part_start b
  have HQ : Hid (∀ B g e w', e = .returned (.pointer (some ⟨B, 0, none⟩)) → LzR w' B b wide s 0 (.slice (some ⟨g, 0, none⟩) (2 ^ b + 2) (2 ^ b + 2)) ⟨#[]⟩ limit → OwnL w' w.heap.size (.slice (some ⟨g, 0, none⟩) (2 ^ b + 2) (2 ^ b + 2)) (2 ^ b + 2) (Lz.start b) → Below w.heap.size w w' → w.heap.size ≤ B → w.heap.size ≤ g → g ≠ B → LzNew w b wide s limit e w') := fun B g e w' h1 h2 h3 h4 h5 h6 h7 => ⟨B, g, h1, h2, h3, h4, h5, h6, h7⟩
  generalize hS : Lz.start b = S at *
  clear hS
  obtain ⟨n, hn⟩ : ∃ n : Nat, n = 2 ^ b + 2 := ⟨_, rfl⟩
  rw [← hn] at HFI HPS HQ
  obtain ⟨P, hP⟩ : ∃ P : Nat, P = 2 ^ b := ⟨_, rfl⟩
  rw [← hP] at HCL HPS hp
  have hPn : n = P + 2 := by omega
  have hPn' : P + 1 < n := by omega
  have hnb : n ≤ 258 := by omega
  clear hn hP hPn
  have B0 : Hid (Below w.heap.size w (w.alloc (.cells #[.int .i64 (b : Int), .bool wide] 50))) := (Below.refl _ _).alloc (Nat.le_refl _) _
  go_enter Try.func50, Try.ntmps50
  go_wp2_with fail
  refine (HFI.out _).mono ?_
  rintro e w1 ⟨rfl, b1⟩
  have hz1 : w.heap.size < w1.heap.size := by have := b1.size; simp at this; omega
  obtain ⟨hc1, -⟩ : (∀ o, w1.cell? ⟨w.heap.size, o, none⟩ = (w.alloc (.cells #[.int .i64 (b : Int), .bool wide] 50)).cell? ⟨w.heap.size, o, none⟩) ∧ True := ⟨fun o => b1.cell (p := ⟨w.heap.size, o, none⟩) (by simp), trivial⟩
  have c10 : w1.cell? ⟨w.heap.size, 0, none⟩ = some (.int .i64 (b : Int)) := by rw [hc1]; simp
  have c11 : w1.cell? ⟨w.heap.size, 1, none⟩ = some (.bool wide) := by rw [hc1]; simp
  have B1 : Hid (Below w.heap.size w w1) := B0.out.trans (b1.mono (by simp))
  have hmk := make_txts n (by omega) w1
  clear b1 hc1 B0 HFI
  go_wp2_with fail
  refine (HCL.out _).mono ?_
  rintro e w2 ⟨rfl, b2⟩
  have hz2 : w1.heap.size < w2.heap.size := by have := b2.size; simp at this; omega
  have c20 : w2.cell? ⟨w.heap.size, 0, none⟩ = some (.int .i64 (b : Int)) := by rw [b2.cell (p := ⟨w.heap.size, 0, none⟩) (by simp; omega), alloc_cell _ _ _ hz1]; exact c10
  have c21 : w2.cell? ⟨w.heap.size, 1, none⟩ = some (.bool wide) := by rw [b2.cell (p := ⟨w.heap.size, 1, none⟩) (by simp; omega), alloc_cell _ _ _ hz1]; exact c11
  have B2 : Hid (Below w.heap.size w w2) := (B1.out.alloc B1.out.size _).trans (b2.mono (by have := B1.out.size; simp; omega))
  have O2 : Hid (OwnL w2 w1.heap.size (.slice (some ⟨w1.heap.size, 0, none⟩) n n) n (Lz.part n 0)) := (own_txts w1 n (by omega)).kept (fun k hk => by
    have e : k = w1.heap.size := by cases hk; rfl
    subst e
    exact b2.block _ (by simp))
  clear b2 B1 c10 c11 hmk HCL
  generalize w1.heap.size = g at *
  go_wp2_with fail
  go_loopw [14] (fun i wr => ∃ k : Nat, k ≤ P ∧ i = .int .i64 (k : Int) ∧ OwnL wr g (.slice (some ⟨g, 0, none⟩) n n) n (Lz.part n k) ∧ Below w.heap.size w wr ∧ wr.cell? ⟨w.heap.size, 0, none⟩ = some (.int .i64 (b : Int)) ∧ wr.cell? ⟨w.heap.size, 1, none⟩ = some (.bool wide)) (fun i _ => P - (intOf i).toNat)
  case atStart => exact ⟨0, Nat.zero_le _, rfl, O2.out, B2.out, c20, c21⟩
  case round =>
    obtain ⟨k, hk, rfl, ho, hbel, d0, d1⟩ := hrel
    clear O2 B2 c20 c21
    have HO : Hid (OwnL wr g (.slice (some ⟨g, 0, none⟩) n n) n (Lz.part n k)) := ho
    have HB : Hid (Below w.heap.size w wr) := hbel
    have hgr := (ho.lt g rfl).2
    by_cases hlt : k < P
    · have hu := wrap_u8_small k (by omega)
      have htx : Sem.run Try.prog (convert 22 9 (.slice (some ⟨wr.heap.size, 0, none⟩) 1 1)) (wr.alloc (.cells #[.int .u8 (k : Int)] 5)) = .ok (.string (Lz.one k)) (wr.alloc (.cells #[.int .u8 (k : Int)] 5)) := run_text1 wr k wr.heap.size rfl
      have hkl : k < (Lz.part n k).length := by rw [ho.len]; omega
      have hck := ho.cell k hkl
      have hfk : wr.frozen? ⟨g, k, none⟩ = false := World.ownsRow.frozenAt ho k
      generalize hx : (Lz.part n k)[k] = x at *
      clear hx ho hbel
      have hgk : (k : Int) < (n : Int) := by omega
      obtain ⟨W2, hW2⟩ : ∃ W2, W2 = (wr.alloc (.cells #[.int .u8 (k : Int)] 5)).setCell ⟨g, k, none⟩ (.string (Lz.one k)) := ⟨_, rfl⟩
      have hst := (World.ownsRow.stored (HO.out.alloc (.cells #[.int .u8 (k : Int)] 5)) k (.string (Lz.one k))).1
      rw [txtsV_set, Lz.part_set n k (by omega), ← hW2] at hst
      have HO2 : Hid (OwnL W2 g (.slice (some ⟨g, 0, none⟩) n n) n (Lz.part n (k + 1))) := hst
      have HB2 : Hid (Below w.heap.size w W2) := by show Below _ _ _; rw [hW2]; exact (HB.out.alloc HB.out.size _).setCell (by show w.heap.size ≤ g; omega) _
      have e0 : W2.cell? ⟨w.heap.size, 0, none⟩ = some (.int .i64 (b : Int)) := by
        rw [hW2, World.cell?_setCell_other _ _ _ _ (fun e => by have := congrArg Addr.block e; simp at this; omega), alloc_cell _ _ _ (by show w.heap.size < _; omega)]; exact d0
      have e1 : W2.cell? ⟨w.heap.size, 1, none⟩ = some (.bool wide) := by
        rw [hW2, World.cell?_setCell_other _ _ _ _ (fun e => by have := congrArg Addr.block e; simp at this; omega), alloc_cell _ _ _ (by show w.heap.size < _; omega)]; exact d1
      have HE : Hid (W2.cell? ⟨w.heap.size, 0, none⟩ = some (.int .i64 (b : Int)) ∧ W2.cell? ⟨w.heap.size, 1, none⟩ = some (.bool wide)) := ⟨e0, e1⟩
      have HW2 : Hid (W2 = (wr.alloc (.cells #[.int .u8 (k : Int)] 5)).setCell ⟨g, k, none⟩ (.string (Lz.one k))) := hW2
      clear hst e0 e1 hW2 d0 d1 HPS HQ
      go_wp2_with fail
      go_roundw
      case rel =>
        refine ⟨k + 1, by omega, by go_num, ?_⟩
        rw [← World.setCell_alloc_past _ _ _ _ hgr, ← HW2.out]
        exact ⟨HO2.out, HB2.out, HE.out.1, HE.out.2⟩
      case measure => simp [intOf]; omega
    · have e : P = k := by omega
      subst e
      have HO2 : Hid (OwnL wr w.heap.size (.slice (some ⟨g, 0, none⟩) n n) n S) := by
        show OwnL _ _ _ _ _
        rw [← HPS.out]; exact ho.down (by omega)
      have HOR : Hid (∀ w', Calls Try.prog 61 #[.bool wide] w' fun e w'' => e = .returned (ordV wide) ∧ w'' = w') := fun w' => orderOf_any wide w'
      have hgw : g ≠ wr.heap.size := by omega
      clear ho hbel HO HPS
      obtain ⟨ov, hov⟩ : ∃ f, ordV wide = .func (.func f) #[] #[] := by cases wide <;> exact ⟨_, rfl⟩
      have HOV : Hid (ordV wide = .func (.func ov) #[] #[]) := hov
      rw [hov] at HOR
      clear hov
      go_wp2_with fail
      go_region_held3 (fun w' => w'.cell? ⟨w.heap.size, 0, none⟩ = some (.int .i64 (b : Int)) ∧ w'.cell? ⟨w.heap.size, 1, none⟩ = some (.bool wide)) (go_keep) ((go_at_call 61; refine (HOR.out _).mono ?_; rintro e w3 ⟨rfl, hw3⟩; subst hw3))
      all_goals go_wp2_with fail
      all_goals go_ret
      all_goals
        refine HQ.out wr.heap.size g _ _ rfl ?_ ((HO2.out.alloc _).drew) ((HB.out.alloc HB.out.size _).drew) HB.out.size (by omega) hgw
        rw [← HOV.out]
        exact (lzr_new wr b wide s _ limit).drew
end Go.Proofs.Ytjfihmpnbblomaa
