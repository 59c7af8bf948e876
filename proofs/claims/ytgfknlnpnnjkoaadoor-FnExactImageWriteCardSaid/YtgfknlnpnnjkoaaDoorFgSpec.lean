/- Numbers and lists in figures, as the specification writes them. -/
import Derived.Test.YtgfknlnpnnjkoaaDoorStrWalks
import Derived.Test.YtgfknlnpnnjkoaaDoorIntsWalks
import Derived.Lib.ItoaNum
namespace Go.Proofs.YtgfknlnpnnjkoaaDoor
open Go.RowKit

theorem dec_small {n : Nat} (h : n < 10) : Lib.decDigits n = [UInt8.ofNat (48 + n)] := by rw [Lib.decDigits, dif_pos h]
theorem dec_big {n : Nat} (h : ¬ n < 10) : Lib.decDigits n = Lib.decDigits (n / 10) ++ [UInt8.ofNat (48 + n % 10)] := by rw [Lib.decDigits, dif_neg h]
theorem dec_len : ∀ (k n : Nat), n < 10 ^ (k + 1) → (Lib.decDigits n).length ≤ k + 1
  | 0, n, h => by rw [dec_small (by simpa using h)]; simp
  | k + 1, n, h => by
    by_cases h10 : n < 10
    · rw [dec_small h10]; simp
    · rw [dec_big h10, List.length_append, List.length_singleton]
      have h2 : n / 10 < 10 ^ (k + 1) := by
        have e : 10 ^ (k + 1 + 1) = 10 ^ (k + 1) * 10 := Nat.pow_succ ..
        omega
      have := dec_len k (n / 10) h2
      omega
theorem dec_short {n : Nat} (h : n ≤ 4294967295) : (Lib.decDigits n).length ≤ 10 := by
  have e : (10 : Nat) ^ (9 + 1) = 10000000000 := by decide
  exact dec_len 9 n (by omega)
theorem str_two (a b : List UInt8) : (ByteArray.mk a.toArray ++ ByteArray.mk b.toArray) = ByteArray.mk (a ++ b).toArray := ByteArray.mk_append_mk a b
theorem ret_str {a b : ByteArray} (h : a = b) : Ending.returned (.string a) = .returned (.string b) := by rw [h]
theorem str_size (a : List UInt8) : (ByteArray.mk a.toArray).size = a.length := by simp [ByteArray.size]
set_option maxHeartbeats 2000000 in
set_option maxRecDepth 20000 in
theorem l1Dec_any : ∀ (n : Nat), n ≤ 4294967295 → ∀ w, Calls Tryd.prog 42 #[.int .i64 (n : Int)] w fun e w' => e = .returned (.string ⟨(Lib.decDigits n).toArray⟩) ∧ Below w.heap.size w w' := by
  intro n
  induction n using Nat.strongRecOn with
  | _ n ih =>
    intro hn w
    have HIH : Hid (∀ m, m < n → ∀ w, Calls Tryd.prog 42 #[.int .i64 (m : Int)] w fun e w' => e = .returned (.string ⟨(Lib.decDigits m).toArray⟩) ∧ Below w.heap.size w w') := fun m hm w => ih m hm (by omega) w
    clear ih
    have h0 : ¬ (n : Int) < -9223372036854775807 := by omega
    have h1 : ¬ (n : Int) < 0 := by omega
    by_cases h : n < 10
    · have hi : (n : Int) < 10 := by omega
      obtain ⟨c, hc⟩ : ∃ c, c = 48 + n := ⟨_, rfl⟩
      have ec : (48 : Int) + (n : Int) = (c : Int) := by omega
      have hc256 : c < 256 := by omega
      have wc : IntKind.u8.wrap (c : Int) = (c : Int) := by
        rw [IntKind.wrap_u8]
        omega
      have hcv := run_text1 w c w.heap.size rfl
      have HE : Hid (ByteArray.mk #[UInt8.ofNat c] = ⟨(Lib.decDigits n).toArray⟩) := by rw [dec_small h, hc]; exact rfl
      clear hc HIH
      go_enter Tryd.func42, Tryd.ntmps42
      go_wp2_with fail
      go_ret
      exact ⟨ret_str HE.out, (Below.refl _ _).alloc (Nat.le_refl _) _⟩
    · have hi : ¬ (n : Int) < 10 := by omega
      have HD : Hid (Lib.decDigits n = Lib.decDigits (n / 10) ++ [UInt8.ofNat (48 + n % 10)]) := dec_big h
      obtain ⟨q, hq⟩ : ∃ q, q = n / 10 := ⟨_, rfl⟩
      obtain ⟨r, hr⟩ : ∃ r, r = n % 10 := ⟨_, rfl⟩
      have eq : (n : Int) / 10 = (q : Int) := by omega
      have er : (n : Int) % 10 = (r : Int) := by omega
      have HQ := HIH.out q (by omega)
      have HR := HIH.out r (by omega)
      have l1 := dec_short (n := q) (by omega)
      have l2 := dec_short (n := r) (by omega)
      rw [← hq, ← hr] at HD
      rw [dec_small (n := r) (by omega)] at HR l2
      have HQ' : Hid (∀ w, Calls Tryd.prog 42 #[.int .i64 (q : Int)] w fun e w' => e = .returned (.string ⟨(Lib.decDigits q).toArray⟩) ∧ Below w.heap.size w w') := HQ
      have HR' : Hid (∀ w, Calls Tryd.prog 42 #[.int .i64 (r : Int)] w fun e w' => e = .returned (.string ⟨[UInt8.ofNat (48 + r)].toArray⟩) ∧ Below w.heap.size w w') := HR
      rw [HD.out]
      clear HIH HQ HR hq hr
      generalize Lib.decDigits q = DQ at *
      generalize [UInt8.ofNat (48 + r)] = DR at *
      go_enter Tryd.func42, Tryd.ntmps42
      go_wp2_with fail
      refine (HQ'.out _).mono ?_
      rintro e w1 ⟨rfl, b1⟩
      go_wp2_with fail
      refine (HR'.out _).mono ?_
      rintro e w2 ⟨rfl, b2⟩
      have s1 := str_size DQ
      have s2 := str_size DR
      go_wp2_with fail
      go_ret
      exact ⟨ret_str (str_two DQ DR), b1.trans (b2.mono b1.size)⟩
theorem Ints.cellAt {w : World} {a : Option Addr} {l : List Int} (h : Ints w a l) {i : Nat} (hi : i < l.length) : ∃ b off, a = some ⟨b, off, none⟩ ∧ b < w.heap.size ∧ w.cell? ⟨b, off + i, none⟩ = some (.int .i64 l[i]) := by
  rcases h with e | ⟨b, off, rfl, hb, hc⟩
  · rw [e] at hi; simp at hi
  · exact ⟨b, off, rfl, hb, hc i hi⟩
/-- numbers in figures, a blank ahead of each -/
def figs (l : List Int) : List UInt8 := l.flatMap (fun n => 32 :: Lib.decDigits n.toNat)
theorem figs_snoc (l : List Int) (n : Int) : figs (l ++ [n]) = figs l ++ (32 :: Lib.decDigits n.toNat) := by simp [figs]
def Figs (l : List Int) : Prop := ∀ n ∈ l, 0 ≤ n ∧ n ≤ 4294967295
theorem figs_len {l : List Int} (h : Figs l) : (figs l).length ≤ 11 * l.length := by
  induction l with
  | nil => simp [figs]
  | cons n l ih =>
    have h1 := ih (fun m hm => h m (List.mem_cons_of_mem _ hm))
    have h2 := h n (List.mem_cons_self ..)
    have h3 := dec_short (n := n.toNat) (by omega)
    unfold figs at *
    rw [List.flatMap_cons, List.length_append, List.length_cons, List.length_cons]
    omega
set_option maxHeartbeats 2000000 in
set_option maxRecDepth 20000 in
theorem l12List_any (a : Option Addr) (N c : Nat) (l : List Int) (w : World) (h : Ints w a l) (hN : l.length = N) (hNb : N ≤ 1048576) (hf : Figs l) : Calls Tryd.prog 43 #[.slice a N c] w fun e w' => e = .returned (.string ⟨(figs l).toArray⟩) ∧ Below w.heap.size w w' := by
  have HI : Hid (Ints w a l ∧ l.length = N ∧ Figs l) := ⟨h, hN, hf⟩
  clear h hN hf
  go_enter Tryd.func43, Tryd.ntmps43
  go_wp2_with fail
  go_loopw [3, 4] (fun o i wr => ∃ (k : Nat) (X : ByteArray), k ≤ N ∧ i = .int .i64 (k : Int) ∧ o = .string X ∧ X.size ≤ 11 * k ∧ Hid (X = ⟨(figs (l.take k)).toArray⟩ ∧ Below w.heap.size w wr)) (fun _ i _ => N - (intOf i).toNat)
  case atStart => exact ⟨0, ⟨#[]⟩, Nat.zero_le _, rfl, rfl, by simp [ByteArray.size], rfl, Below.refl _ _⟩
  case round =>
    obtain ⟨k, X, hk, rfl, rfl, hX, HX⟩ := hrel
    by_cases hlt : k < N
    · have hki : (k : Int) < (N : Int) := by omega
      have hkl : k < l.length := by rw [HI.out.2.1]; exact hlt
      have hc := (HI.out.1.kept HX.out.2).cellAt hkl
      obtain ⟨b, off, rfl, hb, hcell⟩ := hc
      have hfk := HI.out.2.2 _ (List.getElem_mem hkl)
      obtain ⟨z, hz⟩ := Int.eq_ofNat_of_zero_le hfk.1
      have HT : Hid (figs (l.take (k + 1)) = figs (l.take k) ++ (32 :: Lib.decDigits z)) := by
        show _ = _
        rw [List.take_succ_eq_append_getElem hkl, figs_snoc, hz]
        rfl
      rw [hz] at hcell hfk
      have HD : Hid (∀ w, Calls Tryd.prog 42 #[.int .i64 (z : Int)] w fun e w' => e = .returned (.string ⟨(Lib.decDigits z).toArray⟩) ∧ Below w.heap.size w w') := fun w => l1Dec_any z (by omega) w
      have hzl := dec_short (n := z) (by omega)
      have hzs := str_size (Lib.decDigits z)
      have hs1 : (X ++ ⟨#[32]⟩).size = X.size + 1 := by rw [ByteArray.size_append]; rfl
      have hX2 : (X ++ ⟨#[32]⟩ ++ ⟨(Lib.decDigits z).toArray⟩).size ≤ 11 * (k + 1) := by rw [ByteArray.size_append, hs1, hzs]; omega
      have HX2 : Hid (X ++ ⟨#[32]⟩ ++ ⟨(Lib.decDigits z).toArray⟩ = ⟨(figs (l.take (k + 1))).toArray⟩) := by
        show _ = _
        rw [HT.out, HX.out.1, show (⟨#[32]⟩ : ByteArray) = ⟨[32].toArray⟩ from rfl, str_two, str_two, List.append_assoc]
        rfl
      have HBW : Hid (Below w.heap.size w wr) := HX.out.2
      clear HX HT hz hfk
      go_wp2_with fail
      refine (HD.out _).mono ?_
      rintro e w1 ⟨rfl, b1⟩
      have HF : Hid (X ++ ⟨#[32]⟩ ++ ⟨(Lib.decDigits z).toArray⟩ = ⟨(figs (l.take (k + 1))).toArray⟩ ∧ Below w.heap.size w w1) := ⟨HX2.out, HBW.out.trans (b1.mono HBW.out.size)⟩
      clear b1 HX2 HBW
      go_wp2_with fail
      go_roundw
      case rel => exact ⟨k + 1, _, by omega, by go_num, rfl, hX2, HF⟩
      case measure => simp [intOf]; omega
    · have hki : ¬ (k : Int) < (N : Int) := by omega
      have hkN : k = N := by omega
      have HE : Hid (X = ⟨(figs l).toArray⟩ ∧ Below w.heap.size w wr) := by
        have h := HX.out
        rw [List.take_of_length_le (by rw [HI.out.2.1, hkN]; exact Nat.le_refl _)] at h
        exact h
      clear HX
      go_wp2_with fail
      go_ret
      exact ⟨ret_str HE.out.1, HE.out.2⟩
end Go.Proofs.YtgfknlnpnnjkoaaDoor
