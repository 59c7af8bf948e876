/- Texts laid together: CoreTga, TgLow, TgSmall, TgDense, PixView, TgData, TgImpl, TgTop, TgSpecTop, EachReg, TgPutSpec, ExTgaPut. -/
import Derived.Test.YtcahppmnfoopkaaPicLaw
import Derived.Deep.RegionHeld3
import Derived.Test.YtcahppmnfoopkaaRtText
import Derived.Test.YtcahppmnfoopkaaBitRow
import Derived.Test.YtcahppmnfoopkaaAppOne
import Derived.Test.YtcahppmnfoopkaaBlankSpec
import Derived.Test.YtcahppmnfoopkaaImgOk3
import Derived.Test.YtcahppmnfoopkaaImgSpec3
import Derived.Test.YtcahppmnfoopkaaInWalks
import Derived.Laws.BitsAllLaws
import Derived.Deep.DeepCutAuto
import Derived.Test.YtcahppmnfoopkaaColSeen
import Derived.Test.YtcahppmnfoopkaaPlainView
import Derived.Test.YtcahppmnfoopkaaKFnExactTgaPut
import Derived.Deep.RegionHeld
import Derived.Test.YtcahppmnfoopkaaBase
import Derived.Deep.Cut
/- A law on a picture, a bool and a text: walked over the contracts of both (for TgaPut, BmpPut, PnmPut, GifPut). -/
namespace Go.Proofs.Ytcahppmnfoopkaa
open Go.RowKit

set_option linter.unusedSimpArgs false in
set_option maxHeartbeats 8000000 in
set_option maxRecDepth 20000 in
theorem exTgaPut_core (k d wd hi : Int) (ca : Option Addr) (cn cc : Nat) (pa : Option Addr) (pn pc : Nat) (bo : Bool) (T : ByteArray) (cs ps : List Int) (w : World) (hIc : Ints w ca cs) (hIp : Ints w pa ps) (hcn : cs.length = cn) (hpn : ps.length = pn) (hsum : cn + pn ≤ 1048576)
    (hSP : ∀ (x y : Option Addr) (w' : World), Ints w' x cs → Ints w' y ps → Calls Try.prog 6 #[.agg #[.int .i64 k, .int .i64 d, .int .i64 wd, .int .i64 hi, .slice x cn cn, .slice y pn pn], .bool bo] w' fun e w'' => e = .returned (.string T) ∧ Below w'.heap.size w' w'')
    (hIM : ∀ (x y : Option Addr) (w' : World), Ints w' x cs → Ints w' y ps → Calls Try.prog 8 #[.agg #[.int .i64 k, .int .i64 d, .int .i64 wd, .int .i64 hi, .slice x cn cn, .slice y pn pn], .bool bo] w' fun e w'' => e = .returned (.string T) ∧ Below w'.heap.size w' w'') :
    Calls Try.prog 3 #[.agg #[.int .i64 k, .int .i64 d, .int .i64 wd, .int .i64 hi, .slice ca cn cc, .slice pa pn pc], .bool bo] w fun e w' => e = .returned (.bool true) ∧ Below w.heap.size w w' := by
  have HSP : Hid (∀ (x y : Option Addr) (w' : World), Ints w' x cs → Ints w' y ps → Calls Try.prog 6 #[.agg #[.int .i64 k, .int .i64 d, .int .i64 wd, .int .i64 hi, .slice x cn cn, .slice y pn pn], .bool bo] w' fun e w'' => e = .returned (.string T) ∧ Below w'.heap.size w' w'') := hSP
  have HIM : Hid (∀ (x y : Option Addr) (w' : World), Ints w' x cs → Ints w' y ps → Calls Try.prog 8 #[.agg #[.int .i64 k, .int .i64 d, .int .i64 wd, .int .i64 hi, .slice x cn cn, .slice y pn pn], .bool bo] w' fun e w'' => e = .returned (.string T) ∧ Below w'.heap.size w' w'') := hIM
  have hB0 : Below w.heap.size w (w.alloc (.cells #[.int .i64 k, .int .i64 d, .int .i64 wd, .int .i64 hi, .slice ca cn cc, .slice pa pn pc] 24)) := (Below.refl _ _).alloc (Nat.le_refl _) _
  have HZ : Hid (Calls Try.prog 5 #[.agg #[.int .i64 k, .int .i64 d, .int .i64 wd, .int .i64 hi, .slice ca cn cc, .slice pa pn pc], .int .i64 1048576] (w.alloc (.cells #[.int .i64 k, .int .i64 d, .int .i64 wd, .int .i64 hi, .slice ca cn cc, .slice pa pn pc] 24)) fun e w' => e = .returned (.int .i64 (1048576 - (cn : Int) - (pn : Int))) ∧ Below (w.alloc (.cells #[.int .i64 k, .int .i64 d, .int .i64 wd, .int .i64 hi, .slice ca cn cc, .slice pa pn pc] 24)).heap.size (w.alloc (.cells #[.int .i64 k, .int .i64 d, .int .i64 wd, .int .i64 hi, .slice ca cn cc, .slice pa pn pc] 24)) w') := szImage_small k d wd hi ca cn cc pa pn pc _ hsum
  have HTO : Hid (∀ w', Ints w' ca cs → Ints w' pa ps → Calls Try.prog 7 #[.agg #[.int .i64 k, .int .i64 d, .int .i64 wd, .int .i64 hi, .slice ca cn cc, .slice pa pn pc]] w' fun e w'' => (∃ x y, e = .returned (.agg #[.int .i64 k, .int .i64 d, .int .i64 wd, .int .i64 hi, .slice x cn cn, .slice y pn pn]) ∧ Two w'' w'.heap.size w''.heap.size x cs y ps) ∧ Below w'.heap.size w' w'') := fun w' h1 h2 => toImage_two k d wd hi ca cn cc pa pn pc cs ps w' h1 hcn (by omega) h2 hpn (by omega)
  have HEQ0 : Hid (∀ (x y u v : Option Addr) (w' : World), Ints w' x cs → Ints w' y ps → Ints w' u cs → Ints w' v ps → Calls Try.prog 9 #[.agg #[.int .i64 k, .int .i64 d, .int .i64 wd, .int .i64 hi, .slice x cn cn, .slice y pn pn], .agg #[.int .i64 k, .int .i64 d, .int .i64 wd, .int .i64 hi, .slice u cn cn, .slice v pn pn]] w' fun e w'' => e = .returned (.bool true) ∧ Below w'.heap.size w' w'') := fun x y u v w' h1 h2 h3 h4 => eqImage_same k d wd hi x cn y pn u cn v pn cn pn cs ps w' h1 h2 h3 h4 hcn (by omega) hpn (by omega)
  have hd0 : decide (1048576 - (cn : Int) - (pn : Int) < 0) = false := by simp; omega
  have HIC : Hid (∀ w', Below w.heap.size w w' → Ints w' ca cs) := fun w' b => hIc.kept b
  have HIP : Hid (∀ w', Below w.heap.size w w' → Ints w' pa ps) := fun w' b => hIp.kept b
  clear hIc hIp hcn hpn hSP hIM hsum
  go_enter Try.func3, Try.ntmps3
  go_wp2_with fail
  refine HZ.out.mono ?_
  rintro e w1 ⟨rfl, b1⟩
  have A1 : Hid (Bx w1 w.heap.size (.int .i64 k) (.int .i64 d) (.int .i64 wd) (.int .i64 hi) (.slice ca cn cc) (.slice pa pn pc)) := (bx_new w _ _ _ _ _ _ 24).kept b1
  have bel1 : Below w.heap.size w w1 := hB0.trans (b1.mono hB0.size)
  obtain ⟨_, a0, a1, a2, a3, a4, a5⟩ := A1.out
  clear b1 HZ hB0
  go_wp2_with fail
  refine (HTO.out w1 (HIC.out _ bel1) (HIP.out _ bel1)).mono ?_
  rintro e w2 ⟨⟨x2, y2, rfl, T2⟩, b2⟩
  have A2 : Hid (Bx w2 w.heap.size (.int .i64 k) (.int .i64 d) (.int .i64 wd) (.int .i64 hi) (.slice ca cn cc) (.slice pa pn pc)) := A1.out.kept b2
  have bel2 : Below w.heap.size w w2 := bel1.trans (b2.mono bel1.size)
  have T2i : Hid (Ints w2 x2 cs ∧ Ints w2 y2 ps) := T2.ints
  clear b2 bel1 A1 T2 a0 a1 a2 a3 a4 a5
  go_wp2_with fail
  refine (HSP.out x2 y2 w2 T2i.out.1 T2i.out.2).mono ?_
  rintro e w3 ⟨rfl, b3⟩
  have A3 : Hid (Bx w3 w.heap.size (.int .i64 k) (.int .i64 d) (.int .i64 wd) (.int .i64 hi) (.slice ca cn cc) (.slice pa pn pc)) := A2.out.kept b3
  have bel3 : Below w.heap.size w w3 := bel2.trans (b3.mono bel2.size)
  obtain ⟨_, a0, a1, a2, a3, a4, a5⟩ := A3.out
  clear b3 bel2 A2 T2i HSP
  go_wp2_with fail
  refine (HTO.out w3 (HIC.out _ bel3) (HIP.out _ bel3)).mono ?_
  rintro e w5 ⟨⟨x5, y5, rfl, T5⟩, b5⟩
  have b6 : Below w5.heap.size w5 (w5.alloc (.cells #[.int .i64 k, .int .i64 d, .int .i64 wd, .int .i64 hi, .slice x5 cn cn, .slice y5 pn pn] 27)) := (Below.refl _ _).alloc (Nat.le_refl _) _
  have A6 : Hid (Bx (w5.alloc (.cells #[.int .i64 k, .int .i64 d, .int .i64 wd, .int .i64 hi, .slice x5 cn cn, .slice y5 pn pn] 27)) w.heap.size (.int .i64 k) (.int .i64 d) (.int .i64 wd) (.int .i64 hi) (.slice ca cn cc) (.slice pa pn pc)) := (A3.out.kept b5).kept b6
  have X6 : Hid (Bx (w5.alloc (.cells #[.int .i64 k, .int .i64 d, .int .i64 wd, .int .i64 hi, .slice x5 cn cn, .slice y5 pn pn] 27)) w5.heap.size (.int .i64 k) (.int .i64 d) (.int .i64 wd) (.int .i64 hi) (.slice x5 cn cn) (.slice y5 pn pn)) := bx_new w5 _ _ _ _ _ _ 27
  have I6 : Hid (Ints (w5.alloc (.cells #[.int .i64 k, .int .i64 d, .int .i64 wd, .int .i64 hi, .slice x5 cn cn, .slice y5 pn pn] 27)) x5 cs ∧ Ints (w5.alloc (.cells #[.int .i64 k, .int .i64 d, .int .i64 wd, .int .i64 hi, .slice x5 cn cn, .slice y5 pn pn] 27)) y5 ps) := ⟨T5.ints.1.kept b6, T5.ints.2.kept b6⟩
  have bel5 : Below w.heap.size w w5 := bel3.trans (b5.mono bel3.size)
  have bel6 : Hid (Below w.heap.size w (w5.alloc (.cells #[.int .i64 k, .int .i64 d, .int .i64 wd, .int .i64 hi, .slice x5 cn cn, .slice y5 pn pn] 27))) := bel5.trans (b6.mono bel5.size)
  clear b5 b6 bel3 bel5 A3 T5 a0 a1 a2 a3 a4 a5
  go_wp2_with fail
  refine (HIM.out x5 y5 _ I6.out.1 I6.out.2).mono ?_
  rintro e w7 ⟨rfl, b7⟩
  have A7 : Hid (Bx w7 w.heap.size (.int .i64 k) (.int .i64 d) (.int .i64 wd) (.int .i64 hi) (.slice ca cn cc) (.slice pa pn pc)) := A6.out.kept b7
  have X7 : Hid (Bx w7 w5.heap.size (.int .i64 k) (.int .i64 d) (.int .i64 wd) (.int .i64 hi) (.slice x5 cn cn) (.slice y5 pn pn)) := X6.out.kept b7
  have I7 : Hid (Ints w7 x5 cs ∧ Ints w7 y5 ps) := ⟨I6.out.1.kept b7, I6.out.2.kept b7⟩
  have bel7 : Hid (Below w.heap.size w w7) := bel6.out.trans (b7.mono bel6.out.size)
  clear b7 A6 X6 I6 bel6 HIM
  generalize w5.heap.size = XB at *
  obtain ⟨_, a0, a1, a2, a3, a4, a5⟩ := A7.out
  obtain ⟨_, x0, x1, x2', x3, x4, x5'⟩ := X7.out
  go_wp2_with fail
  refine wp_region_held_drew (S := fun w' => w'.cell? ⟨w.heap.size, 0, none⟩ = some (.int .i64 k) ∧ w'.cell? ⟨w.heap.size, 1, none⟩ = some (.int .i64 d) ∧ w'.cell? ⟨w.heap.size, 2, none⟩ = some (.int .i64 wd) ∧ w'.cell? ⟨w.heap.size, 3, none⟩ = some (.int .i64 hi) ∧ w'.cell? ⟨w.heap.size, 4, none⟩ = some (.slice ca cn cc) ∧ w'.cell? ⟨w.heap.size, 5, none⟩ = some (.slice pa pn pc) ∧ w'.cell? ⟨XB, 0, none⟩ = some (.int .i64 k) ∧ w'.cell? ⟨XB, 1, none⟩ = some (.int .i64 d) ∧ w'.cell? ⟨XB, 2, none⟩ = some (.int .i64 wd) ∧ w'.cell? ⟨XB, 3, none⟩ = some (.int .i64 hi) ∧ w'.cell? ⟨XB, 4, none⟩ = some (.slice x5 cn cn) ∧ w'.cell? ⟨XB, 5, none⟩ = some (.slice y5 pn pn)) (by kernel_rfl) ⟨a0, a1, a2, a3, a4, a5, x0, x1, x2', x3, x4, x5'⟩ (fun hHeld => ?_)
  refine wpAnyH_take (i := 0) (v := .agg #[.int .i64 k, .int .i64 d, .int .i64 wd, .int .i64 hi, .slice x5 cn cn, .slice y5 pn pn]) rfl (by kernel_rfl) (by kernel_rfl) (by kernel_rfl) (fun _ _ _ h => h) (Or.inl ⟨by rfl, ?_⟩) hHeld ?_
  · intro w' hSw
    obtain ⟨s0, s1, s2, s3, s4, s5, s6, s7, s8, s9, s10, s11⟩ := hSw
    go_simp
  try simp only [List.getElem_toArray, List.getElem_cons_succ, List.getElem_cons_zero, Act.put, List.setIfInBounds_toArray, List.set_cons_zero, List.set_cons_succ]
  refine wpAnyH_take (i := 1) (v := .agg #[.int .i64 k, .int .i64 d, .int .i64 wd, .int .i64 hi, .slice ca cn cc, .slice pa pn pc]) rfl (by kernel_rfl) (by kernel_rfl) (by kernel_rfl) (fun _ _ _ h => h) (Or.inl ⟨by rfl, ?_⟩) hHeld ?_
  · intro w' hSw
    obtain ⟨s0, s1, s2, s3, s4, s5, s6, s7, s8, s9, s10, s11⟩ := hSw
    go_simp
  try simp only [List.getElem_toArray, List.getElem_cons_succ, List.getElem_cons_zero, Act.put, List.setIfInBounds_toArray, List.set_cons_zero, List.set_cons_succ]
  refine wpAnyH_ready (rs := [2]) (by kernel_rfl) (by simp) ?_
  refine AllReadyH.cons rfl (fun K hK => ?_) AllReadyH.nil
  go_simp
  refine (HTO.out w7.drew (HIC.out _ bel7.out.drew) (HIP.out _ bel7.out.drew)).mono ?_
  rintro e w8 ⟨⟨x8, y8, rfl, T8⟩, b8'⟩
  have b8 := box_drew b8'
  have A8 : Hid (Bx w8 w.heap.size (.int .i64 k) (.int .i64 d) (.int .i64 wd) (.int .i64 hi) (.slice ca cn cc) (.slice pa pn pc)) := A7.out.kept b8
  have X8 : Hid (Bx w8 XB (.int .i64 k) (.int .i64 d) (.int .i64 wd) (.int .i64 hi) (.slice x5 cn cn) (.slice y5 pn pn)) := X7.out.kept b8
  have I8 : Hid (Ints w8 x5 cs ∧ Ints w8 y5 ps ∧ Ints w8 x8 cs ∧ Ints w8 y8 ps) := ⟨I7.out.1.kept b8, I7.out.2.kept b8, T8.ints.1, T8.ints.2⟩
  have bel8 : Hid (Below w.heap.size w w8) := bel7.out.trans (b8.mono bel7.out.size)
  obtain ⟨_, c0, c1, c2, c3, c4, c5⟩ := A8.out
  obtain ⟨_, d0, d1, d2, d3, d4, d5⟩ := X8.out
  clear b8 b8' T8
  refine hK.out _ _ ⟨c0, c1, c2, c3, c4, c5, d0, d1, d2, d3, d4, d5⟩ (fun hHeld => ?_)
  clear hK K
  try simp only [List.getElem_toArray, List.getElem_cons_succ, List.getElem_cons_zero, Act.put, List.setIfInBounds_toArray, List.set_cons_zero, List.set_cons_succ]
  refine wpAnyH_ready (rs := [3]) (by kernel_rfl) (by simp) ?_
  refine AllReadyH.cons rfl (fun K hK => ?_) AllReadyH.nil
  go_simp
  refine (HEQ0.out x5 y5 x8 y8 _ I8.out.1 I8.out.2.1 I8.out.2.2.1 I8.out.2.2.2).mono ?_
  rintro e w9 ⟨rfl, b9⟩
  have A9 : Hid (Bx w9 w.heap.size (.int .i64 k) (.int .i64 d) (.int .i64 wd) (.int .i64 hi) (.slice ca cn cc) (.slice pa pn pc)) := A8.out.kept b9
  have X9 : Hid (Bx w9 XB (.int .i64 k) (.int .i64 d) (.int .i64 wd) (.int .i64 hi) (.slice x5 cn cn) (.slice y5 pn pn)) := X8.out.kept b9
  have bel9 : Hid (Below w.heap.size w w9) := bel8.out.trans (b9.mono bel8.out.size)
  obtain ⟨_, e0, e1, e2, e3, e4, e5⟩ := A9.out
  obtain ⟨_, f0, f1, f2, f3, f4, f5⟩ := X9.out
  clear b9
  refine hK.out _ _ ⟨e0, e1, e2, e3, e4, e5, f0, f1, f2, f3, f4, f5⟩ (fun hHeld => ?_)
  clear hK K
  try simp only [List.getElem_toArray, List.getElem_cons_succ, List.getElem_cons_zero, Act.put, List.setIfInBounds_toArray, List.set_cons_zero, List.set_cons_succ]
  refine wpAnyH_take (i := 4) (v := .bool false) rfl (by kernel_rfl) (by kernel_rfl) (by kernel_rfl) (fun _ _ _ h => h) (Or.inl ⟨by rfl, ?_⟩) hHeld ?_
  · intro w' hSw
    obtain ⟨s0, s1, s2, s3, s4, s5, s6, s7, s8, s9, s10, s11⟩ := hSw
    go_simp
  try simp only [List.getElem_toArray, List.getElem_cons_succ, List.getElem_cons_zero, Act.put, List.setIfInBounds_toArray, List.set_cons_zero, List.set_cons_succ]
  refine wpAnyH_done (by kernel_rfl) ?_ _
  try simp only [List.getElem_toArray, List.getElem_cons_succ, List.getElem_cons_zero, Act.put, List.setIfInBounds_toArray, List.set_cons_zero, List.set_cons_succ]
  clear hHeld
  go_wp2_with fail
  go_ret
  exact ⟨rfl, bel9.out⟩
end Go.Proofs.Ytcahppmnfoopkaa

/- Numbers of a head, one behind the other, and lists of numbers as text: low parts of TGA and BMP, of both. -/
namespace Go.Proofs.Ytcahppmnfoopkaa
open Go.RowKit

/-- numbers, each in so many bytes, the lowest first -/
def Tg.txt (l : List (Int × Int)) : List UInt8 := l.flatMap fun z => Pt.low z.1.toNat z.2.toNat
theorem Tg.txt_snoc (l : List (Int × Int)) (z : Int × Int) : Tg.txt (l ++ [z]) = Tg.txt l ++ Pt.low z.1.toNat z.2.toNat := by simp [Tg.txt]
/-- each fits into its bytes -/
def Tg.Fit (l : List (Int × Int)) : Prop := ∀ z ∈ l, 0 ≤ z.1 ∧ 1 ≤ z.2 ∧ z.2 ≤ 4 ∧ z.1 < ((256 ^ z.2.toNat : Nat) : Int)

set_option maxHeartbeats 1000000 in
theorem numberText_nil (a : Option Addr) (cap S : Nat) (w : World) :
    Calls Try.prog 22 #[.slice a 0 cap, .int .i64 (S : Int), .bool false] w fun e w' => e = .returned (.string ⟨#[]⟩) ∧ Below w.heap.size w w' := by
  go_enter Try.func22, Try.ntmps22
  go_wp2_with fail
  have htx := (ownT_nil w w.heap.size).text
  go_loop [7, 12] (fun v i => v = .slice none 0 0 ∧ i = .int .i64 0) (fun _ _ => 0)
  case atStart => exact ⟨rfl, rfl⟩
  case round =>
    obtain ⟨rfl, rfl⟩ := hrel
    go_wp2_with fail
    go_ret
    exact ⟨rfl, Below.refl _ _⟩
theorem numberText_ints (a : Option Addr) (n cap S : Nat) (l : List Int) (w : World) (hl : Ints w a l) (hn : l.length = n) (hnb : n ≤ 1000) (hS1 : 1 ≤ S) (hS : S ≤ 4) (hf : Rt.fit S l = true) :
    Calls Try.prog 22 #[.slice a n cap, .int .i64 (S : Int), .bool false] w fun e w' => e = .returned (.string ⟨(Rt.txt S l).toArray⟩) ∧ Below w.heap.size w w' := by
  rcases hl with rfl | ⟨b, off, rfl, hb, hc⟩
  · subst hn
    exact numberText_nil a cap S w
  · exact numberText_any b off cap n S l w ⟨hb, hc⟩ hn hnb hS1 hS hf

set_option maxHeartbeats 1000000 in
theorem l11Colors_any (a : Option Addr) (n cap S : Nat) (l : List Int) (w : World) (hl : Ints w a l) (hn : l.length = n) (hnb : n ≤ 1000) (hS : S ≤ 4) (hf : Rt.fit S l = true) :
    Calls Try.prog 35 #[.slice a n cap, .int .i64 (S : Int)] w fun e w' => e = .returned (.string ⟨(Rt.txt S l).toArray⟩) ∧ Below w.heap.size w w' := by
  have HI : Hid (Ints w a l) := hl
  have HN : Hid (l.length = n) := hn
  have HF : Hid (Rt.fit S l = true) := hf
  clear hl hn hf
  go_enter Try.func35, Try.ntmps35
  go_wp2_with fail
  go_loopw [5, 6] (fun o i wr => ∃ (k : Nat) (q : List UInt8), k ≤ n ∧ i = .int .i64 (k : Int) ∧ Hid (q = Rt.txt S (l.take k)) ∧ q.length ≤ 4 * k ∧ o = .string ⟨q.toArray⟩ ∧ Below w.heap.size w wr) (fun _ i _ => n - (intOf i).toNat)
  case atStart => exact ⟨0, [], Nat.zero_le _, rfl, rfl, by simp, rfl, Below.refl _ _⟩
  case round =>
    obtain ⟨k, q, hk, rfl, HQ, hql, rfl, hbel⟩ := hrel
    have hbs := hbel.size
    by_cases hlt : k < n
    · have hkl : k < l.length := by rw [HN.out]; exact hlt
      rcases HI.out with e | ⟨b, off, rfl, hb, hc⟩
      · rw [e] at hkl; simp at hkl
      · have hcx := (hbel.cell (p := ⟨b, off + k, none⟩) hb).trans (hc k hkl)
        obtain ⟨hz0, hz1⟩ := Rt.fit_at HF.out k hkl
        have HT : Hid (Rt.txt S (l.take (k + 1)) = Rt.txt S (l.take k) ++ Pt.low (l[k]).toNat S) := by
          show _ = _
          rw [List.take_succ_eq_append_getElem hkl, Rt.txt_snoc]
        generalize l[k] = z at *
        obtain ⟨N, rfl⟩ := Int.eq_ofNat_of_zero_le hz0
        rw [Int.toNat_natCast] at HT
        have hN : N ≤ 4294967295 := by have := pow_le4 hS; omega
        have HC : Hid (∀ w : World, Calls Try.prog 34 #[.int .i64 (N : Int), .int .i64 (S : Int), .bool false] w fun e w' => e = .returned (.string ⟨(Pt.low N S).toArray⟩) ∧ Below w.heap.size w w') := fun w => l1Num_low N S w hN hS
        have HP : Hid ((Pt.low N S).length = S) := Pt.low_len S N
        have hi1 : (k : Int) < (n : Int) := by omega
        generalize Pt.low N S = p at *
        have hpl : p.length ≤ 4 := by have := HP.out; omega
        have HS2 : Hid (ByteArray.mk q.toArray ++ ByteArray.mk p.toArray = ByteArray.mk (q ++ p).toArray) := ByteArray.mk_append_mk q p
        have hsz : (ByteArray.mk q.toArray).size = q.length := by simp [ByteArray.size]
        have hsp : (ByteArray.mk p.toArray).size = p.length := by simp [ByteArray.size]
        clear hz0 hz1 hc
        go_wp2_with fail
        refine (HC.out _).mono ?_
        rintro e w1 ⟨rfl, b1⟩
        have HB : Hid (Below w.heap.size w w1) := hbel.trans (b1.mono hbs)
        clear HC b1 hbel hbs hcx
        go_wp2_with fail
        go_roundw
        case rel => exact ⟨k + 1, q ++ p, by omega, by go_num, by show _ = _; rw [HT.out, HQ.out], by rw [List.length_append]; omega, by rw [HS2.out], HB.out⟩
        case measure => simp [intOf]; omega
    · have HE : Hid (q = Rt.txt S l) := by
        show _ = _
        rw [HQ.out, List.take_of_length_le (by rw [HN.out]; omega)]
      have hi1 : ¬ (k : Int) < (n : Int) := by omega
      clear HQ
      go_wp2_with fail
      go_ret
      exact ⟨by rw [← HE.out]; rfl, hbel⟩

set_option maxHeartbeats 1000000 in
theorem fieldText_any (b off cap n : Nat) (l : List (Int × Int)) (w : World) (hl : Bits2 w (some ⟨b, off, none⟩) l) (hn : l.length = n) (hnb : n ≤ 100) (hf : Tg.Fit l) :
    Calls Try.prog 20 #[.slice (some ⟨b, off, none⟩) n cap] w fun e w' => e = .returned (.string ⟨(Tg.txt l).toArray⟩) ∧ Below w.heap.size w w' := by
  have HL : Hid (Bits2 w (some ⟨b, off, none⟩) l) := hl
  have HN : Hid (l.length = n) := hn
  have HF : Hid (Tg.Fit l) := hf
  clear hl hn hf
  go_enter Try.func20, Try.ntmps20
  go_wp2_with fail
  go_loopw [3, 8] (fun v i wr => ∃ (k m : Nat) (q : List UInt8), k ≤ n ∧ i = .int .i64 (k : Int) ∧ Hid (q = Tg.txt (l.take k)) ∧ m ≤ 4 * k ∧ OwnT wr w.heap.size v m q ∧ Below w.heap.size w wr) (fun _ i _ => n - (intOf i).toNat)
  case atStart => exact ⟨0, 0, [], Nat.zero_le _, rfl, rfl, Nat.zero_le _, ownT_nil _ _, Below.refl _ _⟩
  case round =>
    obtain ⟨k, m, q, hk, rfl, HQ, hm, hown, hbel⟩ := hrel
    have hbs := hbel.size
    by_cases hlt : k < n
    · have hkl : k < l.length := by rw [HN.out]; exact hlt
      obtain ⟨b', off', e, hb, c1, c2⟩ := HL.out.at hkl
      cases e
      have hc1 := (hbel.cell (p := ⟨b, off + k * 2, none⟩) hb).trans c1
      have hc2 := (hbel.cell (p := ⟨b, off + k * 2 + 1, none⟩) hb).trans c2
      obtain ⟨hz0, hz1, hz2, hz3⟩ := HF.out l[k] (List.getElem_mem hkl)
      have HT : Hid (Tg.txt (l.take (k + 1)) = Tg.txt (l.take k) ++ Pt.low (l[k]).1.toNat (l[k]).2.toNat) := by
        show _ = _
        rw [List.take_succ_eq_append_getElem hkl, Tg.txt_snoc]
      generalize l[k] = z at *
      obtain ⟨z1, z2⟩ := z
      simp only at hz0 hz1 hz2 hz3 hc1 hc2 HT
      obtain ⟨N, rfl⟩ := Int.eq_ofNat_of_zero_le hz0
      obtain ⟨S, rfl⟩ := Int.eq_ofNat_of_zero_le (show 0 ≤ z2 by omega)
      rw [Int.toNat_natCast, Int.toNat_natCast] at HT
      rw [Int.toNat_natCast] at hz3
      have HC : Hid (∀ w : World, Calls Try.prog 39 #[.int .i64 (N : Int), .int .i64 (S : Int), .bool false] w fun e w' => e = .returned (.string ⟨(Pt.low N S).toArray⟩) ∧ Below w.heap.size w w') := fun w => impl_numPut_low N S w (by omega) (by omega) (by omega)
      have HP : Hid ((Pt.low N S).length = S) := Pt.low_len S N
      have hS4 : S ≤ 4 := by omega
      generalize Pt.low N S = p at *
      clear hz0 hz1 hz2 hz3 c1 c2
      have hmb : m ≤ 400 := by omega
      have bA : Below wr.heap.size wr (wr.alloc (.cells #[.int .i64 (N : Int), .int .i64 (S : Int)] 40)) := (Below.refl _ _).alloc (Nat.le_refl _) _
      go_wp2_with fail
      refine (HC.out _).mono ?_
      rintro e w1 ⟨rfl, b1⟩
      clear HC
      have b01 : Below wr.heap.size wr w1 := bA.trans (b1.mono bA.size)
      have hown1 := hown.kept b01
      have hbel1 : Below w.heap.size w w1 := hbel.trans (b01.mono hbs)
      have hbs1 := hbel1.size
      clear hown hbel b1 bA b01
      go_wp2_with (at_builtin; refine wpList_appTs w1 (by rfl) _ _ (by rfl) w.heap.size _ m q p (by rfl) hown1 (by rfl) (by have := HP.out; omega) hbs1 ?_)
      intro v5 w5 hown5 hstep
      have HO : Hid (OwnT w5 w.heap.size v5 (m + p.length) (q ++ p) ∧ Below w.heap.size w w5) := ⟨hown5, hstep _ _ hbel1 (Nat.le_refl _) hbs1⟩
      clear hown1 hown5 hstep hbel1 hbs1 hc1 hc2
      go_wp2_with fail
      go_roundw
      case rel => exact ⟨k + 1, m + p.length, q ++ p, by omega, by go_num, by show _ = _; rw [HT.out, HQ.out], by have := HP.out; omega, HO.out.1, HO.out.2⟩
      case measure => simp [intOf]; omega
    · have hkn : k = n := by omega
      have HE : Hid (q = Tg.txt l) := by
        show _ = _
        rw [HQ.out, List.take_of_length_le (by rw [HN.out]; omega)]
      have htx := hown.text
      clear HQ HL
      go_wp2_with fail
      go_ret
      exact ⟨by rw [← HE.out]; rfl, hbel⟩
end Go.Proofs.Ytcahppmnfoopkaa

/- How a TGA tells a kind: low parts of both. -/
namespace Go.Proofs.Ytcahppmnfoopkaa
open Go.RowKit

/-- the number of a kind in a TGA -/
def Tg.sort (k d : Int) : Int := if k = 4 ∧ d = 8 then 1 else if k = 2 ∨ k = 3 then 2 else if k = 1 ∧ d = 8 then 3 else 0
theorem Tg.sort_bd (k d : Int) : 0 ≤ Tg.sort k d ∧ Tg.sort k d ≤ 3 := by unfold Tg.sort; repeat' split <;> omega
/-- the last byte of a head -/
def Tg.last (k : Int) : Int := if k = 3 then 40 else 32
/-- a point as a TGA has it -/
def Tg.pt (k p : Int) : Int := if k = 3 then p / 256 + p % 256 * 16777216 else p

set_option maxHeartbeats 1000000 in
theorem tgaSort_any (k d : Int) (w : World) :
    Calls Try.prog 18 #[.int .i64 k, .int .i64 d] w fun e w' => e = .returned (.int .i64 (Tg.sort k d)) ∧ w' = w := by
  by_cases h4 : k = 4
  · subst h4
    by_cases h8 : d = 8
    · subst h8
      have HV : Hid (Tg.sort 4 8 = 1) := rfl
      go_enter Try.func18, Try.ntmps18
      go_wp2_with fail
      go_ret
      exact ⟨ret_int (by rw [HV.out]), rfl⟩
    · have f1 : (d == 8) = false := by rw [beq_eq_false_iff_ne]; exact h8
      have f2 : decide (d = 8) = false := by simpa using h8
      have HV : Hid (Tg.sort 4 d = 0) := by show _ = _; unfold Tg.sort; simp [h8]
      go_enter Try.func18, Try.ntmps18
      go_wp2_with fail
      go_ret
      exact ⟨ret_int (by rw [HV.out]), rfl⟩
  · by_cases h2 : k = 2
    · subst h2
      have HV : Hid (Tg.sort 2 d = 2) := by show _ = _; unfold Tg.sort; simp
      go_enter Try.func18, Try.ntmps18
      go_wp2_with fail
      go_ret
      exact ⟨ret_int (by rw [HV.out]), rfl⟩
    · by_cases h3 : k = 3
      · subst h3
        have HV : Hid (Tg.sort 3 d = 2) := by show _ = _; unfold Tg.sort; simp
        go_enter Try.func18, Try.ntmps18
        go_wp2_with fail
        go_ret
        exact ⟨ret_int (by rw [HV.out]), rfl⟩
      · by_cases h1 : k = 1
        · subst h1
          by_cases h8 : d = 8
          · subst h8
            have HV : Hid (Tg.sort 1 8 = 3) := rfl
            go_enter Try.func18, Try.ntmps18
            go_wp2_with fail
            go_ret
            exact ⟨ret_int (by rw [HV.out]), rfl⟩
          · have f1 : (d == 8) = false := by rw [beq_eq_false_iff_ne]; exact h8
            have f2 : decide (d = 8) = false := by simpa using h8
            have HV : Hid (Tg.sort 1 d = 0) := by show _ = _; unfold Tg.sort; simp [h8]
            go_enter Try.func18, Try.ntmps18
            go_wp2_with fail
            go_ret
            exact ⟨ret_int (by rw [HV.out]), rfl⟩
        · have g1 : (k == 4) = false := by rw [beq_eq_false_iff_ne]; exact h4
          have g2 : (k == 2) = false := by rw [beq_eq_false_iff_ne]; exact h2
          have g3 : (k == 3) = false := by rw [beq_eq_false_iff_ne]; exact h3
          have g4 : (k == 1) = false := by rw [beq_eq_false_iff_ne]; exact h1
          have HV : Hid (Tg.sort k d = 0) := by show _ = _; unfold Tg.sort; simp [h1, h2, h3, h4]
          go_enter Try.func18, Try.ntmps18
          go_wp2_with fail
          go_ret
          exact ⟨ret_int (by rw [HV.out]), rfl⟩
set_option maxHeartbeats 1000000 in
theorem l11Tga_any (k d wd hi : Int) (ca : Option Addr) (cn cc : Nat) (pa : Option Addr) (pn pc : Nat) (w : World) :
    Calls Try.prog 14 #[.agg #[.int .i64 k, .int .i64 d, .int .i64 wd, .int .i64 hi, .slice ca cn cc, .slice pa pn pc]] w fun e w' => e = .returned (.int .i64 (Tg.sort k d)) ∧ Below w.heap.size w w' := by
  by_cases h4 : k = 4
  · subst h4
    by_cases h8 : d = 8
    · subst h8
      have HV : Hid (Tg.sort 4 8 = 1) := rfl
      go_enter Try.func14, Try.ntmps14
      go_wp2_with fail
      go_ret
      exact ⟨ret_int (by rw [HV.out]), (Below.refl _ _).alloc (Nat.le_refl _) _⟩
    · have f1 : (d == 8) = false := by rw [beq_eq_false_iff_ne]; exact h8
      have f2 : decide (d = 8) = false := by simpa using h8
      have HV : Hid (Tg.sort 4 d = 0) := by show _ = _; unfold Tg.sort; simp [h8]
      go_enter Try.func14, Try.ntmps14
      go_wp2_with fail
      go_ret
      exact ⟨ret_int (by rw [HV.out]), (Below.refl _ _).alloc (Nat.le_refl _) _⟩
  · by_cases h2 : k = 2
    · subst h2
      have HV : Hid (Tg.sort 2 d = 2) := by show _ = _; unfold Tg.sort; simp
      go_enter Try.func14, Try.ntmps14
      go_wp2_with fail
      go_ret
      exact ⟨ret_int (by rw [HV.out]), (Below.refl _ _).alloc (Nat.le_refl _) _⟩
    · by_cases h3 : k = 3
      · subst h3
        have HV : Hid (Tg.sort 3 d = 2) := by show _ = _; unfold Tg.sort; simp
        go_enter Try.func14, Try.ntmps14
        go_wp2_with fail
        go_ret
        exact ⟨ret_int (by rw [HV.out]), (Below.refl _ _).alloc (Nat.le_refl _) _⟩
      · by_cases h1 : k = 1
        · subst h1
          by_cases h8 : d = 8
          · subst h8
            have HV : Hid (Tg.sort 1 8 = 3) := rfl
            go_enter Try.func14, Try.ntmps14
            go_wp2_with fail
            go_ret
            exact ⟨ret_int (by rw [HV.out]), (Below.refl _ _).alloc (Nat.le_refl _) _⟩
          · have f1 : (d == 8) = false := by rw [beq_eq_false_iff_ne]; exact h8
            have f2 : decide (d = 8) = false := by simpa using h8
            have HV : Hid (Tg.sort 1 d = 0) := by show _ = _; unfold Tg.sort; simp [h8]
            go_enter Try.func14, Try.ntmps14
            go_wp2_with fail
            go_ret
            exact ⟨ret_int (by rw [HV.out]), (Below.refl _ _).alloc (Nat.le_refl _) _⟩
        · have g1 : (k == 4) = false := by rw [beq_eq_false_iff_ne]; exact h4
          have g2 : (k == 2) = false := by rw [beq_eq_false_iff_ne]; exact h2
          have g3 : (k == 3) = false := by rw [beq_eq_false_iff_ne]; exact h3
          have g4 : (k == 1) = false := by rw [beq_eq_false_iff_ne]; exact h1
          have HV : Hid (Tg.sort k d = 0) := by show _ = _; unfold Tg.sort; simp [h1, h2, h3, h4]
          go_enter Try.func14, Try.ntmps14
          go_wp2_with fail
          go_ret
          exact ⟨ret_int (by rw [HV.out]), (Below.refl _ _).alloc (Nat.le_refl _) _⟩

set_option maxHeartbeats 400000 in
theorem l9Flag_any (f : Bool) (w : World) : Calls Try.prog 33 #[.bool f] w fun e w' => e = .returned (.int .i64 (if f then 1 else 0)) ∧ w' = w := by
  cases f with
  | false =>
    go_enter Try.func33, Try.ntmps33
    go_wp2_with fail
    go_ret
    exact ⟨rfl, rfl⟩
  | true =>
    go_enter Try.func33, Try.ntmps33
    go_wp2_with fail
    go_ret
    exact ⟨rfl, rfl⟩

set_option maxHeartbeats 400000 in
theorem tgaLast_any (k : Int) (w : World) : Calls Try.prog 21 #[.int .i64 k] w fun e w' => e = .returned (.int .i64 (Tg.last k)) ∧ w' = w := by
  by_cases h : k = 3
  · subst h
    go_enter Try.func21, Try.ntmps21
    go_wp2_with fail
    go_ret
    exact ⟨rfl, rfl⟩
  · have HV : Hid (Tg.last k = 32) := by show _ = _; unfold Tg.last; rw [if_neg h]
    have g1 : (k == 3) = false := by rw [beq_eq_false_iff_ne]; exact h
    go_enter Try.func21, Try.ntmps21
    go_wp2_with fail
    go_ret
    exact ⟨ret_int (by rw [HV.out]), rfl⟩

set_option maxHeartbeats 400000 in
theorem tgaList_any (k : Int) (w : World) : Calls Try.prog 19 #[.int .i64 k] w fun e w' => e = .returned (.tuple #[.int .i64 (if k = 4 then 1 else 0), .int .i64 (if k = 4 then 24 else 0)]) ∧ w' = w := by
  by_cases h : k = 4
  · subst h
    go_enter Try.func19, Try.ntmps19
    go_wp2_with fail
    go_ret2
    exact ⟨rfl, rfl⟩
  · rw [if_neg h, if_neg h]
    have g1 : (k == 4) = false := by rw [beq_eq_false_iff_ne]; exact h
    go_enter Try.func19, Try.ntmps19
    go_wp2_with fail
    go_ret2
    exact ⟨rfl, rfl⟩

theorem or_split (A B : Nat) (hB : B < 16777216) : A * 16777216 ||| B = A * 16777216 + B := by
  have h := Nat.two_pow_add_eq_or_of_lt (i := 24) (b := B) (by simpa using hB) A
  have e : (2 : Nat) ^ 24 = 16777216 := by decide
  rw [e, Nat.mul_comm] at h
  exact h.symm

set_option maxHeartbeats 1000000 in
theorem tgaPoint_any (p : Nat) (w : World) (hp : p ≤ 4294967295) : Calls Try.prog 40 #[.int .i64 (p : Int)] w fun e w' => e = .returned (.int .i64 ((p : Int) / 256 + (p : Int) % 256 * 16777216)) ∧ w' = w := by
  obtain ⟨A, hA⟩ : ∃ A, A = p % 256 := ⟨_, rfl⟩
  obtain ⟨B, hB⟩ : ∃ B, B = p / 256 := ⟨_, rfl⟩
  have e1 : (p : Int) % 256 = (A : Int) := by omega
  have e2 : (p : Int) / 256 = (B : Int) := by omega
  rw [e1, e2]
  have hAb : A < 256 := by omega
  have hBb : B < 16777216 := by omega
  have t1 : (p : Int).tmod 256 = (A : Int) := by rw [Int.tmod_eq_emod_of_nonneg (by omega)]; exact e1
  clear hA hB
  go_enter Try.func40, Try.ntmps40
  go_wp2_with fail
  go_ret
  refine ⟨ret_int ?_, rfl⟩
  have e3 : (A : Int) * 16777216 = ((A * 16777216 : Nat) : Int) := by omega
  rw [e3, i64_or_nat _ _ (by omega) (by omega), or_split A B hBb]
  omega
end Go.Proofs.Ytcahppmnfoopkaa

/- All points as a TGA has them: l11Dense of the specification. -/
namespace Go.Proofs.Ytcahppmnfoopkaa
open Go.RowKit

/-- points as a TGA has them -/
def Tg.pts (k : Int) (ps : List Int) : List Int := ps.map (Tg.pt k)
theorem Tg.pts_len (k : Int) (ps : List Int) : (Tg.pts k ps).length = ps.length := by simp [Tg.pts]

set_option maxHeartbeats 2000000 in
set_option maxRecDepth 20000 in
theorem l11Dense_any (k d wd hi : Int) (ca : Option Addr) (cn cc : Nat) (pa : Option Addr) (pn pc : Nat) (ps : List Int) (w : World) (hp : Ints w pa ps) (hpn : ps.length = pn) (hpl : pn ≤ 1000) (hb : ∀ v ∈ ps, 0 ≤ v ∧ v ≤ 4294967295) :
    Calls Try.prog 37 #[.agg #[.int .i64 k, .int .i64 d, .int .i64 wd, .int .i64 hi, .slice ca cn cc, .slice pa pn pc]] w fun e w' => (∃ y cy, e = .returned (.slice y pn cy) ∧ Owns w' w.heap.size y (Tg.pts k ps)) ∧ Below w.heap.size w w' := by
  have HI : Hid (Ints w pa ps) := hp
  have HN : Hid (ps.length = pn ∧ ∀ v ∈ ps, 0 ≤ v ∧ v ≤ 4294967295) := ⟨hpn, hb⟩
  clear hp hpn hb
  obtain ⟨W0, hW0⟩ : ∃ W0, W0 = w.alloc (.cells #[.int .i64 k, .int .i64 d, .int .i64 wd, .int .i64 hi, .slice ca cn cc, .slice pa pn pc] 27) := ⟨_, rfl⟩
  have bW : Below w.heap.size w W0 := by rw [hW0]; exact (Below.refl _ _).alloc (Nat.le_refl _) _
  have HBX : Hid (Bx W0 w.heap.size (.int .i64 k) (.int .i64 d) (.int .i64 wd) (.int .i64 hi) (.slice ca cn cc) (.slice pa pn pc)) := by rw [hW0]; exact bx_new w _ _ _ _ _ _ 27
  have hs0 : w.heap.size + 1 ≤ W0.heap.size := HBX.out.1
  go_enter Try.func37, Try.ntmps37
  go_upto_region 1 with fail
  rw [← hW0]
  clear hW0
  go_wp2_with fail
  have HO0 : Hid (OwnI (W0.alloc (.cells #[] 3)) W0.heap.size (.slice (some ⟨W0.heap.size, 0, none⟩) 0 0) 0 []) := World.ownsRow_lit W0 #[] 0 (Nat.le_refl _) (by decide) rfl
  have HB0 : Hid (Below W0.heap.size W0 (W0.alloc (.cells #[] 3))) := (Below.refl _ _).alloc (Nat.le_refl _) _
  go_loopw [3, 4] (fun v i wr => ∃ j : Nat, j ≤ pn ∧ i = .int .i64 (j : Int) ∧ OwnI wr W0.heap.size v j (Tg.pts k (ps.take j)) ∧ Below W0.heap.size W0 wr) (fun _ i _ => pn - (intOf i).toNat)
  case atStart => exact ⟨0, Nat.zero_le _, rfl, HO0.out, HB0.out⟩
  case round =>
    obtain ⟨j, hj, rfl, hown, hbel⟩ := hrel
    have HBr : Hid (Below W0.heap.size W0 wr) := hbel
    have hbs := hbel.size
    have Ar := HBX.out.kept hbel
    obtain ⟨_, a0, a1, a2, a3, a4, a5⟩ := Ar
    by_cases hlt : j < pn
    · have hjl : j < ps.length := by have := HN.out.1; omega
      have hji : (j : Int) < (pn : Int) := by omega
      rcases HI.out with e | ⟨b, off, rfl, hbb, hc⟩
      · rw [e] at hjl; simp at hjl
      · have hck := ((bW.trans (hbel.mono bW.size)).cell (p := ⟨b, off + j, none⟩) hbb).trans (hc j hjl)
        have hz := HN.out.2 ps[j] (List.getElem_mem hjl)
        have HT : Hid (Tg.pts k (ps.take (j + 1)) = Tg.pts k (ps.take j) ++ [Tg.pt k ps[j]]) := by
          show _ = _
          rw [List.take_succ_eq_append_getElem hjl]; unfold Tg.pts; rw [List.map_append, List.map_singleton]
        generalize ps[j] = z at *
        obtain ⟨Z, rfl⟩ := Int.eq_ofNat_of_zero_le hz.1
        have hZ : Z ≤ 4294967295 := by omega
        obtain ⟨PL, hPL⟩ : ∃ PL, PL = Tg.pts k (ps.take j) := ⟨_, rfl⟩
        rw [← hPL] at hown HT
        have HPL : Hid (PL = Tg.pts k (ps.take j)) := hPL
        clear hPL hz hc hbel
        by_cases h3 : k = 3
        · subst h3
          obtain ⟨u, hu⟩ : ∃ u : Int, u = Tg.pt 3 (Z : Int) := ⟨_, rfl⟩
          rw [← hu] at HT
          have hu2 : (Z : Int) / 256 + (Z : Int) % 256 * 16777216 = u := by rw [hu]; unfold Tg.pt; rw [if_pos rfl]
          clear hu
          go_wp2_with (first | (at_builtin; refine wpList_app1 wr (by rfl) _ _ (by rfl) W0.heap.size _ j PL u (by rfl) hown (by rfl) (by omega) hbs ?_) | (at_builtin; rw [hu2]; refine wpList_app1 wr (by rfl) _ _ (by rfl) W0.heap.size _ j PL u (by rfl) hown (by rfl) (by omega) hbs ?_))
          intro g cap w6 hown6 hgr
          have HO6 : Hid (OwnI w6 W0.heap.size (.slice (some ⟨g, 0, none⟩) (j + 1) cap) (j + 1) (PL ++ [u]) ∧ Below W0.heap.size W0 w6) := ⟨hown6, hgr.below HBr.out (Nat.le_refl _) hbs⟩
          clear hown6 hgr hown hu2
          go_wp2_with fail
          go_roundw
          case rel => exact ⟨j + 1, by omega, by go_num, by rw [HT.out]; exact HO6.out.1, HO6.out.2⟩
          case measure => simp [intOf]; omega
        · have hk3 : (k == 3) = false := by rw [beq_eq_false_iff_ne]; exact h3
          have hk4 : decide (k = 3) = false := by simpa using h3
          have hu : Tg.pt k (Z : Int) = (Z : Int) := by unfold Tg.pt; rw [if_neg h3]
          rw [hu] at HT
          clear hu
          go_wp2_with (at_builtin; refine wpList_app1 wr (by rfl) _ _ (by rfl) W0.heap.size _ j PL (Z : Int) (by rfl) hown (by rfl) (by omega) hbs ?_)
          intro g cap w6 hown6 hgr
          have HO6 : Hid (OwnI w6 W0.heap.size (.slice (some ⟨g, 0, none⟩) (j + 1) cap) (j + 1) (PL ++ [(Z : Int)]) ∧ Below W0.heap.size W0 w6) := ⟨hown6, hgr.below HBr.out (Nat.le_refl _) hbs⟩
          clear hown6 hgr hown
          go_wp2_with fail
          go_roundw
          case rel => exact ⟨j + 1, by omega, by go_num, by rw [HT.out]; exact HO6.out.1, HO6.out.2⟩
          case measure => simp [intOf]; omega
    · have hji : ¬ (j : Int) < (pn : Int) := by omega
      obtain rfl : j = pn := by omega
      obtain ⟨y, cy, rfl, hOy⟩ := hown.owns
      have HE : Hid (Owns wr w.heap.size y (Tg.pts k ps)) := by
        have e : ps.take j = ps := List.take_of_length_le (by have := HN.out.1; omega)
        rw [e] at hOy
        exact hOy.lower (by omega)
      clear hown hOy
      go_wp2_with fail
      go_ret
      exact ⟨⟨y, ⟨cy, rfl⟩, HE.out⟩, bW.trans (HBr.out.mono bW.size)⟩
end Go.Proofs.Ytcahppmnfoopkaa

/- A picture as it is: its points, seen. -/
namespace Go.Proofs.Ytcahppmnfoopkaa
open Go.RowKit

/-- a picture's point -/
def pixF (Wd : Nat) (ps : List Int) : Nat → Nat → Int := fun x y => ps.getD (y * Wd + x) 0
theorem pix_upto (ps : List Int) (Wd Hi : Nat) (hpn : ps.length = Wd * Hi) : upto (ptF Wd (pixF Wd ps)) (Wd * Hi) = ps := by
  apply List.ext_getElem
  · rw [upto_length, hpn]
  · intro i h1 h2
    simp only [upto, List.getElem_map, List.getElem_range, ptF, pixF]
    rw [Nat.mul_comm, Nat.div_add_mod, List.getD_eq_getElem?_getD, List.getElem?_eq_getElem h2]
    rfl

theorem plain_seen (k d : Int) (Wd Hi : Nat) (ca : Option Addr) (cn cc : Nat) (pa : Option Addr) (pn pc : Nat) (ps : List Int) (w : World) (hp : Ints w pa ps) (hpn : ps.length = pn) (hW : Wd ≤ 20) (hH : Hi ≤ 20) (hm : pn = Wd * Hi) :
    Seen 53 (.agg #[.int .i64 k, .int .i64 d, .int .i64 (Wd : Int), .int .i64 (Hi : Int), .slice ca cn cc, .slice pa pn pc]) 93 (.agg #[.int .i64 k, .int .i64 d, .int .i64 (Wd : Int), .int .i64 (Hi : Int), .slice ca cn cc, .slice pa pn pc]) 92 (.agg #[.int .i64 k, .int .i64 d, .int .i64 (Wd : Int), .int .i64 (Hi : Int), .slice ca cn cc, .slice pa pn pc]) Wd Hi (pixF Wd ps) w.heap.size w where
  ms := fun w => by kernel_rfl
  ns := fun w => by kernel_rfl
  ma := fun w => by kernel_rfl
  na := fun w => by kernel_rfl
  es := enters_of Try.func93 (by kernel_rfl) rfl
  ea := enters_of Try.func92 (by kernel_rfl) rfl
  size := fun w' _ => size_any k d (Wd : Int) (Hi : Int) ca cn cc pa pn pc w'
  at' := fun w' x y hx hy b => at_any k d (Wd : Int) (Hi : Int) (x : Int) (y : Int) ca cn cc pa pn pc ps w' _ _ _ _ (spot_in hx hy hW hH hm) (hp.kept b) hpn
end Go.Proofs.Ytcahppmnfoopkaa

/- All points of a picture as a TGA has them, packed or not: tgaData of the program. -/
namespace Go.Proofs.Ytcahppmnfoopkaa
open Go.RowKit

set_option maxHeartbeats 2000000 in
set_option maxRecDepth 20000 in
theorem changed_tga (k d wd hi x y v c : Int) (ca : Option Addr) (cn cc : Nat) (pa : Option Addr) (pn pc : Nat) (w : World)
    (hat : ∀ w', Below w.heap.size w w' → Calls Try.prog 92 #[.agg #[.int .i64 k, .int .i64 d, .int .i64 wd, .int .i64 hi, .slice ca cn cc, .slice pa pn pc], .int .i64 x, .int .i64 y] w' fun e w'' => e = .returned (.int .i64 v) ∧ Below w'.heap.size w' w'')
    (hfn : ∀ w', Below w.heap.size w w' → Calls Try.prog 40 #[.int .i64 v] w' fun e w'' => e = .returned (.int .i64 c) ∧ Below w'.heap.size w' w'') :
    Calls Try.prog 94 #[.agg #[.iface 53 (.agg #[.int .i64 k, .int .i64 d, .int .i64 wd, .int .i64 hi, .slice ca cn cc, .slice pa pn pc]), .func (.func 40) #[] #[]], .int .i64 x, .int .i64 y] w fun e w' => e = .returned (.int .i64 c) ∧ Below w.heap.size w w' := by
  have HAT : Hid (∀ w', Below w.heap.size w w' → Calls Try.prog 92 #[.agg #[.int .i64 k, .int .i64 d, .int .i64 wd, .int .i64 hi, .slice ca cn cc, .slice pa pn pc], .int .i64 x, .int .i64 y] w' fun e w'' => e = .returned (.int .i64 v) ∧ Below w'.heap.size w' w'') := hat
  have HFN : Hid (∀ w', Below w.heap.size w w' → Calls Try.prog 40 #[.int .i64 v] w' fun e w'' => e = .returned (.int .i64 c) ∧ Below w'.heap.size w' w'') := hfn
  have m1 : ∀ w, (method 211 53 (.agg #[.int .i64 k, .int .i64 d, .int .i64 wd, .int .i64 hi, .slice ca cn cc, .slice pa pn pc]) "loop.example/intarsia/impl.at").run Try.prog w = .ok (92, .agg #[.int .i64 k, .int .i64 d, .int .i64 wd, .int .i64 hi, .slice ca cn cc, .slice pa pn pc]) w := fun w => by kernel_rfl
  have m2 : ∀ w, (nilAhead 211 53 (.agg #[.int .i64 k, .int .i64 d, .int .i64 wd, .int .i64 hi, .slice ca cn cc, .slice pa pn pc]) "loop.example/intarsia/impl.at").run Try.prog w = .ok (some false) w := fun w => by kernel_rfl
  clear hat hfn
  have hB0 : Below w.heap.size w (w.alloc (.cells #[.iface 53 (.agg #[.int .i64 k, .int .i64 d, .int .i64 wd, .int .i64 hi, .slice ca cn cc, .slice pa pn pc]), .func (.func 40) #[] #[]] 57)) := (Below.refl _ _).alloc (Nat.le_refl _) _
  go_enter Try.func94, Try.ntmps94
  go_wp2_with fail
  go_region_held3 (fun w' => w'.cell? ⟨w.heap.size, 0, none⟩ = some (.iface 53 (.agg #[.int .i64 k, .int .i64 d, .int .i64 wd, .int .i64 hi, .slice ca cn cc, .slice pa pn pc])) ∧ w'.cell? ⟨w.heap.size, 1, none⟩ = some (.func (.func 40) #[] #[])) (go_keep) (first | (go_at_call 92; refine (HAT.out _ hB0.drew).mono ?_; rintro e w2 ⟨rfl, b2⟩; have bw2 : Below w.heap.size w w2 := hB0.trans ((box_drew b2).mono (by simp)); have hlt : w.heap.size < (w.alloc (.cells #[.iface 53 (.agg #[.int .i64 k, .int .i64 d, .int .i64 wd, .int .i64 hi, .slice ca cn cc, .slice pa pn pc]), .func (.func 40) #[] #[]] 57)).heap.size := (by simp); have c0 := ((box_drew b2).cell (p := ⟨w.heap.size, 0, none⟩) hlt).trans (show (w.alloc (.cells #[.iface 53 (.agg #[.int .i64 k, .int .i64 d, .int .i64 wd, .int .i64 hi, .slice ca cn cc, .slice pa pn pc]), .func (.func 40) #[] #[]] 57)).cell? ⟨w.heap.size, 0, none⟩ = some (.iface 53 (.agg #[.int .i64 k, .int .i64 d, .int .i64 wd, .int .i64 hi, .slice ca cn cc, .slice pa pn pc])) by rw [World.cell?_alloc_at _ _ _ _ rfl]; rfl); have c1 := ((box_drew b2).cell (p := ⟨w.heap.size, 1, none⟩) hlt).trans (show (w.alloc (.cells #[.iface 53 (.agg #[.int .i64 k, .int .i64 d, .int .i64 wd, .int .i64 hi, .slice ca cn cc, .slice pa pn pc]), .func (.func 40) #[] #[]] 57)).cell? ⟨w.heap.size, 1, none⟩ = some (.func (.func 40) #[] #[]) by rw [World.cell?_alloc_at _ _ _ _ rfl]; rfl); have hlt2 : w.heap.size < w2.heap.size := Nat.lt_of_lt_of_le hlt b2.size) | (go_at_call 40; refine (HFN.out _ bw2).mono ?_; rintro e w3 ⟨rfl, b3⟩; have e0 := (b3.cell (p := ⟨w.heap.size, 0, none⟩) hlt2).trans c0; have e1 := (b3.cell (p := ⟨w.heap.size, 1, none⟩) hlt2).trans c1))
  all_goals
    have bel3 : Below w.heap.size w w3 := bw2.trans (b3.mono bw2.size)
    clear b3 bw2 b2
    go_wp2_with fail
    go_ret
    exact ⟨rfl, bel3⟩


theorem tga_ms (Wd Hi : Nat) (ca : Option Addr) (cn cc : Nat) (pa : Option Addr) (pn pc : Nat) (w : World) : (method 211 57 (.agg #[.iface 53 (.agg #[.int .i64 3, .int .i64 32, .int .i64 (Wd : Int), .int .i64 (Hi : Int), .slice ca cn cc, .slice pa pn pc]), .func (.func 40) #[] #[]]) "loop.example/intarsia/impl.size").run Try.prog w = .ok (93, .agg #[.int .i64 3, .int .i64 32, .int .i64 (Wd : Int), .int .i64 (Hi : Int), .slice ca cn cc, .slice pa pn pc]) w := by kernel_rfl
theorem tga_ns (Wd Hi : Nat) (ca : Option Addr) (cn cc : Nat) (pa : Option Addr) (pn pc : Nat) (w : World) : (nilAhead 211 57 (.agg #[.iface 53 (.agg #[.int .i64 3, .int .i64 32, .int .i64 (Wd : Int), .int .i64 (Hi : Int), .slice ca cn cc, .slice pa pn pc]), .func (.func 40) #[] #[]]) "loop.example/intarsia/impl.size").run Try.prog w = .ok (some false) w := by kernel_rfl
theorem tga_ma (Wd Hi : Nat) (ca : Option Addr) (cn cc : Nat) (pa : Option Addr) (pn pc : Nat) (w : World) : (method 211 57 (.agg #[.iface 53 (.agg #[.int .i64 3, .int .i64 32, .int .i64 (Wd : Int), .int .i64 (Hi : Int), .slice ca cn cc, .slice pa pn pc]), .func (.func 40) #[] #[]]) "loop.example/intarsia/impl.at").run Try.prog w = .ok (94, (.agg #[.iface 53 (.agg #[.int .i64 3, .int .i64 32, .int .i64 (Wd : Int), .int .i64 (Hi : Int), .slice ca cn cc, .slice pa pn pc]), .func (.func 40) #[] #[]])) w := by kernel_rfl
theorem tga_na (Wd Hi : Nat) (ca : Option Addr) (cn cc : Nat) (pa : Option Addr) (pn pc : Nat) (w : World) : (nilAhead 211 57 (.agg #[.iface 53 (.agg #[.int .i64 3, .int .i64 32, .int .i64 (Wd : Int), .int .i64 (Hi : Int), .slice ca cn cc, .slice pa pn pc]), .func (.func 40) #[] #[]]) "loop.example/intarsia/impl.at").run Try.prog w = .ok (some false) w := by kernel_rfl
theorem tga_seen (Wd Hi : Nat) (ca : Option Addr) (cn cc : Nat) (pa : Option Addr) (pn pc : Nat) (ps : List Int) (w : World) (hp : Ints w pa ps) (hpn : ps.length = pn) (hW : Wd ≤ 20) (hH : Hi ≤ 20) (hm : pn = Wd * Hi) (hb : ∀ v ∈ ps, 0 ≤ v ∧ v ≤ 4294967295) :
    Seen 57 (.agg #[.iface 53 (.agg #[.int .i64 3, .int .i64 32, .int .i64 (Wd : Int), .int .i64 (Hi : Int), .slice ca cn cc, .slice pa pn pc]), .func (.func 40) #[] #[]]) 93 (.agg #[.int .i64 3, .int .i64 32, .int .i64 (Wd : Int), .int .i64 (Hi : Int), .slice ca cn cc, .slice pa pn pc]) 94 (.agg #[.iface 53 (.agg #[.int .i64 3, .int .i64 32, .int .i64 (Wd : Int), .int .i64 (Hi : Int), .slice ca cn cc, .slice pa pn pc]), .func (.func 40) #[] #[]]) Wd Hi (fun x y => Tg.pt 3 (pixF Wd ps x y)) w.heap.size w where
  ms := tga_ms Wd Hi ca cn cc pa pn pc
  ns := tga_ns Wd Hi ca cn cc pa pn pc
  ma := tga_ma Wd Hi ca cn cc pa pn pc
  na := tga_na Wd Hi ca cn cc pa pn pc
  es := enters_of Try.func93 (by kernel_rfl) rfl
  ea := enters_of Try.func94 (by kernel_rfl) rfl
  size := fun w' _ => size_any 3 32 (Wd : Int) (Hi : Int) ca cn cc pa pn pc w'
  at' := fun w' X Y hx hy b => by
    have hs := spot_in hx hy hW hH hm
    have hjl : Y * Wd + X < ps.length := by rw [hpn]; exact hs.lt
    have hin : pixF Wd ps X Y ∈ ps := by unfold pixF; rw [List.getD_eq_getElem?_getD, List.getElem?_eq_getElem hjl]; exact List.getElem_mem hjl
    obtain ⟨h0, h1⟩ := hb _ hin
    obtain ⟨p, hpe⟩ := Int.eq_ofNat_of_zero_le h0
    have e : Tg.pt 3 (pixF Wd ps X Y) = (p : Int) / 256 + (p : Int) % 256 * 16777216 := by rw [hpe]; unfold Tg.pt; rw [if_pos rfl]
    show Calls _ _ _ _ fun e w'' => e = .returned (.int .i64 (Tg.pt 3 (pixF Wd ps X Y))) ∧ _
    rw [e]
    refine changed_tga 3 32 (Wd : Int) (Hi : Int) (X : Int) (Y : Int) (p : Int) _ ca cn cc pa pn pc w' (fun w'' b' => ?_) (fun w'' _ => (tgaPoint_any p w'' (by omega)).mono (fun e w3 h => ⟨h.1, by rw [h.2]; exact Below.refl _ _⟩))
    have := at_any 3 32 (Wd : Int) (Hi : Int) (X : Int) (Y : Int) ca cn cc pa pn pc ps w'' _ _ _ _ hs ((hp.kept b).kept b') hpn
    rw [show ps.getD (Y * Wd + X) 0 = (p : Int) from hpe] at this
    exact this
theorem tga_upto (ps : List Int) (Wd Hi : Nat) (h : ps.length = Wd * Hi) : upto (ptF Wd (fun x y => Tg.pt 3 (pixF Wd ps x y))) (Wd * Hi) = Tg.pts 3 ps := by
  have e := pix_upto ps Wd Hi h
  unfold Tg.pts
  conv => rhs; rw [← e]
  unfold upto
  rw [List.map_map]; rfl
theorem Tg.pts_plain {k : Int} (h : k ≠ 3) (ps : List Int) : Tg.pts k ps = ps := by
  unfold Tg.pts
  conv => rhs; rw [← List.map_id ps]
  exact List.map_congr_left fun p _ => by unfold Tg.pt; rw [if_neg h]; rfl

/-- all points of a view, gathered, with room -/
theorem gathered2 (T : TypeId) (V : Value) (fs : Nat) (rs : Value) (fa : Nat) (ra : Value) (wd hi : Nat) (f : Nat → Nat → Int) (hwd : wd ≤ 20) (hhi : hi ≤ 20) (w : World) (S : Seen T V fs rs fa ra wd hi f w.heap.size w) :
    Calls Try.prog 41 #[.func (.func 60) #[] #[.pointer (some ⟨w.heap.size, 0, none⟩)]] (w.alloc (.cells #[.iface T V] 55)) fun e W' => (∃ y cy, e = .returned (.slice y (wd * hi) cy) ∧ Ints W' y (upto (ptF wd f) (wd * hi)) ∧ wd * hi ≤ cy) ∧ Below w.heap.size w W' := by
  have hmul : wd * hi ≤ 20 * 20 := Nat.mul_le_mul hwd hhi
  refine (collect_any 60 _ (enters_of Try.func60 (by kernel_rfl) rfl) _ (by rw [upto_length]; unfold maxLen; omega) (by rw [upto_length]; omega) _ (points_tells 1 (Nat.le_refl _) T V fs rs fa ra wd hi f hwd hhi w S)).mono ?_
  rintro e w4 ⟨⟨v, rfl, hv, _⟩, b4⟩
  have hO4 := ownI_of_row hv
  rw [upto_length] at hO4
  have hcap : ∃ a c, v = .slice a (wd * hi) c ∧ wd * hi ≤ c := by
    rcases hO4.2 with ⟨rfl, h0⟩ | ⟨g, cap, cur, rfl, _, _, h1, _⟩
    · exact ⟨_, _, by rw [h0], by omega⟩
    · exact ⟨_, _, rfl, h1⟩
  obtain ⟨y, cy, rfl, hc⟩ := hcap
  obtain ⟨y', cy', e', hOy⟩ := hO4.owns
  cases e'
  exact ⟨⟨y, cy, rfl, hOy.ints, hc⟩, ((Below.refl _ _).alloc (Nat.le_refl _) _).trans (b4.mono (by simp))⟩

/-- the text of all points -/
noncomputable def Tg.data (S : Nat) (l : List Int) (runs : Bool) : List UInt8 := if runs then Rt.ans (S : Int) l else Rt.txt S l

set_option maxHeartbeats 2000000 in
set_option maxRecDepth 20000 in
theorem tgaData_any (k : Int) (D S Wd Hi : Nat) (ca : Option Addr) (cn cc : Nat) (pa : Option Addr) (pn pc : Nat) (ps : List Int) (runs : Bool) (w : World) (hp : Ints w pa ps) (hpn : ps.length = pn) (hW : Wd ≤ 20) (hH : Hi ≤ 20) (hm : pn = Wd * Hi) (hS1 : 1 ≤ S) (hS : S ≤ 4) (hD : D = 8 * S) (hk : k = 3 → D = 32) (hb : ∀ v ∈ ps, 0 ≤ v ∧ v ≤ 4294967295) (hf : Rt.fit S (Tg.pts k ps) = true) :
    Calls Try.prog 23 #[.agg #[.int .i64 k, .int .i64 (D : Int), .int .i64 (Wd : Int), .int .i64 (Hi : Int), .slice ca cn cc, .slice pa pn pc], .bool runs] w fun e w' => e = .returned (.string ⟨(Tg.data S (Tg.pts k ps) runs).toArray⟩) ∧ Below w.heap.size w w' := by
  obtain ⟨W0, hW0⟩ : ∃ W0, W0 = w.alloc (.cells #[.int .i64 k, .int .i64 (D : Int), .int .i64 (Wd : Int), .int .i64 (Hi : Int), .slice ca cn cc, .slice pa pn pc] 27) := ⟨_, rfl⟩
  have bW : Below w.heap.size w W0 := by rw [hW0]; exact (Below.refl _ _).alloc (Nat.le_refl _) _
  have HBX : Hid (Bx W0 w.heap.size (.int .i64 k) (.int .i64 (D : Int)) (.int .i64 (Wd : Int)) (.int .i64 (Hi : Int)) (.slice ca cn cc) (.slice pa pn pc)) := by rw [hW0]; exact bx_new w _ _ _ _ _ _ 27
  have hmul : Wd * Hi ≤ 20 * 20 := Nat.mul_le_mul hW hH
  have hq : (D : Int) / 8 = (S : Int) := by omega
  have hq2 : (D : Int).tdiv 8 = (S : Int) := by rw [Int.tdiv_eq_ediv_of_nonneg (by omega)]; exact hq
  obtain ⟨LP, hLP⟩ : ∃ LP, LP = Tg.pts k ps := ⟨_, rfl⟩
  have hLPl : LP.length = Wd * Hi := by rw [hLP, Tg.pts_len, hpn, hm]
  rw [← hLP] at hf ⊢
  have HEND : Hid (∀ (y : Option Addr) (cy : Nat) (w' : World), Ints w' y LP → Wd * Hi ≤ cy → (Calls Try.prog 43 #[.slice y (Wd * Hi) cy, .int .i64 (S : Int)] w' fun e w'' => e = .returned (.string ⟨(Rt.ans (S : Int) LP).toArray⟩) ∧ Below w'.heap.size w' w'') ∧ (Calls Try.prog 22 #[.slice y (Wd * Hi) cy, .int .i64 (S : Int), .bool false] w' fun e w'' => e = .returned (.string ⟨(Rt.txt S LP).toArray⟩) ∧ Below w'.heap.size w' w'')) := fun y cy w' h1 h2 => ⟨impl_runPut y (Wd * Hi) cy (S : Int) LP w' h1 hLPl (by omega) h2, numberText_ints y (Wd * Hi) cy S LP w' h1 hLPl (by omega) hS1 hS hf⟩
  by_cases h3 : k = 3
  · subst h3
    have hD32 : D = 32 := hk rfl
    have HCO : Hid (∀ w', Below w.heap.size w w' → Calls Try.prog 41 #[.func (.func 60) #[] #[.pointer (some ⟨w'.heap.size, 0, none⟩)]] (w'.alloc (.cells #[.iface 57 (.agg #[.iface 53 (.agg #[.int .i64 3, .int .i64 32, .int .i64 (Wd : Int), .int .i64 (Hi : Int), .slice ca cn cc, .slice pa pn pc]), .func (.func 40) #[] #[]])] 55)) fun e W' => (∃ y cy, e = .returned (.slice y (Wd * Hi) cy) ∧ Ints W' y LP ∧ Wd * Hi ≤ cy) ∧ Below w'.heap.size w' W') := fun w' b => by
      have h := gathered2 57 _ _ _ _ _ Wd Hi _ hW hH w' (tga_seen Wd Hi ca cn cc pa pn pc ps w' (hp.kept b) hpn hW hH hm hb)
      rw [tga_upto ps Wd Hi (by rw [hpn, hm]), ← hLP] at h
      exact h
    have eD : (D : Int) = 32 := by omega
    rw [eD] at HBX hW0 hq hq2 ⊢
    clear hp hpn hm hb hf hLP hLPl hk hD hD32 eD
    go_enter Try.func23, Try.ntmps23
    go_upto_region 1 with fail
    rw [← hW0]
    clear hW0
    obtain ⟨_, a0, a1, a2, a3, a4, a5⟩ := HBX.out
    go_wp2_with fail
    refine (pointsOf_any _ _ W0).mono ?_
    rintro e w2 ⟨rfl, hw2⟩
    have HC2 := HCO.out W0 bW
    rw [← hw2] at HC2
    have b2 : Below W0.heap.size W0 w2 := by rw [hw2]; exact (Below.refl _ _).alloc (Nat.le_refl _) _
    have HCH : Hid _ := HC2
    clear HC2 hw2 HCO
    go_wp2_with fail
    refine (show Calls _ _ _ _ _ from HCH.out).mono ?_
    rintro e w3 ⟨⟨y, cy, rfl, hy, hcy⟩, b3⟩
    have A3 := HBX.out.kept b3
    obtain ⟨_, c0, c1, c2, c3, c4, c5⟩ := A3
    have bel3 : Below w.heap.size w w3 := bW.trans (b3.mono bW.size)
    have HE3 := HEND.out y cy w3 hy hcy
    have H3a : Hid _ := HE3.1
    have H3b : Hid _ := HE3.2
    clear HE3 HEND a0 a1 a2 a3 a4 a5 b2 b3 hy HCH
    cases runs with
    | false =>
      go_wp2_with fail
      refine (show Calls _ _ _ _ _ from H3b.out).mono ?_
      rintro e w4 ⟨rfl, b4⟩
      have bel4 := bel3.trans (b4.mono bel3.size)
      clear b4
      go_wp2_with fail
      go_ret
      exact ⟨rfl, bel4⟩
    | true =>
      go_wp2_with fail
      refine (show Calls _ _ _ _ _ from H3a.out).mono ?_
      rintro e w4 ⟨rfl, b4⟩
      have bel4 := bel3.trans (b4.mono bel3.size)
      clear b4
      go_wp2_with fail
      go_ret
      exact ⟨rfl, bel4⟩
  · have hk3 : (k == 3) = false := by rw [beq_eq_false_iff_ne]; exact h3
    have HCO : Hid (∀ w', Below w.heap.size w w' → Calls Try.prog 41 #[.func (.func 60) #[] #[.pointer (some ⟨w'.heap.size, 0, none⟩)]] (w'.alloc (.cells #[.iface 53 (.agg #[.int .i64 k, .int .i64 (D : Int), .int .i64 (Wd : Int), .int .i64 (Hi : Int), .slice ca cn cc, .slice pa pn pc])] 55)) fun e W' => (∃ y cy, e = .returned (.slice y (Wd * Hi) cy) ∧ Ints W' y LP ∧ Wd * Hi ≤ cy) ∧ Below w'.heap.size w' W') := fun w' b => by
      have h := gathered2 53 _ _ _ _ _ Wd Hi _ hW hH w' (plain_seen k (D : Int) Wd Hi ca cn cc pa pn pc ps w' (hp.kept b) hpn hW hH hm)
      rw [pix_upto ps Wd Hi (by rw [hpn, hm])] at h
      rw [hLP, Tg.pts_plain h3]
      exact h
    clear hp hpn hm hb hf hLP hLPl hk hD h3
    go_enter Try.func23, Try.ntmps23
    go_upto_region 1 with fail
    rw [← hW0]
    clear hW0
    obtain ⟨_, a0, a1, a2, a3, a4, a5⟩ := HBX.out
    go_wp2_with fail
    refine (pointsOf_any _ _ W0).mono ?_
    rintro e w2 ⟨rfl, hw2⟩
    have HC2 := HCO.out W0 bW
    rw [← hw2] at HC2
    have b2 : Below W0.heap.size W0 w2 := by rw [hw2]; exact (Below.refl _ _).alloc (Nat.le_refl _) _
    have HCH : Hid _ := HC2
    clear HC2 hw2 HCO
    go_wp2_with fail
    refine (show Calls _ _ _ _ _ from HCH.out).mono ?_
    rintro e w3 ⟨⟨y, cy, rfl, hy, hcy⟩, b3⟩
    have A3 := HBX.out.kept b3
    obtain ⟨_, c0, c1, c2, c3, c4, c5⟩ := A3
    have bel3 : Below w.heap.size w w3 := bW.trans (b3.mono bW.size)
    have HE3 := HEND.out y cy w3 hy hcy
    have H3a : Hid _ := HE3.1
    have H3b : Hid _ := HE3.2
    clear HE3 HEND a0 a1 a2 a3 a4 a5 b2 b3 hy HCH
    cases runs with
    | false =>
      go_wp2_with fail
      refine (show Calls _ _ _ _ _ from H3b.out).mono ?_
      rintro e w4 ⟨rfl, b4⟩
      have bel4 := bel3.trans (b4.mono bel3.size)
      clear b4
      go_wp2_with fail
      go_ret
      exact ⟨rfl, bel4⟩
    | true =>
      go_wp2_with fail
      refine (show Calls _ _ _ _ _ from H3a.out).mono ?_
      rintro e w4 ⟨rfl, b4⟩
      have bel4 := bel3.trans (b4.mono bel3.size)
      clear b4
      go_wp2_with fail
      go_ret
      exact ⟨rfl, bel4⟩
end Go.Proofs.Ytcahppmnfoopkaa

/- TgaPut of the program. -/
namespace Go.Proofs.Ytcahppmnfoopkaa
open Go.RowKit

/-- fields in memory -/
def fieldsV (l : List (Int × Int)) : List Value := l.flatMap fun z => [.int .i64 z.1, .int .i64 z.2]
theorem fieldsV_get : ∀ (l : List (Int × Int)) (i : Nat) (h : i < l.length), (fieldsV l)[i * 2]? = some (.int .i64 (l[i]).1) ∧ (fieldsV l)[i * 2 + 1]? = some (.int .i64 (l[i]).2)
  | [], i, h => by simp at h
  | z :: l, 0, h => by simp [fieldsV]
  | z :: l, i + 1, h => by
    have := fieldsV_get l i (by simpa using h)
    rw [show (i + 1) * 2 = i * 2 + 1 + 1 by omega]
    simpa [fieldsV] using this
theorem bits2_new (w : World) (l : List (Int × Int)) (T : TypeId) : Bits2 (w.alloc (.cells (fieldsV l).toArray T)) (some ⟨w.heap.size, 0, none⟩) l := by
  refine .inr ⟨w.heap.size, 0, rfl, by simp, fun i hi => ?_⟩
  have h := fieldsV_get l i hi
  rw [Nat.zero_add]
  exact ⟨by rw [World.cell?_alloc_at _ _ _ _ rfl]; simpa using h.1, by rw [World.cell?_alloc_at _ _ _ _ rfl]; simpa using h.2⟩

set_option maxHeartbeats 1000000 in
theorem tgaHolds_any (k d wd hi : Int) (ca : Option Addr) (cn cc : Nat) (pa : Option Addr) (pn pc : Nat) (ok : Bool) (w : World)
    (hO : ∀ w', Below w.heap.size w w' → Calls Try.prog 38 #[.agg #[.int .i64 k, .int .i64 d, .int .i64 wd, .int .i64 hi, .slice ca cn cc, .slice pa pn pc]] w' fun e w'' => e = .returned (.bool ok) ∧ Below w'.heap.size w' w'') :
    Calls Try.prog 17 #[.agg #[.int .i64 k, .int .i64 d, .int .i64 wd, .int .i64 hi, .slice ca cn cc, .slice pa pn pc]] w fun e w' => e = .returned (.bool (ok && (Tg.sort k d != 0))) ∧ Below w.heap.size w w' := by
  have hB0 : Below w.heap.size w (w.alloc (.cells #[.int .i64 k, .int .i64 d, .int .i64 wd, .int .i64 hi, .slice ca cn cc, .slice pa pn pc] 27)) := (Below.refl _ _).alloc (Nat.le_refl _) _
  have A0 := bx_new w (.int .i64 k) (.int .i64 d) (.int .i64 wd) (.int .i64 hi) (.slice ca cn cc) (.slice pa pn pc) 27
  have HO : Hid (∀ w', Below w.heap.size w w' → Calls Try.prog 38 #[.agg #[.int .i64 k, .int .i64 d, .int .i64 wd, .int .i64 hi, .slice ca cn cc, .slice pa pn pc]] w' fun e w'' => e = .returned (.bool ok) ∧ Below w'.heap.size w' w'') := hO
  have HS : Hid (∀ w' : World, Calls Try.prog 18 #[.int .i64 k, .int .i64 d] w' fun e w'' => e = .returned (.int .i64 (Tg.sort k d)) ∧ w'' = w') := fun w' => tgaSort_any k d w'
  clear hO
  generalize Tg.sort k d = srt at *
  have HA : Hid (Bx (w.alloc (.cells #[.int .i64 k, .int .i64 d, .int .i64 wd, .int .i64 hi, .slice ca cn cc, .slice pa pn pc] 27)) w.heap.size (.int .i64 k) (.int .i64 d) (.int .i64 wd) (.int .i64 hi) (.slice ca cn cc) (.slice pa pn pc)) := A0
  clear A0
  go_enter Try.func17, Try.ntmps17
  go_wp2_with fail
  refine (HO.out _ hB0).mono ?_
  rintro e w1 ⟨rfl, b1⟩
  have bel1 := hB0.trans (b1.mono hB0.size)
  obtain ⟨_, a0, a1, a2, a3, a4, a5⟩ := HA.out.kept b1
  clear b1 hB0 HA HO
  cases ok with
  | false =>
    go_wp2_with fail
    go_ret
    exact ⟨rfl, bel1⟩
  | true =>
    go_wp2_with fail
    refine (HS.out _).mono ?_
    rintro e w2 ⟨rfl, rfl⟩
    go_wp2_with fail
    go_ret
    exact ⟨by simp, bel1⟩

theorem Rn.all_max {α : Type} [DecidableEq α] {least m : Nat} {l : List α} (hm : 0 < m) : ∀ (f k : Nat), ∀ x ∈ Rn.all least m l f k, x.2.1 ≤ m
  | 0, k, x, hx => by simp [Rn.all] at hx
  | f + 1, k, x, hx => by
    unfold Rn.all at hx
    split at hx
    · next hk =>
      rcases List.mem_cons.1 hx with rfl | h
      · have := Rn.size_ends (l := l.drop k) (least := least) (m := m) (by rw [List.length_drop]; omega) hm
        simp only
        omega
      · exact Rn.all_max hm f _ x h
    · cases hx
theorem Rt.ans_short (S : Nat) (l : List Int) (hS : S ≤ 4) : (Rt.ans (S : Int) l).length ≤ 513 * l.length := by
  unfold Rt.ans
  split
  · rw [Int.toNat_natCast]
    have h1 := Rt.flat_len S l hS (Rn.from_ 2 128 l 0) (fun x hx => Rn.all_max (by omega) _ _ x hx)
    have h2 : (Rn.from_ 2 128 l 0).length ≤ l.length - 0 := Rn.all_len (least := 2) (m := 128) (l := l) (l.length - 0) 0
    have h3 := Nat.mul_le_mul_left 513 h2
    unfold Rt.all
    omega
  · simp
theorem Tg.data_short (S : Nat) (l : List Int) (runs : Bool) (hS : S ≤ 4) (hl : l.length ≤ 400) : (Tg.data S l runs).length ≤ 300000 := by
  unfold Tg.data
  split
  · have := Rt.ans_short S l hS; omega
  · rw [Rt.txt_len]; have := Nat.mul_le_mul hS hl; omega
theorem Tg.txt_short : ∀ (l : List (Int × Int)), (∀ z ∈ l, z.2 ≤ 4) → (Tg.txt l).length ≤ 4 * l.length
  | [], _ => by simp [Tg.txt]
  | z :: l, h => by
    have h1 := Tg.txt_short l (fun y hy => h y (by simp [hy]))
    have h2 := h z (by simp)
    have e : Tg.txt (z :: l) = Pt.low z.1.toNat z.2.toNat ++ Tg.txt l := by simp [Tg.txt]
    rw [e, List.length_append, Pt.low_len, List.length_cons]
    omega

/-- the fields of a head -/
def Tg.head (k : Int) (D Wd Hi cn : Nat) (runs : Bool) : List (Int × Int) :=
  [(0, 1), ((if k = 4 then 1 else 0), 1), (Tg.sort k D + (if runs then 8 else 0), 1), (0, 2), ((cn : Int), 2), ((if k = 4 then 24 else 0), 1), (0, 4), ((Wd : Int), 2), ((Hi : Int), 2), ((D : Int), 1), (Tg.last k, 1)]

set_option maxHeartbeats 1000000 in
theorem impl_tga_no (k d wd hi : Int) (ca : Option Addr) (cn cc : Nat) (pa : Option Addr) (pn pc : Nat) (runs : Bool) (w : World)
    (hO : ∀ w', Below w.heap.size w w' → Calls Try.prog 17 #[.agg #[.int .i64 k, .int .i64 d, .int .i64 wd, .int .i64 hi, .slice ca cn cc, .slice pa pn pc]] w' fun e w'' => e = .returned (.bool false) ∧ Below w'.heap.size w' w'') :
    Calls Try.prog 8 #[.agg #[.int .i64 k, .int .i64 d, .int .i64 wd, .int .i64 hi, .slice ca cn cc, .slice pa pn pc], .bool runs] w fun e w' => e = .returned (.string ⟨#[]⟩) ∧ Below w.heap.size w w' := by
  have hB0 : Below w.heap.size w (w.alloc (.cells #[.int .i64 k, .int .i64 d, .int .i64 wd, .int .i64 hi, .slice ca cn cc, .slice pa pn pc] 27)) := (Below.refl _ _).alloc (Nat.le_refl _) _
  have HO := hO _ hB0
  have HO' : Hid _ := HO
  clear hO HO
  go_enter Try.func8, Try.ntmps8
  go_wp2_with fail
  refine (show Calls _ _ _ _ _ from HO'.out).mono ?_
  rintro e w1 ⟨rfl, b1⟩
  have bel1 := hB0.trans (b1.mono hB0.size)
  clear b1 hB0 HO'
  go_wp2_with fail
  go_ret
  exact ⟨rfl, bel1⟩

set_option linter.unusedSimpArgs false in
set_option maxHeartbeats 4000000 in
set_option maxRecDepth 20000 in
theorem impl_tga_yes (k : Int) (D S Wd Hi : Nat) (ca : Option Addr) (cn cc : Nat) (pa : Option Addr) (pn pc : Nat) (cs ps : List Int) (runs : Bool) (w : World) (hc : Ints w ca cs) (hcn : cs.length = cn) (hcl : cn ≤ 256) (hp : Ints w pa ps) (hpn : ps.length = pn) (hW : Wd ≤ 20) (hH : Hi ≤ 20) (hm : pn = Wd * Hi) (hS1 : 1 ≤ S) (hS : S ≤ 4) (hD : D = 8 * S) (hk : k = 3 → D = 32) (hb : ∀ v ∈ ps, 0 ≤ v ∧ v ≤ 4294967295) (hf : Rt.fit S (Tg.pts k ps) = true) (hfc : Rt.fit 3 cs = true)
    (hO : ∀ w', Below w.heap.size w w' → Calls Try.prog 17 #[.agg #[.int .i64 k, .int .i64 (D : Int), .int .i64 (Wd : Int), .int .i64 (Hi : Int), .slice ca cn cc, .slice pa pn pc]] w' fun e w'' => e = .returned (.bool true) ∧ Below w'.heap.size w' w'') :
    Calls Try.prog 8 #[.agg #[.int .i64 k, .int .i64 (D : Int), .int .i64 (Wd : Int), .int .i64 (Hi : Int), .slice ca cn cc, .slice pa pn pc], .bool runs] w fun e w' => e = .returned (.string ⟨(Tg.txt (Tg.head k D Wd Hi cn runs) ++ Rt.txt 3 cs ++ Tg.data S (Tg.pts k ps) runs).toArray⟩) ∧ Below w.heap.size w w' := by
  have hB0 : Below w.heap.size w (w.alloc (.cells #[.int .i64 k, .int .i64 (D : Int), .int .i64 (Wd : Int), .int .i64 (Hi : Int), .slice ca cn cc, .slice pa pn pc] 27)) := (Below.refl _ _).alloc (Nat.le_refl _) _
  have HA0 : Hid (Bx (w.alloc (.cells #[.int .i64 k, .int .i64 (D : Int), .int .i64 (Wd : Int), .int .i64 (Hi : Int), .slice ca cn cc, .slice pa pn pc] 27)) w.heap.size (.int .i64 k) (.int .i64 (D : Int)) (.int .i64 (Wd : Int)) (.int .i64 (Hi : Int)) (.slice ca cn cc) (.slice pa pn pc)) := bx_new w _ _ _ _ _ _ 27
  have HO := hO _ hB0
  have HO' : Hid _ := HO
  have HS : Hid (∀ w' : World, Calls Try.prog 18 #[.int .i64 k, .int .i64 (D : Int)] w' fun e w'' => e = .returned (.int .i64 (Tg.sort k D)) ∧ w'' = w') := fun w' => tgaSort_any k D w'
  have HTL : Hid (∀ w' : World, Calls Try.prog 19 #[.int .i64 k] w' fun e w'' => e = .returned (.tuple #[.int .i64 (if k = 4 then 1 else 0), .int .i64 (if k = 4 then 24 else 0)]) ∧ w'' = w') := fun w' => tgaList_any k w'
  have HLA : Hid (∀ w' : World, Calls Try.prog 21 #[.int .i64 k] w' fun e w'' => e = .returned (.int .i64 (Tg.last k)) ∧ w'' = w') := fun w' => tgaLast_any k w'
  have HNT : Hid (∀ w' : World, Below w.heap.size w w' → Calls Try.prog 22 #[.slice ca cn cc, .int .i64 3, .bool false] w' fun e w'' => e = .returned (.string ⟨(Rt.txt 3 cs).toArray⟩) ∧ Below w'.heap.size w' w'') := fun w' b => numberText_ints ca cn cc 3 cs w' (hc.kept b) hcn (by omega) (by omega) (by omega) hfc
  have HTD : Hid (∀ w' : World, Below w.heap.size w w' → Calls Try.prog 23 #[.agg #[.int .i64 k, .int .i64 (D : Int), .int .i64 (Wd : Int), .int .i64 (Hi : Int), .slice ca cn cc, .slice pa pn pc], .bool runs] w' fun e w'' => e = .returned (.string ⟨(Tg.data S (Tg.pts k ps) runs).toArray⟩) ∧ Below w'.heap.size w' w'') := fun w' b => tgaData_any k D S Wd Hi ca cn cc pa pn pc ps runs w' (hp.kept b) hpn hW hH hm hS1 hS hD hk hb hf
  have hsb := Tg.sort_bd k D
  obtain ⟨lst, hlst⟩ : ∃ z : Int, z = if k = 4 then 1 else 0 := ⟨_, rfl⟩
  obtain ⟨cbt, hcbt⟩ : ∃ z : Int, z = if k = 4 then 24 else 0 := ⟨_, rfl⟩
  obtain ⟨lastv, hlast⟩ : ∃ z : Int, z = Tg.last k := ⟨_, rfl⟩
  obtain ⟨srt0, hsrt0⟩ : ∃ z : Int, z = Tg.sort k D := ⟨_, rfl⟩
  obtain ⟨srt, hsrt⟩ : ∃ z : Int, z = srt0 + (if runs then 8 else 0) := ⟨_, rfl⟩
  obtain ⟨T1, hT1⟩ : ∃ T, T = Tg.txt (Tg.head k D Wd Hi cn runs) := ⟨_, rfl⟩
  obtain ⟨T2, hT2⟩ : ∃ T, T = Rt.txt 3 cs := ⟨_, rfl⟩
  obtain ⟨T3, hT3⟩ : ∃ T, T = Tg.data S (Tg.pts k ps) runs := ⟨_, rfl⟩
  have hhead : Tg.head k D Wd Hi cn runs = [(0, 1), (lst, 1), (srt, 1), (0, 2), ((cn : Int), 2), (cbt, 1), (0, 4), ((Wd : Int), 2), ((Hi : Int), 2), ((D : Int), 1), (lastv, 1)] := by unfold Tg.head; rw [← hlst, ← hcbt, ← hlast, ← hsrt0, ← hsrt]
  have HFT : Hid (∀ (b : Nat) (w' : World), Bits2 w' (some ⟨b, 0, none⟩) [(0, 1), (lst, 1), (srt, 1), (0, 2), ((cn : Int), 2), (cbt, 1), (0, 4), ((Wd : Int), 2), ((Hi : Int), 2), ((D : Int), 1), (lastv, 1)] → Calls Try.prog 20 #[.slice (some ⟨b, 0, none⟩) 11 11] w' fun e w'' => e = .returned (.string ⟨T1.toArray⟩) ∧ Below w'.heap.size w' w'') := fun b w' h => by
    have h1 : 0 ≤ lst ∧ lst ≤ 1 := by rw [hlst]; split <;> omega
    have h2 : 0 ≤ cbt ∧ cbt ≤ 24 := by rw [hcbt]; split <;> omega
    have h3 : 0 ≤ lastv ∧ lastv ≤ 40 := by rw [hlast]; unfold Tg.last; split <;> omega
    have h4 : 0 ≤ srt ∧ srt ≤ 11 := by rw [hsrt, hsrt0]; split <;> omega
    rw [hT1, hhead]
    refine fieldText_any b 0 11 11 _ w' h rfl (by omega) (fun z hz => ?_)
    simp only [List.mem_cons, List.not_mem_nil, or_false] at hz
    rcases hz with rfl | rfl | rfl | rfl | rfl | rfl | rfl | rfl | rfl | rfl | rfl <;> simp <;> omega
  rw [← hT1, ← hT2, ← hT3]
  rw [← hT2] at HNT
  rw [← hT3] at HTD
  rw [← hlst, ← hcbt] at HTL
  rw [← hlast] at HLA
  rw [← hsrt0] at HS hsb
  have n1 : T1.length ≤ 44 := by rw [hT1, hhead]; exact Tg.txt_short _ (fun z hz => by simp only [List.mem_cons, List.not_mem_nil, or_false] at hz; rcases hz with rfl | rfl | rfl | rfl | rfl | rfl | rfl | rfl | rfl | rfl | rfl <;> simp)
  have n2 : T2.length ≤ 768 := by rw [hT2, Rt.txt_len, hcn]; omega
  have n3 : T3.length ≤ 300000 := by rw [hT3]; exact Tg.data_short S _ runs hS (by rw [Tg.pts_len, hpn, hm]; exact Nat.mul_le_mul hW hH)
  have HSR : Hid (srt = srt0 + (if runs then 8 else 0)) := hsrt
  have HAPP : Hid (ByteArray.mk T1.toArray ++ ByteArray.mk T2.toArray ++ ByteArray.mk T3.toArray = ByteArray.mk (T1 ++ T2 ++ T3).toArray) := by show _ = _; rw [ByteArray.mk_append_mk, ByteArray.mk_append_mk]
  clear hO HO hc hcn hp hpn hm hS1 hS hD hk hb hf hfc hlst hcbt hlast hsrt0 hsrt hT1 hT2 hT3 hhead
  go_enter Try.func8, Try.ntmps8
  go_wp2_with fail
  refine (show Calls _ _ _ _ _ from HO'.out).mono ?_
  rintro e W1 ⟨rfl, b1⟩
  have HB1 : Hid (Below w.heap.size w W1) := hB0.trans (b1.mono hB0.size)
  have HBX1 : Hid (Bx W1 w.heap.size (.int .i64 k) (.int .i64 (D : Int)) (.int .i64 (Wd : Int)) (.int .i64 (Hi : Int)) (.slice ca cn cc) (.slice pa pn pc)) := HA0.out.kept b1
  obtain ⟨_, a0, a1, a2, a3, a4, a5⟩ := HBX1.out
  clear b1 hB0 HO' HA0
  go_wp2_with fail
  refine (HS.out _).mono ?_
  rintro e w2 ⟨rfl, hw2⟩
  have hw2' := hw2.symm
  subst hw2'
  cases runs with
  | false =>
    obtain rfl : srt = srt0 := by rw [HSR.out]; simp
    clear HSR
    go_wp2_with fail
    refine (HTL.out _).mono ?_
    rintro e w3 ⟨rfl, hw3⟩
    have hw3' := hw3.symm
    subst hw3'
    go_wp2_with fail
    refine wp_region_held_drew (S := fun w' => w'.cell? ⟨w.heap.size, 0, none⟩ = some (.int .i64 k) ∧ w'.cell? ⟨w.heap.size, 1, none⟩ = some (.int .i64 (D : Int)) ∧ w'.cell? ⟨w.heap.size, 2, none⟩ = some (.int .i64 (Wd : Int)) ∧ w'.cell? ⟨w.heap.size, 3, none⟩ = some (.int .i64 (Hi : Int)) ∧ w'.cell? ⟨w.heap.size, 4, none⟩ = some (.slice ca cn cc) ∧ w'.cell? ⟨w.heap.size, 5, none⟩ = some (.slice pa pn pc)) (by kernel_rfl) ⟨a0, a1, a2, a3, a4, a5⟩ (fun hHeld => ?_)
    refine wpAnyH_take (i := 0) (v := .agg #[.int .i64 0, .int .i64 1]) rfl (by kernel_rfl) (by kernel_rfl) (by kernel_rfl) (fun _ _ _ h => h) (Or.inl ⟨by rfl, ?_⟩) hHeld ?_
    · intro w' hSw
      obtain ⟨s0, s1, s2, s3, s4, s5⟩ := hSw
      go_simp
    try simp only [List.getElem_toArray, List.getElem_cons_succ, List.getElem_cons_zero, Act.put, List.setIfInBounds_toArray, List.set_cons_zero, List.set_cons_succ]
    refine wpAnyH_take (i := 1) (v := .int .i64 lst) rfl (by kernel_rfl) (by kernel_rfl) (by kernel_rfl) (fun _ _ _ h => h) (Or.inl ⟨by rfl, ?_⟩) hHeld ?_
    · intro w' hSw
      obtain ⟨s0, s1, s2, s3, s4, s5⟩ := hSw
      go_simp
    try simp only [List.getElem_toArray, List.getElem_cons_succ, List.getElem_cons_zero, Act.put, List.setIfInBounds_toArray, List.set_cons_zero, List.set_cons_succ]
    refine wpAnyH_take (i := 2) (v := .agg #[.int .i64 lst, .int .i64 1]) rfl (by kernel_rfl) (by kernel_rfl) (by kernel_rfl) (fun _ _ _ h => h) (Or.inl ⟨by rfl, ?_⟩) hHeld ?_
    · intro w' hSw
      obtain ⟨s0, s1, s2, s3, s4, s5⟩ := hSw
      go_simp
    try simp only [List.getElem_toArray, List.getElem_cons_succ, List.getElem_cons_zero, Act.put, List.setIfInBounds_toArray, List.set_cons_zero, List.set_cons_succ]
    refine wpAnyH_take (i := 3) (v := .int .i64 srt) rfl (by kernel_rfl) (by kernel_rfl) (by kernel_rfl) (fun _ _ _ h => h) (Or.inl ⟨by rfl, ?_⟩) hHeld ?_
    · intro w' hSw
      obtain ⟨s0, s1, s2, s3, s4, s5⟩ := hSw
      go_simp
    try simp only [List.getElem_toArray, List.getElem_cons_succ, List.getElem_cons_zero, Act.put, List.setIfInBounds_toArray, List.set_cons_zero, List.set_cons_succ]
    refine wpAnyH_take (i := 4) (v := .agg #[.int .i64 srt, .int .i64 1]) rfl (by kernel_rfl) (by kernel_rfl) (by kernel_rfl) (fun _ _ _ h => h) (Or.inl ⟨by rfl, ?_⟩) hHeld ?_
    · intro w' hSw
      obtain ⟨s0, s1, s2, s3, s4, s5⟩ := hSw
      go_simp
    try simp only [List.getElem_toArray, List.getElem_cons_succ, List.getElem_cons_zero, Act.put, List.setIfInBounds_toArray, List.set_cons_zero, List.set_cons_succ]
    refine wpAnyH_take (i := 5) (v := .agg #[.int .i64 0, .int .i64 2]) rfl (by kernel_rfl) (by kernel_rfl) (by kernel_rfl) (fun _ _ _ h => h) (Or.inl ⟨by rfl, ?_⟩) hHeld ?_
    · intro w' hSw
      obtain ⟨s0, s1, s2, s3, s4, s5⟩ := hSw
      go_simp
    try simp only [List.getElem_toArray, List.getElem_cons_succ, List.getElem_cons_zero, Act.put, List.setIfInBounds_toArray, List.set_cons_zero, List.set_cons_succ]
    refine wpAnyH_take (i := 6) (v := .pointer (some ⟨w.heap.size, 4, none⟩)) rfl (by kernel_rfl) (by kernel_rfl) (by kernel_rfl) (fun _ _ _ h => h) (Or.inl ⟨by rfl, ?_⟩) hHeld ?_
    · intro w' hSw
      obtain ⟨s0, s1, s2, s3, s4, s5⟩ := hSw
      go_simp
    try simp only [List.getElem_toArray, List.getElem_cons_succ, List.getElem_cons_zero, Act.put, List.setIfInBounds_toArray, List.set_cons_zero, List.set_cons_succ]
    refine wpAnyH_take (i := 7) (v := .slice ca cn cc) rfl (by kernel_rfl) (by kernel_rfl) (by kernel_rfl) (fun _ _ _ h => h) (Or.inl ⟨by rfl, ?_⟩) hHeld ?_
    · intro w' hSw
      obtain ⟨s0, s1, s2, s3, s4, s5⟩ := hSw
      go_simp
    try simp only [List.getElem_toArray, List.getElem_cons_succ, List.getElem_cons_zero, Act.put, List.setIfInBounds_toArray, List.set_cons_zero, List.set_cons_succ]
    refine wpAnyH_take (i := 8) (v := .int .i64 (cn : Int)) rfl (by kernel_rfl) (by kernel_rfl) (by kernel_rfl) (fun _ _ _ h => h) (Or.inl ⟨by rfl, ?_⟩) hHeld ?_
    · intro w' hSw
      obtain ⟨s0, s1, s2, s3, s4, s5⟩ := hSw
      go_simp
    try simp only [List.getElem_toArray, List.getElem_cons_succ, List.getElem_cons_zero, Act.put, List.setIfInBounds_toArray, List.set_cons_zero, List.set_cons_succ]
    refine wpAnyH_take (i := 9) (v := .agg #[.int .i64 (cn : Int), .int .i64 2]) rfl (by kernel_rfl) (by kernel_rfl) (by kernel_rfl) (fun _ _ _ h => h) (Or.inl ⟨by rfl, ?_⟩) hHeld ?_
    · intro w' hSw
      obtain ⟨s0, s1, s2, s3, s4, s5⟩ := hSw
      go_simp
    try simp only [List.getElem_toArray, List.getElem_cons_succ, List.getElem_cons_zero, Act.put, List.setIfInBounds_toArray, List.set_cons_zero, List.set_cons_succ]
    refine wpAnyH_take (i := 10) (v := .int .i64 cbt) rfl (by kernel_rfl) (by kernel_rfl) (by kernel_rfl) (fun _ _ _ h => h) (Or.inl ⟨by rfl, ?_⟩) hHeld ?_
    · intro w' hSw
      obtain ⟨s0, s1, s2, s3, s4, s5⟩ := hSw
      go_simp
    try simp only [List.getElem_toArray, List.getElem_cons_succ, List.getElem_cons_zero, Act.put, List.setIfInBounds_toArray, List.set_cons_zero, List.set_cons_succ]
    refine wpAnyH_take (i := 11) (v := .agg #[.int .i64 cbt, .int .i64 1]) rfl (by kernel_rfl) (by kernel_rfl) (by kernel_rfl) (fun _ _ _ h => h) (Or.inl ⟨by rfl, ?_⟩) hHeld ?_
    · intro w' hSw
      obtain ⟨s0, s1, s2, s3, s4, s5⟩ := hSw
      go_simp
    try simp only [List.getElem_toArray, List.getElem_cons_succ, List.getElem_cons_zero, Act.put, List.setIfInBounds_toArray, List.set_cons_zero, List.set_cons_succ]
    refine wpAnyH_take (i := 12) (v := .agg #[.int .i64 0, .int .i64 4]) rfl (by kernel_rfl) (by kernel_rfl) (by kernel_rfl) (fun _ _ _ h => h) (Or.inl ⟨by rfl, ?_⟩) hHeld ?_
    · intro w' hSw
      obtain ⟨s0, s1, s2, s3, s4, s5⟩ := hSw
      go_simp
    try simp only [List.getElem_toArray, List.getElem_cons_succ, List.getElem_cons_zero, Act.put, List.setIfInBounds_toArray, List.set_cons_zero, List.set_cons_succ]
    refine wpAnyH_take (i := 13) (v := .pointer (some ⟨w.heap.size, 2, none⟩)) rfl (by kernel_rfl) (by kernel_rfl) (by kernel_rfl) (fun _ _ _ h => h) (Or.inl ⟨by rfl, ?_⟩) hHeld ?_
    · intro w' hSw
      obtain ⟨s0, s1, s2, s3, s4, s5⟩ := hSw
      go_simp
    try simp only [List.getElem_toArray, List.getElem_cons_succ, List.getElem_cons_zero, Act.put, List.setIfInBounds_toArray, List.set_cons_zero, List.set_cons_succ]
    refine wpAnyH_take (i := 14) (v := .int .i64 (Wd : Int)) rfl (by kernel_rfl) (by kernel_rfl) (by kernel_rfl) (fun _ _ _ h => h) (Or.inl ⟨by rfl, ?_⟩) hHeld ?_
    · intro w' hSw
      obtain ⟨s0, s1, s2, s3, s4, s5⟩ := hSw
      go_simp
    try simp only [List.getElem_toArray, List.getElem_cons_succ, List.getElem_cons_zero, Act.put, List.setIfInBounds_toArray, List.set_cons_zero, List.set_cons_succ]
    refine wpAnyH_take (i := 15) (v := .agg #[.int .i64 (Wd : Int), .int .i64 2]) rfl (by kernel_rfl) (by kernel_rfl) (by kernel_rfl) (fun _ _ _ h => h) (Or.inl ⟨by rfl, ?_⟩) hHeld ?_
    · intro w' hSw
      obtain ⟨s0, s1, s2, s3, s4, s5⟩ := hSw
      go_simp
    try simp only [List.getElem_toArray, List.getElem_cons_succ, List.getElem_cons_zero, Act.put, List.setIfInBounds_toArray, List.set_cons_zero, List.set_cons_succ]
    refine wpAnyH_take (i := 16) (v := .pointer (some ⟨w.heap.size, 3, none⟩)) rfl (by kernel_rfl) (by kernel_rfl) (by kernel_rfl) (fun _ _ _ h => h) (Or.inl ⟨by rfl, ?_⟩) hHeld ?_
    · intro w' hSw
      obtain ⟨s0, s1, s2, s3, s4, s5⟩ := hSw
      go_simp
    try simp only [List.getElem_toArray, List.getElem_cons_succ, List.getElem_cons_zero, Act.put, List.setIfInBounds_toArray, List.set_cons_zero, List.set_cons_succ]
    refine wpAnyH_take (i := 17) (v := .int .i64 (Hi : Int)) rfl (by kernel_rfl) (by kernel_rfl) (by kernel_rfl) (fun _ _ _ h => h) (Or.inl ⟨by rfl, ?_⟩) hHeld ?_
    · intro w' hSw
      obtain ⟨s0, s1, s2, s3, s4, s5⟩ := hSw
      go_simp
    try simp only [List.getElem_toArray, List.getElem_cons_succ, List.getElem_cons_zero, Act.put, List.setIfInBounds_toArray, List.set_cons_zero, List.set_cons_succ]
    refine wpAnyH_take (i := 18) (v := .agg #[.int .i64 (Hi : Int), .int .i64 2]) rfl (by kernel_rfl) (by kernel_rfl) (by kernel_rfl) (fun _ _ _ h => h) (Or.inl ⟨by rfl, ?_⟩) hHeld ?_
    · intro w' hSw
      obtain ⟨s0, s1, s2, s3, s4, s5⟩ := hSw
      go_simp
    try simp only [List.getElem_toArray, List.getElem_cons_succ, List.getElem_cons_zero, Act.put, List.setIfInBounds_toArray, List.set_cons_zero, List.set_cons_succ]
    refine wpAnyH_take (i := 19) (v := .pointer (some ⟨w.heap.size, 1, none⟩)) rfl (by kernel_rfl) (by kernel_rfl) (by kernel_rfl) (fun _ _ _ h => h) (Or.inl ⟨by rfl, ?_⟩) hHeld ?_
    · intro w' hSw
      obtain ⟨s0, s1, s2, s3, s4, s5⟩ := hSw
      go_simp
    try simp only [List.getElem_toArray, List.getElem_cons_succ, List.getElem_cons_zero, Act.put, List.setIfInBounds_toArray, List.set_cons_zero, List.set_cons_succ]
    refine wpAnyH_take (i := 20) (v := .int .i64 (D : Int)) rfl (by kernel_rfl) (by kernel_rfl) (by kernel_rfl) (fun _ _ _ h => h) (Or.inl ⟨by rfl, ?_⟩) hHeld ?_
    · intro w' hSw
      obtain ⟨s0, s1, s2, s3, s4, s5⟩ := hSw
      go_simp
    try simp only [List.getElem_toArray, List.getElem_cons_succ, List.getElem_cons_zero, Act.put, List.setIfInBounds_toArray, List.set_cons_zero, List.set_cons_succ]
    refine wpAnyH_take (i := 21) (v := .agg #[.int .i64 (D : Int), .int .i64 1]) rfl (by kernel_rfl) (by kernel_rfl) (by kernel_rfl) (fun _ _ _ h => h) (Or.inl ⟨by rfl, ?_⟩) hHeld ?_
    · intro w' hSw
      obtain ⟨s0, s1, s2, s3, s4, s5⟩ := hSw
      go_simp
    try simp only [List.getElem_toArray, List.getElem_cons_succ, List.getElem_cons_zero, Act.put, List.setIfInBounds_toArray, List.set_cons_zero, List.set_cons_succ]
    refine wpAnyH_take (i := 22) (v := .pointer (some ⟨w.heap.size, 0, none⟩)) rfl (by kernel_rfl) (by kernel_rfl) (by kernel_rfl) (fun _ _ _ h => h) (Or.inl ⟨by rfl, ?_⟩) hHeld ?_
    · intro w' hSw
      obtain ⟨s0, s1, s2, s3, s4, s5⟩ := hSw
      go_simp
    try simp only [List.getElem_toArray, List.getElem_cons_succ, List.getElem_cons_zero, Act.put, List.setIfInBounds_toArray, List.set_cons_zero, List.set_cons_succ]
    refine wpAnyH_take (i := 23) (v := .int .i64 k) rfl (by kernel_rfl) (by kernel_rfl) (by kernel_rfl) (fun _ _ _ h => h) (Or.inl ⟨by rfl, ?_⟩) hHeld ?_
    · intro w' hSw
      obtain ⟨s0, s1, s2, s3, s4, s5⟩ := hSw
      go_simp
    try simp only [List.getElem_toArray, List.getElem_cons_succ, List.getElem_cons_zero, Act.put, List.setIfInBounds_toArray, List.set_cons_zero, List.set_cons_succ]
    refine wpAnyH_ready (rs := [24]) (by kernel_rfl) (by simp) ?_
    refine AllReadyH.cons rfl (fun K hK => ?_) AllReadyH.nil
    go_simp
    refine (HLA.out _).mono ?_
    rintro e v1 ⟨rfl, rfl⟩
    skip
    refine hK.out _ _ ⟨a0, a1, a2, a3, a4, a5⟩ (fun hHeld => ?_)
    clear hK K
    try simp only [List.getElem_toArray, List.getElem_cons_succ, List.getElem_cons_zero, Act.put, List.setIfInBounds_toArray, List.set_cons_zero, List.set_cons_succ]
    refine wpAnyH_take (i := 25) (v := .agg #[.int .i64 lastv, .int .i64 1]) rfl (by kernel_rfl) (by kernel_rfl) (by kernel_rfl) (fun _ _ _ h => h) (Or.inl ⟨by rfl, ?_⟩) hHeld ?_
    · intro w' hSw
      obtain ⟨s0, s1, s2, s3, s4, s5⟩ := hSw
      go_simp
    try simp only [List.getElem_toArray, List.getElem_cons_succ, List.getElem_cons_zero, Act.put, List.setIfInBounds_toArray, List.set_cons_zero, List.set_cons_succ]
    refine wpAnyH_ready (rs := [26]) (by kernel_rfl) (by simp) ?_
    refine AllReadyH.cons rfl (fun K hK => ?_) AllReadyH.nil
    go_simp
    have AX : Hid (Bx (W1.drew.alloc (.cells #[.int .i64 0, .int .i64 1, .int .i64 lst, .int .i64 1, .int .i64 srt, .int .i64 1, .int .i64 0, .int .i64 2, .int .i64 (cn : Int), .int .i64 2, .int .i64 cbt, .int .i64 1, .int .i64 0, .int .i64 4, .int .i64 (Wd : Int), .int .i64 2, .int .i64 (Hi : Int), .int .i64 2, .int .i64 (D : Int), .int .i64 1, .int .i64 lastv, .int .i64 1] 40)) w.heap.size (.int .i64 k) (.int .i64 (D : Int)) (.int .i64 (Wd : Int)) (.int .i64 (Hi : Int)) (.slice ca cn cc) (.slice pa pn pc)) := (HBX1.out.kept (Below.refl _ _).drew).kept ((Below.refl _ _).alloc (Nat.le_refl _) _)
    have HF2 : Hid (Bits2 (W1.drew.alloc (.cells #[.int .i64 0, .int .i64 1, .int .i64 lst, .int .i64 1, .int .i64 srt, .int .i64 1, .int .i64 0, .int .i64 2, .int .i64 (cn : Int), .int .i64 2, .int .i64 cbt, .int .i64 1, .int .i64 0, .int .i64 4, .int .i64 (Wd : Int), .int .i64 2, .int .i64 (Hi : Int), .int .i64 2, .int .i64 (D : Int), .int .i64 1, .int .i64 lastv, .int .i64 1] 40)) (some ⟨W1.heap.size, 0, none⟩) [(0, 1), (lst, 1), (srt, 1), (0, 2), ((cn : Int), 2), (cbt, 1), (0, 4), ((Wd : Int), 2), ((Hi : Int), 2), ((D : Int), 1), (lastv, 1)]) := bits2_new W1.drew [(0, 1), (lst, 1), (srt, 1), (0, 2), ((cn : Int), 2), (cbt, 1), (0, 4), ((Wd : Int), 2), ((Hi : Int), 2), ((D : Int), 1), (lastv, 1)] 40
    have BX : Hid (Below w.heap.size w (W1.drew.alloc (.cells #[.int .i64 0, .int .i64 1, .int .i64 lst, .int .i64 1, .int .i64 srt, .int .i64 1, .int .i64 0, .int .i64 2, .int .i64 (cn : Int), .int .i64 2, .int .i64 cbt, .int .i64 1, .int .i64 0, .int .i64 4, .int .i64 (Wd : Int), .int .i64 2, .int .i64 (Hi : Int), .int .i64 2, .int .i64 (D : Int), .int .i64 1, .int .i64 lastv, .int .i64 1] 40))) := (HB1.out.drew).alloc (by have := HB1.out.size; exact this) _
    obtain ⟨_, x0, x1, x2, x3, x4, x5⟩ := AX.out
    refine hK.out _ _ ⟨x0, x1, x2, x3, x4, x5⟩ (fun hHeld => ?_)
    clear hK K
    try simp only [List.getElem_toArray, List.getElem_cons_succ, List.getElem_cons_zero, Act.put, List.setIfInBounds_toArray, List.set_cons_zero, List.set_cons_succ]
    refine wpAnyH_ready (rs := [27]) (by kernel_rfl) (by simp) ?_
    refine AllReadyH.cons rfl (fun K hK => ?_) AllReadyH.nil
    go_simp
    refine ((HFT.out W1.heap.size _ HF2.out)).mono ?_
    rintro e v2 ⟨rfl, b2⟩
    have A2 : Hid (Bx v2 w.heap.size (.int .i64 k) (.int .i64 (D : Int)) (.int .i64 (Wd : Int)) (.int .i64 (Hi : Int)) (.slice ca cn cc) (.slice pa pn pc)) := AX.out.kept b2
    have B2 : Hid (Below w.heap.size w v2) := BX.out.trans (b2.mono BX.out.size)
    obtain ⟨_, y0, y1, y2, y3, y4, y5⟩ := A2.out
    refine hK.out _ _ ⟨y0, y1, y2, y3, y4, y5⟩ (fun hHeld => ?_)
    clear hK K
    try simp only [List.getElem_toArray, List.getElem_cons_succ, List.getElem_cons_zero, Act.put, List.setIfInBounds_toArray, List.set_cons_zero, List.set_cons_succ]
    refine wpAnyH_take (i := 28) (v := .string ⟨T1.toArray⟩) rfl (by kernel_rfl) (by kernel_rfl) (by kernel_rfl) (fun _ _ _ h => h) (Or.inl ⟨by rfl, ?_⟩) hHeld ?_
    · intro w' hSw
      obtain ⟨s0, s1, s2, s3, s4, s5⟩ := hSw
      go_simp
    try simp only [List.getElem_toArray, List.getElem_cons_succ, List.getElem_cons_zero, Act.put, List.setIfInBounds_toArray, List.set_cons_zero, List.set_cons_succ]
    refine wpAnyH_done (by kernel_rfl) ?_ _
    try simp only [List.getElem_toArray, List.getElem_cons_succ, List.getElem_cons_zero, Act.put, List.setIfInBounds_toArray, List.set_cons_zero, List.set_cons_succ]
    clear hHeld a0 a1 a2 a3 a4 a5 x0 x1 x2 x3 x4 x5 AX BX HF2 b2 HBX1 HB1 HFT HLA HTL HS
    go_wp2_with fail
    refine wp_region_held_drew (S := fun w' => w'.cell? ⟨w.heap.size, 0, none⟩ = some (.int .i64 k) ∧ w'.cell? ⟨w.heap.size, 1, none⟩ = some (.int .i64 (D : Int)) ∧ w'.cell? ⟨w.heap.size, 2, none⟩ = some (.int .i64 (Wd : Int)) ∧ w'.cell? ⟨w.heap.size, 3, none⟩ = some (.int .i64 (Hi : Int)) ∧ w'.cell? ⟨w.heap.size, 4, none⟩ = some (.slice ca cn cc) ∧ w'.cell? ⟨w.heap.size, 5, none⟩ = some (.slice pa pn pc)) (by kernel_rfl) ⟨y0, y1, y2, y3, y4, y5⟩ (fun hHeld => ?_)
    refine wpAnyH_take (i := 0) (v := .string ⟨T1.toArray⟩) rfl (by kernel_rfl) (by kernel_rfl) (by kernel_rfl) (fun _ _ _ h => h) (Or.inl ⟨by rfl, ?_⟩) hHeld ?_
    · intro w' hSw
      obtain ⟨s0, s1, s2, s3, s4, s5⟩ := hSw
      go_simp
    try simp only [List.getElem_toArray, List.getElem_cons_succ, List.getElem_cons_zero, Act.put, List.setIfInBounds_toArray, List.set_cons_zero, List.set_cons_succ]
    refine wpAnyH_take (i := 1) (v := .pointer (some ⟨w.heap.size, 4, none⟩)) rfl (by kernel_rfl) (by kernel_rfl) (by kernel_rfl) (fun _ _ _ h => h) (Or.inl ⟨by rfl, ?_⟩) hHeld ?_
    · intro w' hSw
      obtain ⟨s0, s1, s2, s3, s4, s5⟩ := hSw
      go_simp
    try simp only [List.getElem_toArray, List.getElem_cons_succ, List.getElem_cons_zero, Act.put, List.setIfInBounds_toArray, List.set_cons_zero, List.set_cons_succ]
    refine wpAnyH_take (i := 2) (v := .slice ca cn cc) rfl (by kernel_rfl) (by kernel_rfl) (by kernel_rfl) (fun _ _ _ h => h) (Or.inl ⟨by rfl, ?_⟩) hHeld ?_
    · intro w' hSw
      obtain ⟨s0, s1, s2, s3, s4, s5⟩ := hSw
      go_simp
    try simp only [List.getElem_toArray, List.getElem_cons_succ, List.getElem_cons_zero, Act.put, List.setIfInBounds_toArray, List.set_cons_zero, List.set_cons_succ]
    refine wpAnyH_take (i := 5) (v := .agg #[.int .i64 k, .int .i64 (D : Int), .int .i64 (Wd : Int), .int .i64 (Hi : Int), .slice ca cn cc, .slice pa pn pc]) rfl (by kernel_rfl) (by kernel_rfl) (by kernel_rfl) (fun _ _ _ h => h) (Or.inl ⟨by rfl, ?_⟩) hHeld ?_
    · intro w' hSw
      obtain ⟨s0, s1, s2, s3, s4, s5⟩ := hSw
      go_simp
    try simp only [List.getElem_toArray, List.getElem_cons_succ, List.getElem_cons_zero, Act.put, List.setIfInBounds_toArray, List.set_cons_zero, List.set_cons_succ]
    refine wpAnyH_take (i := 6) (v := .bool false) rfl (by kernel_rfl) (by kernel_rfl) (by kernel_rfl) (fun _ _ _ h => h) (Or.inl ⟨by rfl, ?_⟩) hHeld ?_
    · intro w' hSw
      obtain ⟨s0, s1, s2, s3, s4, s5⟩ := hSw
      go_simp
    try simp only [List.getElem_toArray, List.getElem_cons_succ, List.getElem_cons_zero, Act.put, List.setIfInBounds_toArray, List.set_cons_zero, List.set_cons_succ]
    refine wpAnyH_ready (rs := [3]) (by kernel_rfl) (by simp) ?_
    refine AllReadyH.cons rfl (fun K hK => ?_) AllReadyH.nil
    go_simp
    refine (HNT.out v2.drew B2.out.drew).mono ?_
    rintro e v3 ⟨rfl, b3⟩
    have A3 : Hid (Bx v3 w.heap.size (.int .i64 k) (.int .i64 (D : Int)) (.int .i64 (Wd : Int)) (.int .i64 (Hi : Int)) (.slice ca cn cc) (.slice pa pn pc)) := A2.out.kept (box_drew b3)
    have B3 : Hid (Below w.heap.size w v3) := B2.out.trans ((box_drew b3).mono B2.out.size)
    obtain ⟨_, z0, z1, z2, z3, z4, z5⟩ := A3.out
    refine hK.out _ _ ⟨z0, z1, z2, z3, z4, z5⟩ (fun hHeld => ?_)
    clear hK K
    try simp only [List.getElem_toArray, List.getElem_cons_succ, List.getElem_cons_zero, Act.put, List.setIfInBounds_toArray, List.set_cons_zero, List.set_cons_succ]
    refine wpAnyH_take (i := 4) (v := .string (⟨T1.toArray⟩ ++ ⟨T2.toArray⟩)) rfl (by kernel_rfl) (by kernel_rfl) (by kernel_rfl) (fun _ _ _ h => h) (Or.inl ⟨by rfl, ?_⟩) hHeld ?_
    · intro w' hSw
      obtain ⟨s0, s1, s2, s3, s4, s5⟩ := hSw
      go_simp
      all_goals omega
    try simp only [List.getElem_toArray, List.getElem_cons_succ, List.getElem_cons_zero, Act.put, List.setIfInBounds_toArray, List.set_cons_zero, List.set_cons_succ]
    refine wpAnyH_ready (rs := [7]) (by kernel_rfl) (by simp) ?_
    refine AllReadyH.cons rfl (fun K hK => ?_) AllReadyH.nil
    go_simp
    refine (HTD.out v3 B3.out).mono ?_
    rintro e v4 ⟨rfl, b4⟩
    have A4 : Hid (Bx v4 w.heap.size (.int .i64 k) (.int .i64 (D : Int)) (.int .i64 (Wd : Int)) (.int .i64 (Hi : Int)) (.slice ca cn cc) (.slice pa pn pc)) := A3.out.kept b4
    have B4 : Hid (Below w.heap.size w v4) := B3.out.trans (b4.mono B3.out.size)
    obtain ⟨_, q0, q1, q2, q3, q4, q5⟩ := A4.out
    refine hK.out _ _ ⟨q0, q1, q2, q3, q4, q5⟩ (fun hHeld => ?_)
    clear hK K
    try simp only [List.getElem_toArray, List.getElem_cons_succ, List.getElem_cons_zero, Act.put, List.setIfInBounds_toArray, List.set_cons_zero, List.set_cons_succ]
    refine wpAnyH_take (i := 8) (v := .string (⟨T1.toArray⟩ ++ ⟨T2.toArray⟩ ++ ⟨T3.toArray⟩)) rfl (by kernel_rfl) (by kernel_rfl) (by kernel_rfl) (fun _ _ _ h => h) (Or.inl ⟨by rfl, ?_⟩) hHeld ?_
    · intro w' hSw
      obtain ⟨s0, s1, s2, s3, s4, s5⟩ := hSw
      go_simp
      all_goals omega
    try simp only [List.getElem_toArray, List.getElem_cons_succ, List.getElem_cons_zero, Act.put, List.setIfInBounds_toArray, List.set_cons_zero, List.set_cons_succ]
    refine wpAnyH_take (i := 9) (v := .string (⟨T1.toArray⟩ ++ ⟨T2.toArray⟩ ++ ⟨T3.toArray⟩)) rfl (by kernel_rfl) (by kernel_rfl) (by kernel_rfl) (fun _ _ _ h => h) (Or.inl ⟨by rfl, ?_⟩) hHeld ?_
    · intro w' hSw
      obtain ⟨s0, s1, s2, s3, s4, s5⟩ := hSw
      go_simp
      all_goals omega
    try simp only [List.getElem_toArray, List.getElem_cons_succ, List.getElem_cons_zero, Act.put, List.setIfInBounds_toArray, List.set_cons_zero, List.set_cons_succ]
    refine wpAnyH_done (by kernel_rfl) ?_ _
    try simp only [List.getElem_toArray, List.getElem_cons_succ, List.getElem_cons_zero, Act.put, List.setIfInBounds_toArray, List.set_cons_zero, List.set_cons_succ]
    have BF := B4
    clear hHeld
    go_wp2_with fail
    go_ret
    exact ⟨by rw [← HAPP.out]; rfl, BF.out⟩
  | true =>
    have hsr : srt0 + 8 = srt := by rw [HSR.out]; simp
    clear HSR
    go_wp2_with fail
    refine (HTL.out _).mono ?_
    rintro e w3 ⟨rfl, hw3⟩
    have hw3' := hw3.symm
    subst hw3'
    go_wp2_with fail
    refine wp_region_held_drew (S := fun w' => w'.cell? ⟨w.heap.size, 0, none⟩ = some (.int .i64 k) ∧ w'.cell? ⟨w.heap.size, 1, none⟩ = some (.int .i64 (D : Int)) ∧ w'.cell? ⟨w.heap.size, 2, none⟩ = some (.int .i64 (Wd : Int)) ∧ w'.cell? ⟨w.heap.size, 3, none⟩ = some (.int .i64 (Hi : Int)) ∧ w'.cell? ⟨w.heap.size, 4, none⟩ = some (.slice ca cn cc) ∧ w'.cell? ⟨w.heap.size, 5, none⟩ = some (.slice pa pn pc)) (by kernel_rfl) ⟨a0, a1, a2, a3, a4, a5⟩ (fun hHeld => ?_)
    refine wpAnyH_take (i := 0) (v := .agg #[.int .i64 0, .int .i64 1]) rfl (by kernel_rfl) (by kernel_rfl) (by kernel_rfl) (fun _ _ _ h => h) (Or.inl ⟨by rfl, ?_⟩) hHeld ?_
    · intro w' hSw
      obtain ⟨s0, s1, s2, s3, s4, s5⟩ := hSw
      go_simp
    try simp only [List.getElem_toArray, List.getElem_cons_succ, List.getElem_cons_zero, Act.put, List.setIfInBounds_toArray, List.set_cons_zero, List.set_cons_succ]
    refine wpAnyH_take (i := 1) (v := .int .i64 lst) rfl (by kernel_rfl) (by kernel_rfl) (by kernel_rfl) (fun _ _ _ h => h) (Or.inl ⟨by rfl, ?_⟩) hHeld ?_
    · intro w' hSw
      obtain ⟨s0, s1, s2, s3, s4, s5⟩ := hSw
      go_simp
    try simp only [List.getElem_toArray, List.getElem_cons_succ, List.getElem_cons_zero, Act.put, List.setIfInBounds_toArray, List.set_cons_zero, List.set_cons_succ]
    refine wpAnyH_take (i := 2) (v := .agg #[.int .i64 lst, .int .i64 1]) rfl (by kernel_rfl) (by kernel_rfl) (by kernel_rfl) (fun _ _ _ h => h) (Or.inl ⟨by rfl, ?_⟩) hHeld ?_
    · intro w' hSw
      obtain ⟨s0, s1, s2, s3, s4, s5⟩ := hSw
      go_simp
    try simp only [List.getElem_toArray, List.getElem_cons_succ, List.getElem_cons_zero, Act.put, List.setIfInBounds_toArray, List.set_cons_zero, List.set_cons_succ]
    refine wpAnyH_take (i := 3) (v := .int .i64 srt) rfl (by kernel_rfl) (by kernel_rfl) (by kernel_rfl) (fun _ _ _ h => h) (Or.inl ⟨by rfl, ?_⟩) hHeld ?_
    · intro w' hSw
      obtain ⟨s0, s1, s2, s3, s4, s5⟩ := hSw
      go_simp
    try simp only [List.getElem_toArray, List.getElem_cons_succ, List.getElem_cons_zero, Act.put, List.setIfInBounds_toArray, List.set_cons_zero, List.set_cons_succ]
    refine wpAnyH_take (i := 4) (v := .agg #[.int .i64 srt, .int .i64 1]) rfl (by kernel_rfl) (by kernel_rfl) (by kernel_rfl) (fun _ _ _ h => h) (Or.inl ⟨by rfl, ?_⟩) hHeld ?_
    · intro w' hSw
      obtain ⟨s0, s1, s2, s3, s4, s5⟩ := hSw
      go_simp
    try simp only [List.getElem_toArray, List.getElem_cons_succ, List.getElem_cons_zero, Act.put, List.setIfInBounds_toArray, List.set_cons_zero, List.set_cons_succ]
    refine wpAnyH_take (i := 5) (v := .agg #[.int .i64 0, .int .i64 2]) rfl (by kernel_rfl) (by kernel_rfl) (by kernel_rfl) (fun _ _ _ h => h) (Or.inl ⟨by rfl, ?_⟩) hHeld ?_
    · intro w' hSw
      obtain ⟨s0, s1, s2, s3, s4, s5⟩ := hSw
      go_simp
    try simp only [List.getElem_toArray, List.getElem_cons_succ, List.getElem_cons_zero, Act.put, List.setIfInBounds_toArray, List.set_cons_zero, List.set_cons_succ]
    refine wpAnyH_take (i := 6) (v := .pointer (some ⟨w.heap.size, 4, none⟩)) rfl (by kernel_rfl) (by kernel_rfl) (by kernel_rfl) (fun _ _ _ h => h) (Or.inl ⟨by rfl, ?_⟩) hHeld ?_
    · intro w' hSw
      obtain ⟨s0, s1, s2, s3, s4, s5⟩ := hSw
      go_simp
    try simp only [List.getElem_toArray, List.getElem_cons_succ, List.getElem_cons_zero, Act.put, List.setIfInBounds_toArray, List.set_cons_zero, List.set_cons_succ]
    refine wpAnyH_take (i := 7) (v := .slice ca cn cc) rfl (by kernel_rfl) (by kernel_rfl) (by kernel_rfl) (fun _ _ _ h => h) (Or.inl ⟨by rfl, ?_⟩) hHeld ?_
    · intro w' hSw
      obtain ⟨s0, s1, s2, s3, s4, s5⟩ := hSw
      go_simp
    try simp only [List.getElem_toArray, List.getElem_cons_succ, List.getElem_cons_zero, Act.put, List.setIfInBounds_toArray, List.set_cons_zero, List.set_cons_succ]
    refine wpAnyH_take (i := 8) (v := .int .i64 (cn : Int)) rfl (by kernel_rfl) (by kernel_rfl) (by kernel_rfl) (fun _ _ _ h => h) (Or.inl ⟨by rfl, ?_⟩) hHeld ?_
    · intro w' hSw
      obtain ⟨s0, s1, s2, s3, s4, s5⟩ := hSw
      go_simp
    try simp only [List.getElem_toArray, List.getElem_cons_succ, List.getElem_cons_zero, Act.put, List.setIfInBounds_toArray, List.set_cons_zero, List.set_cons_succ]
    refine wpAnyH_take (i := 9) (v := .agg #[.int .i64 (cn : Int), .int .i64 2]) rfl (by kernel_rfl) (by kernel_rfl) (by kernel_rfl) (fun _ _ _ h => h) (Or.inl ⟨by rfl, ?_⟩) hHeld ?_
    · intro w' hSw
      obtain ⟨s0, s1, s2, s3, s4, s5⟩ := hSw
      go_simp
    try simp only [List.getElem_toArray, List.getElem_cons_succ, List.getElem_cons_zero, Act.put, List.setIfInBounds_toArray, List.set_cons_zero, List.set_cons_succ]
    refine wpAnyH_take (i := 10) (v := .int .i64 cbt) rfl (by kernel_rfl) (by kernel_rfl) (by kernel_rfl) (fun _ _ _ h => h) (Or.inl ⟨by rfl, ?_⟩) hHeld ?_
    · intro w' hSw
      obtain ⟨s0, s1, s2, s3, s4, s5⟩ := hSw
      go_simp
    try simp only [List.getElem_toArray, List.getElem_cons_succ, List.getElem_cons_zero, Act.put, List.setIfInBounds_toArray, List.set_cons_zero, List.set_cons_succ]
    refine wpAnyH_take (i := 11) (v := .agg #[.int .i64 cbt, .int .i64 1]) rfl (by kernel_rfl) (by kernel_rfl) (by kernel_rfl) (fun _ _ _ h => h) (Or.inl ⟨by rfl, ?_⟩) hHeld ?_
    · intro w' hSw
      obtain ⟨s0, s1, s2, s3, s4, s5⟩ := hSw
      go_simp
    try simp only [List.getElem_toArray, List.getElem_cons_succ, List.getElem_cons_zero, Act.put, List.setIfInBounds_toArray, List.set_cons_zero, List.set_cons_succ]
    refine wpAnyH_take (i := 12) (v := .agg #[.int .i64 0, .int .i64 4]) rfl (by kernel_rfl) (by kernel_rfl) (by kernel_rfl) (fun _ _ _ h => h) (Or.inl ⟨by rfl, ?_⟩) hHeld ?_
    · intro w' hSw
      obtain ⟨s0, s1, s2, s3, s4, s5⟩ := hSw
      go_simp
    try simp only [List.getElem_toArray, List.getElem_cons_succ, List.getElem_cons_zero, Act.put, List.setIfInBounds_toArray, List.set_cons_zero, List.set_cons_succ]
    refine wpAnyH_take (i := 13) (v := .pointer (some ⟨w.heap.size, 2, none⟩)) rfl (by kernel_rfl) (by kernel_rfl) (by kernel_rfl) (fun _ _ _ h => h) (Or.inl ⟨by rfl, ?_⟩) hHeld ?_
    · intro w' hSw
      obtain ⟨s0, s1, s2, s3, s4, s5⟩ := hSw
      go_simp
    try simp only [List.getElem_toArray, List.getElem_cons_succ, List.getElem_cons_zero, Act.put, List.setIfInBounds_toArray, List.set_cons_zero, List.set_cons_succ]
    refine wpAnyH_take (i := 14) (v := .int .i64 (Wd : Int)) rfl (by kernel_rfl) (by kernel_rfl) (by kernel_rfl) (fun _ _ _ h => h) (Or.inl ⟨by rfl, ?_⟩) hHeld ?_
    · intro w' hSw
      obtain ⟨s0, s1, s2, s3, s4, s5⟩ := hSw
      go_simp
    try simp only [List.getElem_toArray, List.getElem_cons_succ, List.getElem_cons_zero, Act.put, List.setIfInBounds_toArray, List.set_cons_zero, List.set_cons_succ]
    refine wpAnyH_take (i := 15) (v := .agg #[.int .i64 (Wd : Int), .int .i64 2]) rfl (by kernel_rfl) (by kernel_rfl) (by kernel_rfl) (fun _ _ _ h => h) (Or.inl ⟨by rfl, ?_⟩) hHeld ?_
    · intro w' hSw
      obtain ⟨s0, s1, s2, s3, s4, s5⟩ := hSw
      go_simp
    try simp only [List.getElem_toArray, List.getElem_cons_succ, List.getElem_cons_zero, Act.put, List.setIfInBounds_toArray, List.set_cons_zero, List.set_cons_succ]
    refine wpAnyH_take (i := 16) (v := .pointer (some ⟨w.heap.size, 3, none⟩)) rfl (by kernel_rfl) (by kernel_rfl) (by kernel_rfl) (fun _ _ _ h => h) (Or.inl ⟨by rfl, ?_⟩) hHeld ?_
    · intro w' hSw
      obtain ⟨s0, s1, s2, s3, s4, s5⟩ := hSw
      go_simp
    try simp only [List.getElem_toArray, List.getElem_cons_succ, List.getElem_cons_zero, Act.put, List.setIfInBounds_toArray, List.set_cons_zero, List.set_cons_succ]
    refine wpAnyH_take (i := 17) (v := .int .i64 (Hi : Int)) rfl (by kernel_rfl) (by kernel_rfl) (by kernel_rfl) (fun _ _ _ h => h) (Or.inl ⟨by rfl, ?_⟩) hHeld ?_
    · intro w' hSw
      obtain ⟨s0, s1, s2, s3, s4, s5⟩ := hSw
      go_simp
    try simp only [List.getElem_toArray, List.getElem_cons_succ, List.getElem_cons_zero, Act.put, List.setIfInBounds_toArray, List.set_cons_zero, List.set_cons_succ]
    refine wpAnyH_take (i := 18) (v := .agg #[.int .i64 (Hi : Int), .int .i64 2]) rfl (by kernel_rfl) (by kernel_rfl) (by kernel_rfl) (fun _ _ _ h => h) (Or.inl ⟨by rfl, ?_⟩) hHeld ?_
    · intro w' hSw
      obtain ⟨s0, s1, s2, s3, s4, s5⟩ := hSw
      go_simp
    try simp only [List.getElem_toArray, List.getElem_cons_succ, List.getElem_cons_zero, Act.put, List.setIfInBounds_toArray, List.set_cons_zero, List.set_cons_succ]
    refine wpAnyH_take (i := 19) (v := .pointer (some ⟨w.heap.size, 1, none⟩)) rfl (by kernel_rfl) (by kernel_rfl) (by kernel_rfl) (fun _ _ _ h => h) (Or.inl ⟨by rfl, ?_⟩) hHeld ?_
    · intro w' hSw
      obtain ⟨s0, s1, s2, s3, s4, s5⟩ := hSw
      go_simp
    try simp only [List.getElem_toArray, List.getElem_cons_succ, List.getElem_cons_zero, Act.put, List.setIfInBounds_toArray, List.set_cons_zero, List.set_cons_succ]
    refine wpAnyH_take (i := 20) (v := .int .i64 (D : Int)) rfl (by kernel_rfl) (by kernel_rfl) (by kernel_rfl) (fun _ _ _ h => h) (Or.inl ⟨by rfl, ?_⟩) hHeld ?_
    · intro w' hSw
      obtain ⟨s0, s1, s2, s3, s4, s5⟩ := hSw
      go_simp
    try simp only [List.getElem_toArray, List.getElem_cons_succ, List.getElem_cons_zero, Act.put, List.setIfInBounds_toArray, List.set_cons_zero, List.set_cons_succ]
    refine wpAnyH_take (i := 21) (v := .agg #[.int .i64 (D : Int), .int .i64 1]) rfl (by kernel_rfl) (by kernel_rfl) (by kernel_rfl) (fun _ _ _ h => h) (Or.inl ⟨by rfl, ?_⟩) hHeld ?_
    · intro w' hSw
      obtain ⟨s0, s1, s2, s3, s4, s5⟩ := hSw
      go_simp
    try simp only [List.getElem_toArray, List.getElem_cons_succ, List.getElem_cons_zero, Act.put, List.setIfInBounds_toArray, List.set_cons_zero, List.set_cons_succ]
    refine wpAnyH_take (i := 22) (v := .pointer (some ⟨w.heap.size, 0, none⟩)) rfl (by kernel_rfl) (by kernel_rfl) (by kernel_rfl) (fun _ _ _ h => h) (Or.inl ⟨by rfl, ?_⟩) hHeld ?_
    · intro w' hSw
      obtain ⟨s0, s1, s2, s3, s4, s5⟩ := hSw
      go_simp
    try simp only [List.getElem_toArray, List.getElem_cons_succ, List.getElem_cons_zero, Act.put, List.setIfInBounds_toArray, List.set_cons_zero, List.set_cons_succ]
    refine wpAnyH_take (i := 23) (v := .int .i64 k) rfl (by kernel_rfl) (by kernel_rfl) (by kernel_rfl) (fun _ _ _ h => h) (Or.inl ⟨by rfl, ?_⟩) hHeld ?_
    · intro w' hSw
      obtain ⟨s0, s1, s2, s3, s4, s5⟩ := hSw
      go_simp
    try simp only [List.getElem_toArray, List.getElem_cons_succ, List.getElem_cons_zero, Act.put, List.setIfInBounds_toArray, List.set_cons_zero, List.set_cons_succ]
    refine wpAnyH_ready (rs := [24]) (by kernel_rfl) (by simp) ?_
    refine AllReadyH.cons rfl (fun K hK => ?_) AllReadyH.nil
    go_simp
    refine (HLA.out _).mono ?_
    rintro e v1 ⟨rfl, rfl⟩
    skip
    refine hK.out _ _ ⟨a0, a1, a2, a3, a4, a5⟩ (fun hHeld => ?_)
    clear hK K
    try simp only [List.getElem_toArray, List.getElem_cons_succ, List.getElem_cons_zero, Act.put, List.setIfInBounds_toArray, List.set_cons_zero, List.set_cons_succ]
    refine wpAnyH_take (i := 25) (v := .agg #[.int .i64 lastv, .int .i64 1]) rfl (by kernel_rfl) (by kernel_rfl) (by kernel_rfl) (fun _ _ _ h => h) (Or.inl ⟨by rfl, ?_⟩) hHeld ?_
    · intro w' hSw
      obtain ⟨s0, s1, s2, s3, s4, s5⟩ := hSw
      go_simp
    try simp only [List.getElem_toArray, List.getElem_cons_succ, List.getElem_cons_zero, Act.put, List.setIfInBounds_toArray, List.set_cons_zero, List.set_cons_succ]
    refine wpAnyH_ready (rs := [26]) (by kernel_rfl) (by simp) ?_
    refine AllReadyH.cons rfl (fun K hK => ?_) AllReadyH.nil
    go_simp
    have AX : Hid (Bx (W1.drew.alloc (.cells #[.int .i64 0, .int .i64 1, .int .i64 lst, .int .i64 1, .int .i64 srt, .int .i64 1, .int .i64 0, .int .i64 2, .int .i64 (cn : Int), .int .i64 2, .int .i64 cbt, .int .i64 1, .int .i64 0, .int .i64 4, .int .i64 (Wd : Int), .int .i64 2, .int .i64 (Hi : Int), .int .i64 2, .int .i64 (D : Int), .int .i64 1, .int .i64 lastv, .int .i64 1] 40)) w.heap.size (.int .i64 k) (.int .i64 (D : Int)) (.int .i64 (Wd : Int)) (.int .i64 (Hi : Int)) (.slice ca cn cc) (.slice pa pn pc)) := (HBX1.out.kept (Below.refl _ _).drew).kept ((Below.refl _ _).alloc (Nat.le_refl _) _)
    have HF2 : Hid (Bits2 (W1.drew.alloc (.cells #[.int .i64 0, .int .i64 1, .int .i64 lst, .int .i64 1, .int .i64 srt, .int .i64 1, .int .i64 0, .int .i64 2, .int .i64 (cn : Int), .int .i64 2, .int .i64 cbt, .int .i64 1, .int .i64 0, .int .i64 4, .int .i64 (Wd : Int), .int .i64 2, .int .i64 (Hi : Int), .int .i64 2, .int .i64 (D : Int), .int .i64 1, .int .i64 lastv, .int .i64 1] 40)) (some ⟨W1.heap.size, 0, none⟩) [(0, 1), (lst, 1), (srt, 1), (0, 2), ((cn : Int), 2), (cbt, 1), (0, 4), ((Wd : Int), 2), ((Hi : Int), 2), ((D : Int), 1), (lastv, 1)]) := bits2_new W1.drew [(0, 1), (lst, 1), (srt, 1), (0, 2), ((cn : Int), 2), (cbt, 1), (0, 4), ((Wd : Int), 2), ((Hi : Int), 2), ((D : Int), 1), (lastv, 1)] 40
    have BX : Hid (Below w.heap.size w (W1.drew.alloc (.cells #[.int .i64 0, .int .i64 1, .int .i64 lst, .int .i64 1, .int .i64 srt, .int .i64 1, .int .i64 0, .int .i64 2, .int .i64 (cn : Int), .int .i64 2, .int .i64 cbt, .int .i64 1, .int .i64 0, .int .i64 4, .int .i64 (Wd : Int), .int .i64 2, .int .i64 (Hi : Int), .int .i64 2, .int .i64 (D : Int), .int .i64 1, .int .i64 lastv, .int .i64 1] 40))) := (HB1.out.drew).alloc (by have := HB1.out.size; exact this) _
    obtain ⟨_, x0, x1, x2, x3, x4, x5⟩ := AX.out
    refine hK.out _ _ ⟨x0, x1, x2, x3, x4, x5⟩ (fun hHeld => ?_)
    clear hK K
    try simp only [List.getElem_toArray, List.getElem_cons_succ, List.getElem_cons_zero, Act.put, List.setIfInBounds_toArray, List.set_cons_zero, List.set_cons_succ]
    refine wpAnyH_ready (rs := [27]) (by kernel_rfl) (by simp) ?_
    refine AllReadyH.cons rfl (fun K hK => ?_) AllReadyH.nil
    go_simp
    refine ((HFT.out W1.heap.size _ HF2.out)).mono ?_
    rintro e v2 ⟨rfl, b2⟩
    have A2 : Hid (Bx v2 w.heap.size (.int .i64 k) (.int .i64 (D : Int)) (.int .i64 (Wd : Int)) (.int .i64 (Hi : Int)) (.slice ca cn cc) (.slice pa pn pc)) := AX.out.kept b2
    have B2 : Hid (Below w.heap.size w v2) := BX.out.trans (b2.mono BX.out.size)
    obtain ⟨_, y0, y1, y2, y3, y4, y5⟩ := A2.out
    refine hK.out _ _ ⟨y0, y1, y2, y3, y4, y5⟩ (fun hHeld => ?_)
    clear hK K
    try simp only [List.getElem_toArray, List.getElem_cons_succ, List.getElem_cons_zero, Act.put, List.setIfInBounds_toArray, List.set_cons_zero, List.set_cons_succ]
    refine wpAnyH_take (i := 28) (v := .string ⟨T1.toArray⟩) rfl (by kernel_rfl) (by kernel_rfl) (by kernel_rfl) (fun _ _ _ h => h) (Or.inl ⟨by rfl, ?_⟩) hHeld ?_
    · intro w' hSw
      obtain ⟨s0, s1, s2, s3, s4, s5⟩ := hSw
      go_simp
    try simp only [List.getElem_toArray, List.getElem_cons_succ, List.getElem_cons_zero, Act.put, List.setIfInBounds_toArray, List.set_cons_zero, List.set_cons_succ]
    refine wpAnyH_done (by kernel_rfl) ?_ _
    try simp only [List.getElem_toArray, List.getElem_cons_succ, List.getElem_cons_zero, Act.put, List.setIfInBounds_toArray, List.set_cons_zero, List.set_cons_succ]
    clear hHeld a0 a1 a2 a3 a4 a5 x0 x1 x2 x3 x4 x5 AX BX HF2 b2 HBX1 HB1 HFT HLA HTL HS
    go_wp2_with fail
    refine wp_region_held_drew (S := fun w' => w'.cell? ⟨w.heap.size, 0, none⟩ = some (.int .i64 k) ∧ w'.cell? ⟨w.heap.size, 1, none⟩ = some (.int .i64 (D : Int)) ∧ w'.cell? ⟨w.heap.size, 2, none⟩ = some (.int .i64 (Wd : Int)) ∧ w'.cell? ⟨w.heap.size, 3, none⟩ = some (.int .i64 (Hi : Int)) ∧ w'.cell? ⟨w.heap.size, 4, none⟩ = some (.slice ca cn cc) ∧ w'.cell? ⟨w.heap.size, 5, none⟩ = some (.slice pa pn pc)) (by kernel_rfl) ⟨y0, y1, y2, y3, y4, y5⟩ (fun hHeld => ?_)
    refine wpAnyH_take (i := 0) (v := .string ⟨T1.toArray⟩) rfl (by kernel_rfl) (by kernel_rfl) (by kernel_rfl) (fun _ _ _ h => h) (Or.inl ⟨by rfl, ?_⟩) hHeld ?_
    · intro w' hSw
      obtain ⟨s0, s1, s2, s3, s4, s5⟩ := hSw
      go_simp
    try simp only [List.getElem_toArray, List.getElem_cons_succ, List.getElem_cons_zero, Act.put, List.setIfInBounds_toArray, List.set_cons_zero, List.set_cons_succ]
    refine wpAnyH_take (i := 1) (v := .pointer (some ⟨w.heap.size, 4, none⟩)) rfl (by kernel_rfl) (by kernel_rfl) (by kernel_rfl) (fun _ _ _ h => h) (Or.inl ⟨by rfl, ?_⟩) hHeld ?_
    · intro w' hSw
      obtain ⟨s0, s1, s2, s3, s4, s5⟩ := hSw
      go_simp
    try simp only [List.getElem_toArray, List.getElem_cons_succ, List.getElem_cons_zero, Act.put, List.setIfInBounds_toArray, List.set_cons_zero, List.set_cons_succ]
    refine wpAnyH_take (i := 2) (v := .slice ca cn cc) rfl (by kernel_rfl) (by kernel_rfl) (by kernel_rfl) (fun _ _ _ h => h) (Or.inl ⟨by rfl, ?_⟩) hHeld ?_
    · intro w' hSw
      obtain ⟨s0, s1, s2, s3, s4, s5⟩ := hSw
      go_simp
    try simp only [List.getElem_toArray, List.getElem_cons_succ, List.getElem_cons_zero, Act.put, List.setIfInBounds_toArray, List.set_cons_zero, List.set_cons_succ]
    refine wpAnyH_take (i := 5) (v := .agg #[.int .i64 k, .int .i64 (D : Int), .int .i64 (Wd : Int), .int .i64 (Hi : Int), .slice ca cn cc, .slice pa pn pc]) rfl (by kernel_rfl) (by kernel_rfl) (by kernel_rfl) (fun _ _ _ h => h) (Or.inl ⟨by rfl, ?_⟩) hHeld ?_
    · intro w' hSw
      obtain ⟨s0, s1, s2, s3, s4, s5⟩ := hSw
      go_simp
    try simp only [List.getElem_toArray, List.getElem_cons_succ, List.getElem_cons_zero, Act.put, List.setIfInBounds_toArray, List.set_cons_zero, List.set_cons_succ]
    refine wpAnyH_take (i := 6) (v := .bool true) rfl (by kernel_rfl) (by kernel_rfl) (by kernel_rfl) (fun _ _ _ h => h) (Or.inl ⟨by rfl, ?_⟩) hHeld ?_
    · intro w' hSw
      obtain ⟨s0, s1, s2, s3, s4, s5⟩ := hSw
      go_simp
    try simp only [List.getElem_toArray, List.getElem_cons_succ, List.getElem_cons_zero, Act.put, List.setIfInBounds_toArray, List.set_cons_zero, List.set_cons_succ]
    refine wpAnyH_ready (rs := [3]) (by kernel_rfl) (by simp) ?_
    refine AllReadyH.cons rfl (fun K hK => ?_) AllReadyH.nil
    go_simp
    refine (HNT.out v2.drew B2.out.drew).mono ?_
    rintro e v3 ⟨rfl, b3⟩
    have A3 : Hid (Bx v3 w.heap.size (.int .i64 k) (.int .i64 (D : Int)) (.int .i64 (Wd : Int)) (.int .i64 (Hi : Int)) (.slice ca cn cc) (.slice pa pn pc)) := A2.out.kept (box_drew b3)
    have B3 : Hid (Below w.heap.size w v3) := B2.out.trans ((box_drew b3).mono B2.out.size)
    obtain ⟨_, z0, z1, z2, z3, z4, z5⟩ := A3.out
    refine hK.out _ _ ⟨z0, z1, z2, z3, z4, z5⟩ (fun hHeld => ?_)
    clear hK K
    try simp only [List.getElem_toArray, List.getElem_cons_succ, List.getElem_cons_zero, Act.put, List.setIfInBounds_toArray, List.set_cons_zero, List.set_cons_succ]
    refine wpAnyH_take (i := 4) (v := .string (⟨T1.toArray⟩ ++ ⟨T2.toArray⟩)) rfl (by kernel_rfl) (by kernel_rfl) (by kernel_rfl) (fun _ _ _ h => h) (Or.inl ⟨by rfl, ?_⟩) hHeld ?_
    · intro w' hSw
      obtain ⟨s0, s1, s2, s3, s4, s5⟩ := hSw
      go_simp
      all_goals omega
    try simp only [List.getElem_toArray, List.getElem_cons_succ, List.getElem_cons_zero, Act.put, List.setIfInBounds_toArray, List.set_cons_zero, List.set_cons_succ]
    refine wpAnyH_ready (rs := [7]) (by kernel_rfl) (by simp) ?_
    refine AllReadyH.cons rfl (fun K hK => ?_) AllReadyH.nil
    go_simp
    refine (HTD.out v3 B3.out).mono ?_
    rintro e v4 ⟨rfl, b4⟩
    have A4 : Hid (Bx v4 w.heap.size (.int .i64 k) (.int .i64 (D : Int)) (.int .i64 (Wd : Int)) (.int .i64 (Hi : Int)) (.slice ca cn cc) (.slice pa pn pc)) := A3.out.kept b4
    have B4 : Hid (Below w.heap.size w v4) := B3.out.trans (b4.mono B3.out.size)
    obtain ⟨_, q0, q1, q2, q3, q4, q5⟩ := A4.out
    refine hK.out _ _ ⟨q0, q1, q2, q3, q4, q5⟩ (fun hHeld => ?_)
    clear hK K
    try simp only [List.getElem_toArray, List.getElem_cons_succ, List.getElem_cons_zero, Act.put, List.setIfInBounds_toArray, List.set_cons_zero, List.set_cons_succ]
    refine wpAnyH_take (i := 8) (v := .string (⟨T1.toArray⟩ ++ ⟨T2.toArray⟩ ++ ⟨T3.toArray⟩)) rfl (by kernel_rfl) (by kernel_rfl) (by kernel_rfl) (fun _ _ _ h => h) (Or.inl ⟨by rfl, ?_⟩) hHeld ?_
    · intro w' hSw
      obtain ⟨s0, s1, s2, s3, s4, s5⟩ := hSw
      go_simp
      all_goals omega
    try simp only [List.getElem_toArray, List.getElem_cons_succ, List.getElem_cons_zero, Act.put, List.setIfInBounds_toArray, List.set_cons_zero, List.set_cons_succ]
    refine wpAnyH_take (i := 9) (v := .string (⟨T1.toArray⟩ ++ ⟨T2.toArray⟩ ++ ⟨T3.toArray⟩)) rfl (by kernel_rfl) (by kernel_rfl) (by kernel_rfl) (fun _ _ _ h => h) (Or.inl ⟨by rfl, ?_⟩) hHeld ?_
    · intro w' hSw
      obtain ⟨s0, s1, s2, s3, s4, s5⟩ := hSw
      go_simp
      all_goals omega
    try simp only [List.getElem_toArray, List.getElem_cons_succ, List.getElem_cons_zero, Act.put, List.setIfInBounds_toArray, List.set_cons_zero, List.set_cons_succ]
    refine wpAnyH_done (by kernel_rfl) ?_ _
    try simp only [List.getElem_toArray, List.getElem_cons_succ, List.getElem_cons_zero, Act.put, List.setIfInBounds_toArray, List.set_cons_zero, List.set_cons_succ]
    have BF := B4
    clear hHeld
    go_wp2_with fail
    go_ret
    exact ⟨by rw [← HAPP.out]; rfl, BF.out⟩
end Go.Proofs.Ytcahppmnfoopkaa

/- TgaPut of the program at every picture. -/
namespace Go.Proofs.Ytcahppmnfoopkaa
open Go.RowKit

/-- what a TGA of a picture is -/
noncomputable def Tg.ans (k d wd hi : Int) (cs ps : List Int) (runs : Bool) : List UInt8 :=
  if Im.okB k d wd hi cs ps && (Tg.sort k d != 0) then Tg.txt (Tg.head k d.toNat wd.toNat hi.toNat cs.length runs) ++ Rt.txt 3 cs ++ Tg.data (d.toNat / 8) (Tg.pts k ps) runs else []
theorem Tg.ok_open {k d wd hi : Int} {cs ps : List Int} (h : Im.okB k d wd hi cs ps = true) : Im.Ok k d wd hi cs ps := @of_decide_eq_true _ (Classical.propDecidable _) h
/-- the kinds that a TGA can hold -/
theorem Tg.kinds {k : Int} {D : Nat} (hd : (D : Int) ∈ depL k) (hs : Tg.sort k (D : Int) ≠ 0) : (k = 1 ∧ D = 8) ∨ (k = 2 ∧ D = 24) ∨ (k = 3 ∧ D = 32) ∨ (k = 4 ∧ D = 8) := by
  rcases Im.kinds hd with ⟨rfl, h⟩ | ⟨rfl, h⟩ | ⟨rfl, h⟩ | ⟨rfl, h⟩
  · refine .inl ⟨rfl, ?_⟩
    rcases h with rfl | rfl | rfl | rfl
    · exact absurd rfl hs
    · exact absurd rfl hs
    · exact absurd rfl hs
    · rfl
  · exact .inr (.inl ⟨rfl, h⟩)
  · exact .inr (.inr (.inl ⟨rfl, h⟩))
  · refine .inr (.inr (.inr ⟨rfl, ?_⟩))
    rcases h with rfl | rfl | rfl | rfl
    · exact absurd rfl hs
    · exact absurd rfl hs
    · exact absurd rfl hs
    · rfl
theorem Tg.fit_of {S : Nat} {l : List Int} (h : ∀ z ∈ l, 0 ≤ z ∧ z < ((256 ^ S : Nat) : Int)) : Rt.fit S l = true := by
  unfold Rt.fit; rw [List.all_eq_true]; intro z hz; simpa using h z hz
/-- what holds of a picture that a TGA can hold -/
theorem Tg.holds {k wd hi : Int} {D : Nat} {cs ps : List Int} (ok : Im.Ok k (D : Int) wd hi cs ps) (hs : Tg.sort k (D : Int) ≠ 0) :
    ∃ S : Nat, 1 ≤ S ∧ S ≤ 4 ∧ D = 8 * S ∧ (k = 3 → D = 32) ∧ (∀ v ∈ ps, 0 ≤ v ∧ v ≤ 4294967295) ∧ Rt.fit S (Tg.pts k ps) = true ∧ Rt.fit 3 cs = true ∧ cs.length ≤ 256 := by
  obtain ⟨hd, _, _, hco, _, hW⟩ := ok
  have e1 : (256 ^ 1 : Nat) = 256 := by decide
  have e3 : (256 ^ 3 : Nat) = 16777216 := by decide
  have e4 : (256 ^ 4 : Nat) = 4294967296 := by decide
  have hnc : k ≠ 4 → cs = [] := fun h => List.length_eq_zero_iff.1 (hco.1 h)
  rcases Tg.kinds hd hs with ⟨rfl, rfl⟩ | ⟨rfl, rfl⟩ | ⟨rfl, rfl⟩ | ⟨rfl, rfl⟩
  · have hb : ∀ v ∈ ps, 0 ≤ v ∧ v ≤ 255 := fun v hv => by
      have := hW v hv
      have e : Im.most 1 ((8 : Nat) : Int) cs = 255 := by unfold Im.most; rw [if_neg (by decide)]; decide
      omega
    refine ⟨1, by omega, by omega, rfl, by decide, fun v hv => by have := hb v hv; omega, ?_, ?_, by rw [hnc (by decide)]; decide⟩
    · rw [Tg.pts_plain (by decide)]; exact Tg.fit_of (fun z hz => by have := hb z hz; rw [e1]; omega)
    · rw [hnc (by decide)]; rfl
  · have hb : ∀ v ∈ ps, 0 ≤ v ∧ v ≤ 16777215 := fun v hv => by
      have := hW v hv
      have e : Im.most 2 ((24 : Nat) : Int) cs = 16777215 := by unfold Im.most; rw [if_neg (by decide)]; decide
      omega
    refine ⟨3, by omega, by omega, rfl, by decide, fun v hv => by have := hb v hv; omega, ?_, ?_, by rw [hnc (by decide)]; decide⟩
    · rw [Tg.pts_plain (by decide)]; exact Tg.fit_of (fun z hz => by have := hb z hz; rw [e3]; omega)
    · rw [hnc (by decide)]; rfl
  · have hb : ∀ v ∈ ps, 0 ≤ v ∧ v ≤ 4294967295 := fun v hv => by
      have := hW v hv
      have e : Im.most 3 ((32 : Nat) : Int) cs = 4294967295 := by unfold Im.most; rw [if_neg (by decide)]; decide
      omega
    refine ⟨4, by omega, by omega, rfl, fun _ => rfl, hb, ?_, ?_, by rw [hnc (by decide)]; decide⟩
    · refine Tg.fit_of (fun z hz => ?_)
      unfold Tg.pts at hz
      obtain ⟨p, hp, rfl⟩ := List.mem_map.1 hz
      have := hb p hp
      unfold Tg.pt
      rw [if_pos rfl, e4]
      omega
    · rw [hnc (by decide)]; rfl
  · obtain ⟨h1, h2, h3⟩ := hco.2 rfl
    have hl : cs.length ≤ 256 := h2
    have hb : ∀ v ∈ ps, 0 ≤ v ∧ v ≤ 255 := fun v hv => by
      have := hW v hv
      have e : Im.most 4 ((8 : Nat) : Int) cs = (cs.length : Int) - 1 := by unfold Im.most; rw [if_pos rfl]
      omega
    refine ⟨1, by omega, by omega, rfl, by decide, fun v hv => by have := hb v hv; omega, ?_, ?_, hl⟩
    · rw [Tg.pts_plain (by decide)]; exact Tg.fit_of (fun z hz => by have := hb z hz; rw [e1]; omega)
    · exact Tg.fit_of (fun z hz => by have := h3 z hz; rw [e3]; omega)

theorem impl_tgaPut (k d wd hi : Int) (ca : Option Addr) (cn cc : Nat) (pa : Option Addr) (pn pc : Nat) (cs ps : List Int) (runs : Bool) (w : World) (hc : Ints w ca cs) (hcn : cs.length = cn) (hcl : cn ≤ 1048576) (hp : Ints w pa ps) (hpn : ps.length = pn) (hpl : pn ≤ 1048576) :
    Calls Try.prog 8 #[.agg #[.int .i64 k, .int .i64 d, .int .i64 wd, .int .i64 hi, .slice ca cn cc, .slice pa pn pc], .bool runs] w fun e w' => e = .returned (.string ⟨(Tg.ans k d wd hi cs ps runs).toArray⟩) ∧ Below w.heap.size w w' := by
  have hH : ∀ w', Below w.heap.size w w' → _ := fun w' b => tgaHolds_any k d wd hi ca cn cc pa pn pc (Im.okB k d wd hi cs ps) w' (fun w'' b' => impl_imageOk k d wd hi ca cn cc pa pn pc w'' cs ps ((hc.kept b).kept b') hcn hcl ((hp.kept b).kept b') hpn hpl)
  rcases hB : (Im.okB k d wd hi cs ps && (Tg.sort k d != 0)) with _ | _
  · have e : Tg.ans k d wd hi cs ps runs = [] := by unfold Tg.ans; rw [hB]; rfl
    rw [e]
    refine impl_tga_no k d wd hi ca cn cc pa pn pc runs w (fun w' b => ?_)
    have h := hH w' b
    rw [hB] at h
    exact h
  · have hB' := hB
    rw [Bool.and_eq_true, bne_iff_ne] at hB
    have hOk := Tg.ok_open hB.1
    obtain ⟨hd, hw, hh, _, hm, _⟩ := Tg.ok_open hB.1
    obtain ⟨Wd, rfl⟩ := Int.eq_ofNat_of_zero_le (show 0 ≤ wd by omega)
    obtain ⟨Hi, rfl⟩ := Int.eq_ofNat_of_zero_le (show 0 ≤ hi by omega)
    obtain ⟨D, rfl, _, _⟩ := Im.dep_all hd
    obtain ⟨S, h1, h2, h3, h4, h5, h6, h7, h8⟩ := Tg.holds hOk hB.2
    have e : Tg.ans k (D : Int) (Wd : Int) (Hi : Int) cs ps runs = Tg.txt (Tg.head k D Wd Hi cn runs) ++ Rt.txt 3 cs ++ Tg.data S (Tg.pts k ps) runs := by
      unfold Tg.ans
      rw [hB', if_pos rfl, Int.toNat_natCast, Int.toNat_natCast, Int.toNat_natCast, hcn, show D / 8 = S by omega]
    have em : ((Wd * Hi : Nat) : Int) = (Wd : Int) * (Hi : Int) := by simp
    rw [e]
    refine impl_tga_yes k D S Wd Hi ca cn cc pa pn pc cs ps runs w hc hcn (by omega) hp hpn (by omega) (by omega) (by omega) h1 h2 h3 h4 h5 h6 h7 (fun w' b => ?_)
    have h := hH w' b
    rw [hB'] at h
    exact h
end Go.Proofs.Ytcahppmnfoopkaa

/- TgaPut of the specification, over the contract of l11Put (which is still wanting). -/
namespace Go.Proofs.Ytcahppmnfoopkaa
open Go.RowKit

set_option maxHeartbeats 2000000 in
theorem spec_tga (k d wd hi : Int) (ca : Option Addr) (cn cc : Nat) (pa : Option Addr) (pn pc : Nat) (ok : Bool) (T : ByteArray) (runs : Bool) (w : World)
    (hO : ∀ w', Below w.heap.size w w' → Calls Try.prog 13 #[.agg #[.int .i64 k, .int .i64 d, .int .i64 wd, .int .i64 hi, .slice ca cn cc, .slice pa pn pc]] w' fun e w'' => e = .returned (.bool ok) ∧ Below w'.heap.size w' w'')
    (hL : (ok && (Tg.sort k d != 0)) = true → ∀ w', Below w.heap.size w w' → Calls Try.prog 15 #[.agg #[.int .i64 k, .int .i64 d, .int .i64 wd, .int .i64 hi, .slice ca cn cc, .slice pa pn pc], .bool runs] w' fun e w'' => e = .returned (.string T) ∧ Below w'.heap.size w' w'')
    (hE : (ok && (Tg.sort k d != 0)) = false → T = ⟨#[]⟩) :
    Calls Try.prog 6 #[.agg #[.int .i64 k, .int .i64 d, .int .i64 wd, .int .i64 hi, .slice ca cn cc, .slice pa pn pc], .bool runs] w fun e w' => e = .returned (.string T) ∧ Below w.heap.size w w' := by
  have hB0 : Below w.heap.size w (w.alloc (.cells #[.int .i64 k, .int .i64 d, .int .i64 wd, .int .i64 hi, .slice ca cn cc, .slice pa pn pc] 27)) := (Below.refl _ _).alloc (Nat.le_refl _) _
  have HA : Hid (Bx (w.alloc (.cells #[.int .i64 k, .int .i64 d, .int .i64 wd, .int .i64 hi, .slice ca cn cc, .slice pa pn pc] 27)) w.heap.size (.int .i64 k) (.int .i64 d) (.int .i64 wd) (.int .i64 hi) (.slice ca cn cc) (.slice pa pn pc)) := bx_new w _ _ _ _ _ _ 27
  have HO : Hid (∀ w', Below w.heap.size w w' → Calls Try.prog 13 #[.agg #[.int .i64 k, .int .i64 d, .int .i64 wd, .int .i64 hi, .slice ca cn cc, .slice pa pn pc]] w' fun e w'' => e = .returned (.bool ok) ∧ Below w'.heap.size w' w'') := hO
  have HT : Hid (∀ w' : World, Calls Try.prog 14 #[.agg #[.int .i64 k, .int .i64 d, .int .i64 wd, .int .i64 hi, .slice ca cn cc, .slice pa pn pc]] w' fun e w'' => e = .returned (.int .i64 (Tg.sort k d)) ∧ Below w'.heap.size w' w'') := fun w' => l11Tga_any k d wd hi ca cn cc pa pn pc w'
  have HL : Hid ((ok && (Tg.sort k d != 0)) = true → ∀ w', Below w.heap.size w w' → Calls Try.prog 15 #[.agg #[.int .i64 k, .int .i64 d, .int .i64 wd, .int .i64 hi, .slice ca cn cc, .slice pa pn pc], .bool runs] w' fun e w'' => e = .returned (.string T) ∧ Below w'.heap.size w' w'') := hL
  have HE : Hid ((ok && (Tg.sort k d != 0)) = false → T = ⟨#[]⟩) := hE
  clear hO hL hE
  generalize Tg.sort k d = srt at *
  go_enter Try.func6, Try.ntmps6
  go_wp2_with fail
  refine (HO.out _ hB0).mono ?_
  rintro e w1 ⟨rfl, b1⟩
  have bel1 := hB0.trans (b1.mono hB0.size)
  have A1 : Hid (Bx w1 w.heap.size (.int .i64 k) (.int .i64 d) (.int .i64 wd) (.int .i64 hi) (.slice ca cn cc) (.slice pa pn pc)) := HA.out.kept b1
  obtain ⟨_, a0, a1, a2, a3, a4, a5⟩ := A1.out
  clear b1 hB0 HA HO
  cases ok with
  | false =>
    have hT : T = ⟨#[]⟩ := HE.out rfl
    subst hT
    clear HL HE
    go_wp2_with fail
    go_ret
    exact ⟨rfl, bel1⟩
  | true =>
    go_wp2_with fail
    refine (HT.out _).mono ?_
    rintro e w2 ⟨rfl, b2⟩
    have bel2 := bel1.trans (b2.mono bel1.size)
    obtain ⟨_, c0, c1, c2, c3, c4, c5⟩ := A1.out.kept b2
    clear b2 a0 a1 a2 a3 a4 a5 HT A1 bel1
    by_cases h0 : srt = 0
    · subst h0
      have hT : T = ⟨#[]⟩ := HE.out (by simp)
      subst hT
      clear HL HE
      go_wp2_with fail
      go_ret
      exact ⟨rfl, bel2⟩
    · have f1 : (srt == 0) = false := by rw [beq_eq_false_iff_ne]; exact h0
      have HL2 : Hid (∀ w', Below w.heap.size w w' → Calls Try.prog 15 #[.agg #[.int .i64 k, .int .i64 d, .int .i64 wd, .int .i64 hi, .slice ca cn cc, .slice pa pn pc], .bool runs] w' fun e w'' => e = .returned (.string T) ∧ Below w'.heap.size w' w'') := HL.out (by simp [h0])
      clear HL HE h0
      go_wp2_with fail
      refine (HL2.out _ bel2).mono ?_
      rintro e w3 ⟨rfl, b3⟩
      have bel3 := bel2.trans (b3.mono bel2.size)
      clear b3 HL2
      go_wp2_with fail
      go_ret
      exact ⟨rfl, bel3⟩
end Go.Proofs.Ytcahppmnfoopkaa

/- A region that draws its order, told operation by operation: what each one's answer is like (R), kept by whatever else is carried out (E): then the order does not matter, and each operation is walked once. -/
namespace Go.Proofs.Ytcahppmnfoopkaa
open Go.RowKit

section
variable {P : Program} {ops : Array Oper} {Q : Exit → Act → World → Prop} {md : Region.Mode}

/-- The state in which the first m operations have left their answers. -/
def puts (ops : Array Oper) (vs : Nat → Value) (a : Act) : Nat → Act
  | 0 => a
  | m + 1 => (puts ops vs a m).put ((ops[m]?).bind (·.dst)) (vs m)

/-- The same, of those alone that are listed. -/
def putsL (ops : Array Oper) (vs : Nat → Value) (a : Act) (listed : Array Bool) : Nat → Act
  | 0 => a
  | m + 1 => if listed.getD m false then (putsL ops vs a listed m).put ((ops[m]?).bind (·.dst)) (vs m) else putsL ops vs a listed m

def upd (vs : Nat → Value) (i : Nat) (v : Value) : Nat → Value := fun j => if j = i then v else vs j

/-- The operation o waits for number j. -/
def Oper.waits (md : Region.Mode) (o : Oper) (j : Nat) : Bool := o.after.any fun e => e.on == j && Region.binds md e

def notSelect : Op → Bool
  | .select _ _ => false
  | _ => true

/-- The first m operations: without guards, each with a temporary of its own, and each waits for those whose answers it looks at; the others wait for all of these. -/
def tidyAt (md : Region.Mode) (ops : Array Oper) (m n i : Nat) (o : Oper) : Bool :=
  if i < m then
    o.guard.isNone && notSelect o.op && o.after.all (fun e => !Region.binds md e || Nat.blt e.on i) && (match o.dst with | some d => Nat.blt d n | none => true) &&
    (List.range m).all (fun j => match (ops[j]?).bind (·.dst) with
      | none => true
      | some d => (!(o.looksAt ops).contains d || Oper.waits md o j) && (j == i || o.dst != some d))
  else (List.range m).all (fun j => Oper.waits md o j)
def tidy (md : Region.Mode) (ops : Array Oper) (m n : Nat) : Bool :=
  Nat.ble m ops.size && (List.range ops.size).all fun i => match ops[i]? with | none => true | some o => tidyAt md ops m n i o

theorem tidy_at {m n : Nat} (h : tidy md ops m n = true) {i : Nat} {o : Oper} (ho : ops[i]? = some o) : tidyAt md ops m n i o = true := by
  unfold tidy at h
  rw [Bool.and_eq_true, List.all_eq_true] at h
  have hi : i < ops.size := by
    rcases Nat.lt_or_ge i ops.size with h' | h'
    · exact h'
    · rw [Array.getElem?_eq_none h'] at ho; cases ho
  have := h.2 i (List.mem_range.2 hi)
  simp only [ho] at this
  exact this

theorem puts_size (vs : Nat → Value) (a : Act) : ∀ m, (puts ops vs a m).tmps.size = a.tmps.size
  | 0 => rfl
  | m + 1 => by
    unfold puts Act.put
    split
    · simp [puts_size vs a m]
    · exact puts_size vs a m
theorem puts_defers (vs : Nat → Value) (a : Act) : ∀ m, (puts ops vs a m).defers = a.defers
  | 0 => rfl
  | m + 1 => by
    unfold puts Act.put
    split
    · exact puts_defers vs a m
    · exact puts_defers vs a m
theorem putsL_size (vs : Nat → Value) (a : Act) (l : Array Bool) : ∀ m, (putsL ops vs a l m).tmps.size = a.tmps.size
  | 0 => rfl
  | m + 1 => by
    unfold putsL
    split
    · unfold Act.put
      split
      · simp [putsL_size vs a l m]
      · exact putsL_size vs a l m
    · exact putsL_size vs a l m

theorem putsL_defers (vs : Nat → Value) (a : Act) (l : Array Bool) : ∀ m, (putsL ops vs a l m).defers = a.defers
  | 0 => rfl
  | m + 1 => by
    unfold putsL
    split
    · unfold Act.put
      split
      · exact putsL_defers vs a l m
      · exact putsL_defers vs a l m
    · exact putsL_defers vs a l m

theorem putsL_all (vs : Nat → Value) (a : Act) (l : Array Bool) : ∀ m, (∀ j, j < m → l.getD j false = true) → putsL ops vs a l m = puts ops vs a m
  | 0, _ => rfl
  | m + 1, h => by
    unfold putsL puts
    rw [if_pos (h m (Nat.lt_succ_self m)), putsL_all vs a l m (fun j hj => h j (Nat.lt_succ_of_lt hj))]
theorem putsL_none (vs : Nat → Value) (a : Act) (l : Array Bool) : ∀ m, (∀ j, j < m → l.getD j false = false) → putsL ops vs a l m = a
  | 0, _ => rfl
  | m + 1, h => by
    unfold putsL
    rw [if_neg (by rw [h m (Nat.lt_succ_self m)]; decide), putsL_none vs a l m (fun j hj => h j (Nat.lt_succ_of_lt hj))]

theorem getD_set_eq {l : Array Bool} {i : Nat} (h : i < l.size) : (l.setIfInBounds i true).getD i false = true := by simp [h]
theorem getD_set_other {l : Array Bool} {i j : Nat} (h : j ≠ i) (b : Bool) : (l.setIfInBounds i true).getD j b = l.getD j b := by
  simp [Array.getD_eq_getD_getElem?, Array.getElem?_setIfInBounds_ne (Ne.symm h)]

theorem putsL_before (vs : Nat → Value) (a : Act) (l : Array Bool) (i : Nat) (v : Value) : ∀ k, k ≤ i → putsL ops (upd vs i v) a (l.setIfInBounds i true) k = putsL ops vs a l k
  | 0, _ => rfl
  | k + 1, h => by
    unfold putsL
    rw [getD_set_other (by omega), putsL_before vs a l i v k (by omega)]
    have : upd vs i v k = vs k := if_neg (by omega)
    rw [this]

theorem putsL_set (vs : Nat → Value) (a : Act) (l : Array Bool) (i : Nat) (v : Value) (hl : i < l.size) (hi : l.getD i true = false) :
    ∀ k, i < k → (∀ j, j < k → j ≠ i → ∀ d, (ops[i]?).bind (·.dst) = some d → (ops[j]?).bind (·.dst) ≠ some d) →
      putsL ops (upd vs i v) a (l.setIfInBounds i true) k = (putsL ops vs a l k).put ((ops[i]?).bind (·.dst)) v
  | 0, h, _ => absurd h (Nat.not_lt_zero _)
  | k + 1, h, hd => by
    by_cases hk : k = i
    · subst hk
      have hf : l.getD k false = false := by
        simp only [Array.getD_eq_getD_getElem?, Array.getElem?_eq_getElem hl, Option.getD_some] at hi ⊢; exact hi
      unfold putsL
      rw [if_pos (getD_set_eq hl), hf, putsL_before vs a l k v k (Nat.le_refl _)]
      have : upd vs k v k = v := if_pos rfl
      rw [this]
      rfl
    · have ih := putsL_set vs a l i v hl hi k (by omega) (fun j hj => hd j (by omega))
      unfold putsL
      rw [getD_set_other hk, ih]
      have hv : upd vs i v k = vs k := if_neg hk
      rw [hv]
      by_cases hlk : l.getD k false = true
      · rw [if_pos hlk, if_pos hlk]
        exact Act.put_comm _ v (vs k) (fun d h1 => hd k (Nat.lt_succ_self k) hk d h1)
      · rw [if_neg hlk, if_neg hlk]

theorem eval_put_same {a b : Act} {dst : Option Tmp} {v : Value} {x : Operand} (hs : a.tmps.size = b.tmps.size) (h : a.eval x = b.eval x) : (a.put dst v).eval x = (b.put dst v).eval x := by
  cases dst with
  | none => exact h
  | some d =>
    cases x with
    | tmp t =>
      simp only [Act.eval, Act.put, Array.getD_eq_getD_getElem?, Array.getElem?_setIfInBounds] at h ⊢
      rw [hs]
      split
      · rfl
      · exact h
    | _ => rfl

theorem eval_putsL (vs : Nat → Value) (a : Act) (l : Array Bool) (x : Operand) : ∀ k, (∀ j d, j < k → (ops[j]?).bind (·.dst) = some d → x = .tmp d → l.getD j false = true) →
    (putsL ops vs a l k).eval x = (puts ops vs a k).eval x
  | 0, _ => rfl
  | k + 1, h => by
    have ih := eval_putsL vs a l x k (fun j d hj => h j d (by omega))
    unfold putsL puts
    by_cases hk : l.getD k false = true
    · rw [if_pos hk]
      exact eval_put_same (by rw [putsL_size, puts_size]) ih
    · rw [if_neg hk, ih]
      refine (Act.eval_put fun d hd hx => ?_).symm
      exact hk (h k d (Nat.lt_succ_self k) hd hx)

/-- What is to be shown of one operation: wherever it comes up, it answers as R says, and leaves all else as E says. -/
def EachStep (P : Program) (md : Region.Mode) (ops : Array Oper) (Q : Exit → Act → World → Prop) (R : Nat → Value → World → Prop) (S : World → Prop) (E : World → World → Prop) (a : Act) (m i : Nat) (o : Oper) : Prop :=
  ∀ (vs : Nat → Value) (w : World), S w → (∀ j, Oper.waits md o j = true → R j (vs j) w) →
    ∀ K : Act → World → Prop, Shut (∀ v w', S w' → E w w' → R i v w' → K ((puts ops vs a m).put o.dst v) w') → Oper.wp P o (puts ops vs a m) w K Q

def EachFrom (P : Program) (md : Region.Mode) (ops : Array Oper) (Q : Exit → Act → World → Prop) (R : Nat → Value → World → Prop) (S : World → Prop) (E : World → World → Prop) (a : Act) (m k : Nat) : Prop :=
  ∀ i o, k ≤ i → i < m → ops[i]? = some o → EachStep P md ops Q R S E a m i o

theorem EachFrom.nil {R : Nat → Value → World → Prop} {S : World → Prop} {E : World → World → Prop} {a : Act} {m : Nat} : EachFrom P md ops Q R S E a m m :=
  fun _ _ h h' => absurd h' (Nat.not_lt.2 h)
theorem EachFrom.cons {R : Nat → Value → World → Prop} {S : World → Prop} {E : World → World → Prop} {a : Act} {m k : Nat} {o : Oper} (ho : ops[k]? = some o)
    (h : EachStep P md ops Q R S E a m k o) (hs : EachFrom P md ops Q R S E a m (k + 1)) : EachFrom P md ops Q R S E a m k := fun i o' h1 h2 h3 => by
  by_cases hk : i = k
  · subst hk; rw [ho] at h3; cases h3; exact h
  · exact hs i o' (by omega) h2 h3

/-- From the state of what is listed to the state in which all stand. -/
theorem wp_of_step {o : Oper} {a b : Act} {w : World} {C : Value → World → Prop} (hde : a.defers = b.defers) (he : execOp a.eval o = execOp b.eval o) (hd : ∀ d, o.dst = some d → d < b.tmps.size)
    (hQ : ∀ c (a b : Act) w, a.defers = b.defers → Q (.panic c) b w → Q (.panic c) a w)
    (h : ∀ K : Act → World → Prop, (∀ v w', C v w' → K (b.put o.dst v) w') → Oper.wp P o b w K Q)
    {K : Act → World → Prop} (hK : ∀ v w', C v w' → K (a.put o.dst v) w') : Oper.wp P o a w K Q := by
  have key : ∀ v w', (∃ v', b.put o.dst v = b.put o.dst v' ∧ C v' w') → K (a.put o.dst v) w' := by
    rintro v w' ⟨v', h1, h2⟩
    cases hdst : o.dst with
    | none => rw [hdst] at hK; have := hK v' w' h2; exact this
    | some d =>
      rw [hdst] at h1
      have h3 := congrArg (fun x : Act => x.tmps[d]?) h1
      simp only [Act.put, Array.getElem?_setIfInBounds_self_of_lt (hd d hdst), Option.some.injEq] at h3
      subst h3
      rw [hdst] at hK
      exact hK v w' h2
  have h1 := h (fun a' w' => ∃ v', a' = b.put o.dst v' ∧ C v' w') (fun v w' hC => ⟨v, rfl, hC⟩)
  unfold Oper.wp at h1 ⊢
  rw [he]
  generalize (execOp b.eval o).run P w = r at h1 ⊢
  match r, h1 with
  | .ok (.value v) w', h1 => exact key v w' h1
  | .ok .skip w', h1 => exact key _ w' h1
  | .ok (.defer d) w', h1 =>
    obtain ⟨v', h2, _⟩ := h1
    have h3 := congrArg (fun x : Act => x.defers.length) h2
    have h4 : ∀ (x : Act) u, (x.put o.dst u).defers = x.defers := fun x u => by unfold Act.put; split <;> rfl
    simp only [h4, List.length_cons] at h3
    omega
  | .ok (.enter f args) w', h1 =>
    refine Calls.mono h1 fun e w'' he => ?_
    cases e with
    | returned u => exact key u w'' he
    | panicked c => exact hQ _ _ _ _ hde he
    | outgrown => exact he
  | .ok (.row row args) w', h1 => exact Rows.mono h1 fun u w'' he => key u w'' he
  | .halt (.panic v) w', h1 => exact hQ _ _ _ _ hde h1

/-- While one of the first m is left, one may come up. -/
theorem ready_some {m n : Nat} (ht : tidy md ops m n = true) (hm : m ≤ ops.size) {listed : Array Bool} (hz : listed.size = ops.size) (h0 : Region.ready md ops listed = []) :
    ∀ j, j < m → listed.getD j false = true := by
  intro j
  induction j using Nat.strongRecOn with
  | _ j ih =>
    intro hj
    have hjs : j < ops.size := Nat.lt_of_lt_of_le hj hm
    cases hl : listed.getD j false with
    | true => rfl
    | false =>
      exfalso
      have ho : ops[j]? = some ops[j] := Array.getElem?_eq_getElem hjs
      have ht' := tidy_at ht ho
      unfold tidyAt at ht'
      rw [if_pos hj] at ht'
      simp only [Bool.and_eq_true] at ht'
      have hedge := ht'.1.1.2
      rw [Array.all_eq_true'] at hedge
      have hmem : j ∈ Region.ready md ops listed := by
        rw [mem_ready]
        refine ⟨?_, ops[j], ho, fun e he hb => ?_⟩
        · simp only [Array.getD_eq_getD_getElem?, Array.getElem?_eq_getElem (hz ▸ hjs : j < listed.size), Option.getD_some] at hl ⊢
          exact hl
        · have := hedge e he
          rw [hb] at this
          have hlt : e.on < j := by
            have h1 : Nat.blt e.on j = true := by simpa using this
            exact Nat.le_of_ble_eq_true h1
          exact ih e.on hlt (by omega)
      rw [h0] at hmem
      cases hmem

theorem count_less {l : Array Bool} (i : Nat) (hl : i < l.size) (hi : l.getD i false = false) :
    ∀ m, i < m → ((List.range m).filter (fun j => !l.getD j false)).length = ((List.range m).filter (fun j => !(l.setIfInBounds i true).getD j false)).length + 1
  | 0, h => absurd h (Nat.not_lt_zero _)
  | m + 1, h => by
    rw [List.range_succ, List.filter_append, List.filter_append, List.length_append, List.length_append]
    by_cases hm : m = i
    · subst hm
      have e1 : (List.range m).filter (fun j => !(l.setIfInBounds m true).getD j false) = (List.range m).filter (fun j => !l.getD j false) := by
        apply List.filter_congr
        intro j hj
        rw [getD_set_other (Nat.ne_of_lt (List.mem_range.1 hj))]
      rw [e1]
      have e2 : List.filter (fun j => !l.getD j false) [m] = [m] := by rw [List.filter_cons, hi]; rfl
      have e3 : List.filter (fun j => !(l.setIfInBounds m true).getD j false) [m] = [] := by rw [List.filter_cons, getD_set_eq hl]; rfl
      rw [e2, e3]
      rfl
    · have ih := count_less i hl hi m (by omega)
      rw [ih]
      have e2 : List.filter (fun j => !(l.setIfInBounds i true).getD j false) [m] = List.filter (fun j => !l.getD j false) [m] := by
        rw [List.filter_cons, List.filter_cons, getD_set_other hm]
        rfl
      rw [e2]
      omega

/-- Which ones have come up when the first m have. -/
def firstM (n m : Nat) : Array Bool := ((List.range n).map fun i => Nat.blt i m).toArray

theorem wpAny_each {R : Nat → Value → World → Prop} {S : World → Prop} {E : World → World → Prop} {a : Act} {m n : Nat}
    (ht : tidy md ops m n = true) (hn : a.tmps.size = n) (hQ : ∀ c (a b : Act) w, a.defers = b.defers → Q (.panic c) b w → Q (.panic c) a w)
    (hE : ∀ j v w w', E w w' → R j v w → R j v w') (hs : EachFrom P md ops Q R S E a m 0)
    (hend : ∀ vs w, S w → (∀ j, j < m → R j (vs j) w) → wpAny P md ops Q (ops.size - m) (firstM ops.size m) (puts ops vs a m) w) :
    ∀ (fuel : Nat) (listed : Array Bool) (vs : Nat → Value) (w : World), listed.size = ops.size → S w →
      (∀ j, j < m → listed.getD j false = true → R j (vs j) w) → (∀ j, m ≤ j → listed.getD j false = false) →
      ((List.range m).filter (fun j => !listed.getD j false)).length + (ops.size - m) = fuel →
      wpAny P md ops Q fuel listed (putsL ops vs a listed m) w := by
  have hm : m ≤ ops.size := by
    unfold tidy at ht
    rw [Bool.and_eq_true] at ht
    exact Nat.le_of_ble_eq_true ht.1
  have allDone : ∀ (listed : Array Bool) (vs : Nat → Value) (w : World), listed.size = ops.size → S w →
      (∀ j, j < m → listed.getD j false = true → R j (vs j) w) → (∀ j, m ≤ j → listed.getD j false = false) →
      (∀ j, j < m → listed.getD j false = true) → wpAny P md ops Q (ops.size - m) listed (putsL ops vs a listed m) w := by
    intro listed vs w h1 h2 h3 h4 h5
    rw [putsL_all _ _ _ _ h5]
    have : listed = firstM ops.size m := by
      apply Array.ext
      · simp [firstM, h1]
      · intro i hi1 hi2
        simp only [firstM, List.getElem_toArray, List.getElem_map, List.getElem_range]
        by_cases hi : i < m
        · have := h5 i hi
          simp only [Array.getD_eq_getD_getElem?, Array.getElem?_eq_getElem hi1, Option.getD_some] at this
          rw [this]; exact (Nat.ble_eq_true_of_le hi).symm
        · have := h4 i (by omega)
          simp only [Array.getD_eq_getD_getElem?, Array.getElem?_eq_getElem hi1, Option.getD_some] at this
          rw [this]
          cases hb : Nat.blt i m with
          | false => rfl
          | true => exact absurd (Nat.le_of_ble_eq_true hb) (by omega)
    rw [this]
    exact hend vs w h2 (fun j hj => h3 j hj (h5 j hj))
  intro fuel
  induction fuel with
  | zero =>
    intro listed vs w h1 h2 h3 h4 h5
    have h6 : ((List.range m).filter (fun j => !listed.getD j false)) = [] := List.eq_nil_of_length_eq_zero (by omega)
    have h7 : ∀ j, j < m → listed.getD j false = true := fun j hj => by
      have := (List.filter_eq_nil_iff.1 h6) j (List.mem_range.2 hj)
      simpa using this
    have h8 : ops.size - m = 0 := by omega
    have := allDone listed vs w h1 h2 h3 h4 h7
    rw [h8] at this
    exact this
  | succ fuel ih =>
    intro listed vs w h1 h2 h3 h4 h5
    by_cases hall : ((List.range m).filter (fun j => !listed.getD j false)) = []
    · have h7 : ∀ j, j < m → listed.getD j false = true := fun j hj => by
        have := (List.filter_eq_nil_iff.1 hall) j (List.mem_range.2 hj)
        simpa using this
      have h8 : ops.size - m = fuel + 1 := by rw [hall] at h5; simpa using h5
      have := allDone listed vs w h1 h2 h3 h4 h7
      rw [h8] at this
      exact this
    · -- some of the first m have not come up: one of them is the next
      obtain ⟨j0, hj0⟩ := List.exists_mem_of_ne_nil _ hall
      have hj0m : j0 < m := List.mem_range.1 (List.mem_filter.1 hj0).1
      have hj0l : listed.getD j0 false = false := by simpa using (List.mem_filter.1 hj0).2
      have hlt : ∀ i ∈ Region.ready md ops listed, i < m := fun i hi => by
        obtain ⟨hun, o, ho, hw⟩ := mem_ready.1 hi
        rcases Nat.lt_or_ge i m with h | h
        · exact h
        · exfalso
          have ht' := tidy_at ht ho
          unfold tidyAt at ht'
          rw [if_neg (by omega), List.all_eq_true] at ht'
          have := ht' j0 (List.mem_range.2 hj0m)
          unfold Oper.waits at this
          rw [Array.any_eq_true'] at this
          obtain ⟨e, he, he2⟩ := this
          rw [Bool.and_eq_true] at he2
          have hon : e.on = j0 := by simpa using he2.1
          have := hw e he he2.2
          rw [hon, hj0l] at this
          cases this
      refine ⟨fun h0 => ?_, fun i hi => ?_⟩
      · -- never empty while one is left
        exact absurd (ready_some ht hm h1 h0 j0 hj0m) (by rw [hj0l]; decide)
      · have him := hlt i hi
        obtain ⟨hun, o, ho, hw⟩ := mem_ready.1 hi
        have ht' := tidy_at ht ho
        unfold tidyAt at ht'
        rw [if_pos him] at ht'
        simp only [Bool.and_eq_true] at ht'
        obtain ⟨⟨⟨⟨hg, hns⟩, hedge⟩, hdn⟩, hall2⟩ := ht'
        rw [List.all_eq_true] at hall2
        have hil : i < listed.size := by
          rcases Nat.lt_or_ge i listed.size with h | h
          · exact h
          · exfalso; omega
        have hguard : o.guard = none := by cases hgd : o.guard with | none => rfl | some x => rw [hgd] at hg; cases hg
        have hsel : ∀ cs b, o.op ≠ .select cs b := fun cs b he => by rw [he] at hns; cases hns
        have hbind : (ops[i]?).bind (·.dst) = o.dst := by rw [ho]; rfl
        have hdist : ∀ j, j < m → j ≠ i → ∀ d, (ops[i]?).bind (·.dst) = some d → (ops[j]?).bind (·.dst) ≠ some d := fun j hj hji d hd hd2 => by
          have := hall2 j (List.mem_range.2 hj)
          simp only [hd2, Bool.and_eq_true, Bool.or_eq_true] at this
          rcases this.2 with h | h
          · exact hji (by simpa using h)
          · rw [hbind] at hd; rw [hd] at h; simp at h
        have hsee : ∀ x ∈ o.op.operands, (putsL ops vs a listed m).eval x = (puts ops vs a m).eval x := fun x hx => by
          refine eval_putsL vs a listed x m (fun j d hj hd hxd => ?_)
          have := hall2 j (List.mem_range.2 hj)
          simp only [hd, Bool.and_eq_true, Bool.or_eq_true] at this
          have hlook : d ∈ o.looksAt ops := by
            subst hxd
            exact List.mem_append_left _ (List.mem_filterMap.2 ⟨.tmp d, by simpa using hx, rfl⟩)
          rcases this.1 with h | h
          · exact absurd hlook (by simpa using h)
          · unfold Oper.waits at h
            rw [Array.any_eq_true'] at h
            obtain ⟨e, he, he2⟩ := h
            rw [Bool.and_eq_true] at he2
            have hon : e.on = j := by simpa using he2.1
            have := hw e he he2.2
            rw [hon] at this
            exact this
        refine wpOp_step ho (fun K' hK' => ?_)
        rw [if_pos (by unfold Region.wanted; rw [hguard])]
        refine wp_of_step (b := puts ops vs a m) (C := fun v w' => S w' ∧ E w w' ∧ R i v w') (by rw [putsL_defers, puts_defers]) (execOp_congr o hsel hsee) (fun d hd => ?_) hQ (fun K hK => ?_) (fun v w' hC => ?_)
        · rw [hd] at hdn
          rw [puts_size, hn]
          exact Nat.le_of_ble_eq_true hdn
        · refine hs i o (Nat.zero_le _) him ho vs w h2 (fun j hj => ?_) K (fun v w' h1 h2 h3 => hK v w' ⟨h1, h2, h3⟩)
          unfold Oper.waits at hj
          rw [Array.any_eq_true'] at hj
          obtain ⟨e, he, he2⟩ := hj
          rw [Bool.and_eq_true] at he2
          have hon : e.on = j := by simpa using he2.1
          have h6 := hw e he he2.2
          rw [Array.all_eq_true'] at hedge
          have h7 := hedge e he
          rw [he2.2] at h7
          have h8 : e.on < i := by
            have h1 : Nat.blt e.on i = true := by simpa using h7
            exact Nat.le_of_ble_eq_true h1
          rw [hon] at h6 h8
          exact h3 j (by omega) h6
        · apply hK'
          have h7 := putsL_set vs a listed i v hil hun m him hdist
          rw [hbind] at h7
          rw [← h7]
          refine ih _ (upd vs i v) w' (by simp [h1]) hC.1 (fun j hj hl => ?_) (fun j hj => ?_) ?_
          · by_cases hji : j = i
            · subst hji
              have : upd vs j v j = v := if_pos rfl
              rw [this]; exact hC.2.2
            · have : upd vs i v j = vs j := if_neg hji
              rw [this]
              rw [getD_set_other hji] at hl
              exact hE _ _ _ _ hC.2.1 (h3 j hj hl)
          · rw [getD_set_other (by omega)]
            exact h4 j hj
          · have hcnt : ((List.range m).filter (fun j => !listed.getD j false)).length = ((List.range m).filter (fun j => !(listed.setIfInBounds i true).getD j false)).length + 1 := by
              refine count_less i hil ?_ m him
              simp only [Array.getD_eq_getD_getElem?, Array.getElem?_eq_getElem hil, Option.getD_some] at hun ⊢
              exact hun
            omega

/-- THE LAW: a region that draws its order; each of its first m operations is walked once, wherever it comes up; behind them the rest. -/
theorem wp_region_each {R : Nat → Value → World → Prop} {S : World → Prop} {E : World → World → Prop} {a : Act} {w : World} {id : Nat} (m n : Nat)
    (hm : P.follows .mixedOrders = true) (ht : tidy .any ops m n = true) (hn : a.tmps.size = n) (hQ : ∀ c (a b : Act) w, a.defers = b.defers → Q (.panic c) b w → Q (.panic c) a w)
    (hE : ∀ j v w w', E w w' → R j v w → R j v w') (hS : S w.drew) (hs : EachFrom P .any ops Q R S E a m 0)
    (hend : ∀ vs w, S w → (∀ j, j < m → R j (vs j) w) → wpAnyH P .any ops Q (fun _ => True) (ops.size - m) (firstM ops.size m) (puts ops vs a m) w) :
    (Code.region id ops true).wp P Q a w := by
  refine wp_region_any hm ?_
  have hnone : ∀ j, (Array.replicate ops.size false).getD j false = false := fun j => by
    rw [Array.getD_eq_getD_getElem?, Array.getElem?_replicate]
    split <;> rfl
  have h := wpAny_each (md := .any) ht hn hQ hE hs (fun vs w h1 h2 => wpAny_of_held _ _ _ _ (hend vs w h1 h2)) ops.size (Array.replicate ops.size false) (fun _ => undef) w.drew (by simp) hS
    (fun j _ h => by rw [hnone] at h; cases h) (fun j _ => hnone j) ?_
  · rw [putsL_none _ _ _ _ (fun j _ => hnone j)] at h
    exact h
  · have h1 : m ≤ ops.size := by
      unfold tidy at ht
      rw [Bool.and_eq_true] at ht
      exact Nat.le_of_ble_eq_true ht.1
    have h2 : (List.range m).filter (fun j => !(Array.replicate ops.size false).getD j false) = List.range m := List.filter_eq_self.2 (fun j _ => by rw [hnone]; rfl)
    rw [h2, List.length_range]
    omega

/-- Bytes in a block of their own. -/
def Lay (v : Value) (w : World) (ns : List Nat) : Prop := ∃ b : Nat, v = .slice (some ⟨b, 0, none⟩) ns.length ns.length ∧ b < w.heap.size ∧ ∀ j (h : j < ns.length), w.cell? ⟨b, j, none⟩ = some (.int .u8 (ns[j] : Int))
theorem Lay.kept {v : Value} {w w' : World} {ns : List Nat} (h : Lay v w ns) (b : Below w.heap.size w w') : Lay v w' ns := by
  obtain ⟨p, h1, h2, h3⟩ := h
  exact ⟨p, h1, Nat.lt_of_lt_of_le h2 b.size, fun j hj => (b.cell (p := ⟨p, j, none⟩) h2).trans (h3 j hj)⟩

/-- What is told of an operation's answer: which value it is; which bytes lie there; what else holds of it and stays. -/
inductive What where
  | is (u : Value)
  | lay (ns : List Nat)
  | own (p : Value → World → Prop) (h : ∀ v w w', Below w.heap.size w w' → p v w → p v w')
  | any
def What.holds : What → Value → World → Prop
  | .is u, v, _ => v = u
  | .lay ns, v, w => Lay v w ns
  | .own p _, v, w => p v w
  | .any, _, _ => True
theorem What.kept : ∀ (x : What) {v : Value} {w w' : World}, Below w.heap.size w w' → x.holds v w → x.holds v w'
  | .is _, _, _, _, _, h => h
  | .lay _, _, _, _, b, h => Lay.kept h b
  | .own _ k, _, _, _, b, h => k _ _ _ b h
  | .any, _, _, _, _, _ => trivial

/-- One operation, the state written out. -/
def Told (P : Program) (Q : Exit → Act → World → Prop) (S : World → Prop) (whats : List What) (b : (Nat → Value) → Act) (i : Nat) (o : Oper) : Prop :=
  ∀ (vs : Nat → Value) (w : World), S w → (∀ j, Oper.waits .any o j = true → (whats.getD j .any).holds (vs j) w) →
    ∀ K : Act → World → Prop, Shut (∀ v w', S w' → Below w.heap.size w w' → (whats.getD i .any).holds v w' → K ((b vs).put o.dst v) w') → Oper.wp P o (b vs) w K Q
def ToldFrom (P : Program) (ops : Array Oper) (Q : Exit → Act → World → Prop) (S : World → Prop) (whats : List What) (b : (Nat → Value) → Act) (m k : Nat) : Prop :=
  ∀ i o, k ≤ i → i < m → ops[i]? = some o → Told P Q S whats b i o
theorem ToldFrom.nil {S : World → Prop} {whats : List What} {b : (Nat → Value) → Act} {m : Nat} : ToldFrom P ops Q S whats b m m :=
  fun _ _ h h' => absurd h' (Nat.not_lt.2 h)
theorem ToldFrom.cons {S : World → Prop} {whats : List What} {b : (Nat → Value) → Act} {m k : Nat} {o : Oper} (ho : ops[k]? = some o)
    (h : Told P Q S whats b k o) (hs : ToldFrom P ops Q S whats b m (k + 1)) : ToldFrom P ops Q S whats b m k := fun i o' h1 h2 h3 => by
  by_cases hk : i = k
  · subst hk; rw [ho] at h3; cases h3; exact h
  · exact hs i o' (by omega) h2 h3

/-- THE LAW, the state written out, each answer told. -/
theorem wp_region_told {S : World → Prop} {a : Act} {w : World} {id : Nat} (m n : Nat) (whats : List What) {b : (Nat → Value) → Act}
    (hm : P.follows .mixedOrders = true) (ht : tidy .any ops m n = true) (hn : a.tmps.size = n) (hQ : ∀ c (a b : Act) w, a.defers = b.defers → Q (.panic c) b w → Q (.panic c) a w)
    (hb : ∀ vs, puts ops vs a m = b vs) (hS : S w.drew) (hs : ToldFrom P ops Q S whats b m 0)
    (hend : ∀ vs w, S w → (∀ j, j < m → (whats.getD j .any).holds (vs j) w) → wpAnyH P .any ops Q (fun _ => True) (ops.size - m) (firstM ops.size m) (b vs) w) :
    (Code.region id ops true).wp P Q a w := by
  refine wp_region_each (R := fun j v w => (whats.getD j .any).holds v w) (S := S) (E := fun w w' => Below w.heap.size w w') m n hm ht hn hQ (fun j v w w' he h => What.kept _ he h) hS ?_ ?_
  · intro i o h1 h2 h3 vs w' h4 h5 K hK
    rw [hb vs] at hK ⊢
    exact hs i o h1 h2 h3 vs w' h4 h5 K hK
  · intro vs w' h1 h2
    rw [hb vs]
    exact hend vs w' h1 h2
end
end Go.Proofs.Ytcahppmnfoopkaa

/- l11Put of the specification: a picture that a TGA can hold, written. -/
namespace Go.Proofs.Ytcahppmnfoopkaa
open Go.RowKit

theorem lay_text {b : Nat} {w : World} {ns : List Nat} (h3 : ∀ j (h : j < ns.length), w.cell? ⟨b, j, none⟩ = some (.int .u8 (ns[j] : Int))) :
    Sem.run Try.prog (convert 48 9 (.slice (some ⟨b, 0, none⟩) ns.length ns.length)) w = .ok (.string ⟨(ns.map UInt8.ofNat).toArray⟩) w := by
  refine run_text w ⟨b, 0, none⟩ ns.length ns (fun j v hj => ?_)
  rw [List.getElem?_map] at hj
  cases hn : ns[j]? with
  | none => rw [hn] at hj; cases hj
  | some x =>
    rw [hn] at hj
    obtain ⟨hl, hx⟩ := List.getElem?_eq_some_iff.1 hn
    have := h3 j hl
    rw [hx] at this
    simp only [Option.map_some, Option.some.injEq] at hj
    rw [← hj]
    have e : (Addr.mk b 0 none).add j = ⟨b, j, none⟩ := by unfold Addr.add; split <;> simp_all
    rw [e]
    exact this
def BxS (w wz : World) (v0 v1 v2 v3 v4 v5 : Value) : Prop := Bx wz w.heap.size v0 v1 v2 v3 v4 v5 ∧ Below w.heap.size w wz
theorem BxS.kept {w wz wy : World} {v0 v1 v2 v3 v4 v5 : Value} (h : BxS w wz v0 v1 v2 v3 v4 v5) (b : Below wz.heap.size wz wy) : BxS w wy v0 v1 v2 v3 v4 v5 := ⟨h.1.kept b, h.2.trans (b.mono h.2.size)⟩
theorem wrap_u8_nat (a : Nat) (ha : a < 256) : IntKind.u8.wrap (a : Int) = (a : Int) := by
  simp only [IntKind.wrap]
  simp [IntKind.signed, IntKind.bits]
  omega
/-- a list of numbers that a call has made -/
def Dn (v : Value) (w : World) (pn : Nat) (qs : List Int) : Prop := ∃ y cy, v = .slice y pn cy ∧ Ints w y qs
theorem Dn.kept {v : Value} {w w' : World} {pn : Nat} {qs : List Int} (h : Dn v w pn qs) (b : Below w.heap.size w w') : Dn v w' pn qs := by
  obtain ⟨y, cy, h1, h2⟩ := h
  exact ⟨y, cy, h1, h2.kept b⟩
theorem lay1 (w : World) (a : Nat) : Lay (.slice (some ⟨w.heap.size, 0, none⟩) 1 1) (w.alloc (.cells #[.int .u8 (a : Int)] 5)) [a] :=
  ⟨w.heap.size, rfl, by simp, fun j h => by
    match j, h with
    | 0, _ => simp⟩
theorem lay2 (w : World) (a b : Nat) : Lay (.slice (some ⟨w.heap.size, 0, none⟩) 2 2) (w.alloc (.cells #[.int .u8 (a : Int), .int .u8 (b : Int)] 5)) [a, b] :=
  ⟨w.heap.size, rfl, by simp, fun j h => by
    match j, h with
    | 0, _ => simp
    | 1, _ => simp⟩
theorem lay3 (w : World) (a b c : Nat) : Lay (.slice (some ⟨w.heap.size, 0, none⟩) 3 3) (w.alloc (.cells #[.int .u8 (a : Int), .int .u8 (b : Int), .int .u8 (c : Int)] 5)) [a, b, c] :=
  ⟨w.heap.size, rfl, by simp, fun j h => by
    match j, h with
    | 0, _ => simp
    | 1, _ => simp
    | 2, _ => simp⟩

set_option linter.unusedSimpArgs false in
set_option maxHeartbeats 1000000 in
set_option maxRecDepth 20000 in
theorem spec_l11Put_core (k : Int) (D S Wd Hi kd bt fl lst : Nat) (srt fr : Int) (ca : Option Addr) (cn cc : Nat) (pa : Option Addr) (pn pc : Nat) (qs : List Int) (T T2 T3 : List UInt8) (runs : Bool) (w : World) (hcl : cn ≤ 256) (hW : Wd ≤ 20) (hH : Hi ≤ 20) (hD : D ≤ 32) (hDS : D = 8 * S)
    (hsr : 0 ≤ srt ∧ srt ≤ 3) (hfr : 0 ≤ fr ∧ fr ≤ 1) (hkd : srt + 8 * fr = (kd : Int)) (hbt : bt = if 0 < cn then 24 else 0) (hlst : lst = if 0 < cn then 1 else 0) (hfl : fl = if k = 3 then 40 else 32)
    (hT : ∀ w' : World, Calls Try.prog 14 #[.agg #[.int .i64 k, .int .i64 (D : Int), .int .i64 (Wd : Int), .int .i64 (Hi : Int), .slice ca cn cc, .slice pa pn pc]] w' fun e w'' => e = .returned (.int .i64 srt) ∧ Below w'.heap.size w' w'')
    (hF : ∀ w' : World, Calls Try.prog 33 #[.bool runs] w' fun e w'' => e = .returned (.int .i64 fr) ∧ w'' = w')
    (hC : ∀ w' : World, Below w.heap.size w w' → Calls Try.prog 35 #[.slice ca cn cc, .int .i64 3] w' fun e w'' => e = .returned (.string ⟨T2.toArray⟩) ∧ Below w'.heap.size w' w'')
    (hDN : ∀ w' : World, Below w.heap.size w w' → Calls Try.prog 37 #[.agg #[.int .i64 k, .int .i64 (D : Int), .int .i64 (Wd : Int), .int .i64 (Hi : Int), .slice ca cn cc, .slice pa pn pc]] w' fun e w'' => (∃ y cy, e = .returned (.slice y pn cy) ∧ Ints w'' y qs) ∧ Below w'.heap.size w' w'')
    (hRN : runs = true → ∀ (y : Option Addr) (cy : Nat) (w' : World), Ints w' y qs → Calls Try.prog 36 #[.slice y pn cy, .int .i64 (S : Int)] w' fun e w'' => e = .returned (.string ⟨T3.toArray⟩) ∧ Below w'.heap.size w' w'')
    (hRP : runs = false → ∀ (y : Option Addr) (cy : Nat) (w' : World), Ints w' y qs → Calls Try.prog 35 #[.slice y pn cy, .int .i64 (S : Int)] w' fun e w'' => e = .returned (.string ⟨T3.toArray⟩) ∧ Below w'.heap.size w' w'')
    (n2 : T2.length ≤ 768) (n3 : T3.length ≤ 300000)
    (hTT : T = ([0, lst, kd].map UInt8.ofNat ++ Pt.low 0 2 ++ Pt.low cn 2 ++ [bt].map UInt8.ofNat) ++ Pt.low 0 4 ++ Pt.low Wd 2 ++ Pt.low Hi 2 ++ [D, fl].map UInt8.ofNat ++ T2 ++ T3) :
    Calls Try.prog 15 #[.agg #[.int .i64 k, .int .i64 (D : Int), .int .i64 (Wd : Int), .int .i64 (Hi : Int), .slice ca cn cc, .slice pa pn pc], .bool runs] w fun e w' => e = .returned (.string ⟨T.toArray⟩) ∧ Below w.heap.size w w' := by
  have hB0 : Below w.heap.size w (w.alloc (.cells #[.int .i64 k, .int .i64 (D : Int), .int .i64 (Wd : Int), .int .i64 (Hi : Int), .slice ca cn cc, .slice pa pn pc] 27)) := (Below.refl _ _).alloc (Nat.le_refl _) _
  have HA0 : Hid (Bx (w.alloc (.cells #[.int .i64 k, .int .i64 (D : Int), .int .i64 (Wd : Int), .int .i64 (Hi : Int), .slice ca cn cc, .slice pa pn pc] 27)) w.heap.size (.int .i64 k) (.int .i64 (D : Int)) (.int .i64 (Wd : Int)) (.int .i64 (Hi : Int)) (.slice ca cn cc) (.slice pa pn pc)) := bx_new w _ _ _ _ _ _ 27
  have HT : Hid (∀ w' : World, Calls Try.prog 14 #[.agg #[.int .i64 k, .int .i64 (D : Int), .int .i64 (Wd : Int), .int .i64 (Hi : Int), .slice ca cn cc, .slice pa pn pc]] w' fun e w'' => e = .returned (.int .i64 srt) ∧ Below w'.heap.size w' w'') := hT
  have HF : Hid (∀ w' : World, Calls Try.prog 33 #[.bool runs] w' fun e w'' => e = .returned (.int .i64 fr) ∧ w'' = w') := hF
  have HC : Hid (∀ w' : World, Below w.heap.size w w' → Calls Try.prog 35 #[.slice ca cn cc, .int .i64 3] w' fun e w'' => e = .returned (.string ⟨T2.toArray⟩) ∧ Below w'.heap.size w' w'') := hC
  have HDN : Hid (∀ w' : World, Below w.heap.size w w' → Calls Try.prog 37 #[.agg #[.int .i64 k, .int .i64 (D : Int), .int .i64 (Wd : Int), .int .i64 (Hi : Int), .slice ca cn cc, .slice pa pn pc]] w' fun e w'' => (∃ y cy, e = .returned (.slice y pn cy) ∧ Ints w'' y qs) ∧ Below w'.heap.size w' w'') := hDN
  have HRN : Hid (runs = true → ∀ (y : Option Addr) (cy : Nat) (w' : World), Ints w' y qs → Calls Try.prog 36 #[.slice y pn cy, .int .i64 (S : Int)] w' fun e w'' => e = .returned (.string ⟨T3.toArray⟩) ∧ Below w'.heap.size w' w'') := hRN
  have HRP : Hid (runs = false → ∀ (y : Option Addr) (cy : Nat) (w' : World), Ints w' y qs → Calls Try.prog 35 #[.slice y pn cy, .int .i64 (S : Int)] w' fun e w'' => e = .returned (.string ⟨T3.toArray⟩) ∧ Below w'.heap.size w' w'') := hRP
  have eq1 : (D : Int) / 8 = (S : Int) := by omega
  have eq2 : Int.tdiv (D : Int) 8 = (S : Int) := by rw [Int.tdiv_eq_ediv_of_nonneg (by omega)]; exact eq1
  have eq3 : IntKind.i64.wrap (S : Int) = (S : Int) := wrap_i64_nat S (by omega)
  have HBT : Hid (bt = if 0 < cn then 24 else 0) := hbt
  have HFL : Hid (fl = if k = 3 then 40 else 32) := hfl
  have HLS : Hid (lst = if 0 < cn then 1 else 0) := hlst
  have bbt : bt ≤ 24 := by rw [hbt]; split <;> omega
  have bfl : fl ≤ 40 := by rw [hfl]; split <;> omega
  have bls : lst ≤ 1 := by rw [hlst]; split <;> omega
  have bkd : kd ≤ 11 := by omega
  obtain ⟨hsr0, hsr1⟩ := hsr
  obtain ⟨hfr0, hfr1⟩ := hfr
  have HKD : Hid (srt + 8 * fr = (kd : Int)) := hkd
  have HDS : Hid (D = 8 * S) := hDS
  have HTT : Hid _ := hTT
  clear hDN hRN hRP hT hF hC hbt hfl hlst hkd hDS hTT
  go_enter Try.func15, Try.ntmps15
  go_wp2_with fail
  refine (HT.out _).mono ?_
  rintro e w1 ⟨rfl, b1⟩
  have bel1 := hB0.trans (b1.mono hB0.size)
  have HA1 : Hid (Bx w1 w.heap.size (.int .i64 k) (.int .i64 (D : Int)) (.int .i64 (Wd : Int)) (.int .i64 (Hi : Int)) (.slice ca cn cc) (.slice pa pn pc)) := HA0.out.kept b1
  clear b1 hB0 HA0 HT
  go_wp2_with fail
  refine (HF.out _).mono ?_
  rintro e w2 ⟨rfl, hw2⟩
  replace hw2 := hw2.symm
  subst hw2
  clear HF
  have e1 : IntKind.i64.wrap (srt + 8 * fr) = (kd : Int) := by rw [HKD.out]; exact wrap_i64_nat kd (by omega)
  obtain ⟨_, a0, a1, a2, a3, a4, a5⟩ := HA1.out
  go_upto_if 19 with fail
  go_cut [6, 19] from 20 (fun x _ wc => x = .int .i64 (bt : Int) ∧ wc = w1)
  case first =>
    by_cases hn0 : 0 < cn
    · have hni : (0 : Int) < (cn : Int) := by omega
      have hb := HBT.out
      rw [if_pos hn0] at hb
      subst hb
      go_wp2_with fail
      go_meet
      case rel => exact ⟨rfl, rfl⟩
    · have hni : ¬ (0 : Int) < (cn : Int) := by omega
      have hb := HBT.out
      rw [if_neg hn0] at hb
      subst hb
      go_wp2_with fail
      go_meet
      case rel => exact ⟨rfl, rfl⟩
  obtain ⟨rfl, hwc⟩ := hcut
  subst hwc
  go_upto_if 22 with fail
  go_cut [7, 22] from 23 (fun x _ wx => x = .int .i64 (fl : Int) ∧ wx = wc)
  case first =>
    by_cases hn0 : k = 3
    · have hb := HFL.out
      rw [if_pos hn0] at hb
      subst hb
      subst hn0
      go_wp2_with fail
      go_meet
      case rel => exact ⟨rfl, rfl⟩
    · have hb := HFL.out
      rw [if_neg hn0] at hb
      subst hb
      go_wp2_with fail
      go_meet
      case rel => exact ⟨rfl, rfl⟩
  obtain ⟨rfl, hwc2⟩ := hcut
  subst hwc2
  clear e1 HBT HFL
  have eu1 : IntKind.u8.wrap (lst : Int) = (lst : Int) := wrap_u8_nat lst (by omega)
  have eu2 : IntKind.u8.wrap (kd : Int) = (kd : Int) := wrap_u8_nat kd (by omega)
  have eu3 : IntKind.u8.wrap (bt : Int) = (bt : Int) := wrap_u8_nat bt (by omega)
  have eu4 : IntKind.u8.wrap (fl : Int) = (fl : Int) := wrap_u8_nat fl (by omega)
  have eu5 : IntKind.u8.wrap (D : Int) = (D : Int) := wrap_u8_nat D (by omega)
  have HS1 : Hid (BxS w wc (.int .i64 k) (.int .i64 (D : Int)) (.int .i64 (Wd : Int)) (.int .i64 (Hi : Int)) (.slice ca cn cc) (.slice pa pn pc)) := ⟨HA1.out, bel1⟩
  obtain ⟨p0, hp0⟩ : ∃ X, X = Pt.low 0 2 := ⟨_, rfl⟩
  have lp0 : p0.length ≤ 4 := by rw [hp0, Pt.low_len]; omega
  have HN0 : Hid (∀ w' : World, Calls Try.prog 34 #[.int .i64 0, .int .i64 2, .bool false] w' fun e w'' => e = .returned (.string ⟨p0.toArray⟩) ∧ Below w'.heap.size w' w'') := fun w' => by rw [hp0]; exact l1Num_low 0 2 w' (by omega) (by omega)
  obtain ⟨p1, hp1⟩ : ∃ X, X = Pt.low cn 2 := ⟨_, rfl⟩
  have lp1 : p1.length ≤ 4 := by rw [hp1, Pt.low_len]; omega
  have HN1 : Hid (∀ w' : World, Calls Try.prog 34 #[.int .i64 (cn : Int), .int .i64 2, .bool false] w' fun e w'' => e = .returned (.string ⟨p1.toArray⟩) ∧ Below w'.heap.size w' w'') := fun w' => by rw [hp1]; exact l1Num_low cn 2 w' (by omega) (by omega)
  obtain ⟨p4, hp4⟩ : ∃ X, X = Pt.low 0 4 := ⟨_, rfl⟩
  have lp4 : p4.length ≤ 4 := by rw [hp4, Pt.low_len]; omega
  have HN4 : Hid (∀ w' : World, Calls Try.prog 34 #[.int .i64 0, .int .i64 4, .bool false] w' fun e w'' => e = .returned (.string ⟨p4.toArray⟩) ∧ Below w'.heap.size w' w'') := fun w' => by rw [hp4]; exact l1Num_low 0 4 w' (by omega) (by omega)
  obtain ⟨pw, hpw⟩ : ∃ X, X = Pt.low Wd 2 := ⟨_, rfl⟩
  have lpw : pw.length ≤ 4 := by rw [hpw, Pt.low_len]; omega
  have HNw : Hid (∀ w' : World, Calls Try.prog 34 #[.int .i64 (Wd : Int), .int .i64 2, .bool false] w' fun e w'' => e = .returned (.string ⟨pw.toArray⟩) ∧ Below w'.heap.size w' w'') := fun w' => by rw [hpw]; exact l1Num_low Wd 2 w' (by omega) (by omega)
  obtain ⟨ph, hph⟩ : ∃ X, X = Pt.low Hi 2 := ⟨_, rfl⟩
  have lph : ph.length ≤ 4 := by rw [hph, Pt.low_len]; omega
  have HNh : Hid (∀ w' : World, Calls Try.prog 34 #[.int .i64 (Hi : Int), .int .i64 2, .bool false] w' fun e w'' => e = .returned (.string ⟨ph.toArray⟩) ∧ Below w'.heap.size w' w'') := fun w' => by rw [hph]; exact l1Num_low Hi 2 w' (by omega) (by omega)
  obtain ⟨X3, hX3⟩ : ∃ X, X = [0, lst, kd].map UInt8.ofNat := ⟨_, rfl⟩
  have HX3 : Hid (X3 = [0, lst, kd].map UInt8.ofNat) := hX3
  have lX3 : X3.length ≤ 3 := by rw [hX3]; simp
  obtain ⟨X1, hX1⟩ : ∃ X, X = [bt].map UInt8.ofNat := ⟨_, rfl⟩
  have HX1 : Hid (X1 = [bt].map UInt8.ofNat) := hX1
  have lX1 : X1.length ≤ 3 := by rw [hX1]; simp
  obtain ⟨X2, hX2⟩ : ∃ X, X = [D, fl].map UInt8.ofNat := ⟨_, rfl⟩
  have HX2 : Hid (X2 = [D, fl].map UInt8.ofNat) := hX2
  have lX2 : X2.length ≤ 3 := by rw [hX2]; simp
  obtain ⟨E1, hE1⟩ : ∃ X, X = X3 ++ p0 := ⟨_, rfl⟩
  have HE1 : Hid (E1 = X3 ++ p0) := hE1
  have lE1 : E1.length ≤ 10 := by rw [hE1, List.length_append]; omega
  obtain ⟨E2, hE2⟩ : ∃ X, X = E1 ++ p1 := ⟨_, rfl⟩
  have HE2 : Hid (E2 = E1 ++ p1) := hE2
  have lE2 : E2.length ≤ 20 := by rw [hE2, List.length_append]; omega
  obtain ⟨E3, hE3⟩ : ∃ X, X = E2 ++ X1 := ⟨_, rfl⟩
  have HE3 : Hid (E3 = E2 ++ X1) := hE3
  have lE3 : E3.length ≤ 30 := by rw [hE3, List.length_append]; omega
  obtain ⟨C1, hC1⟩ : ∃ X, X = E3 ++ p4 := ⟨_, rfl⟩
  have HC1 : Hid (C1 = E3 ++ p4) := hC1
  have lC1 : C1.length ≤ 40 := by rw [hC1, List.length_append]; omega
  obtain ⟨C2, hC2⟩ : ∃ X, X = C1 ++ pw := ⟨_, rfl⟩
  have HC2 : Hid (C2 = C1 ++ pw) := hC2
  have lC2 : C2.length ≤ 50 := by rw [hC2, List.length_append]; omega
  obtain ⟨C3, hC3⟩ : ∃ X, X = C2 ++ ph := ⟨_, rfl⟩
  have HC3 : Hid (C3 = C2 ++ ph) := hC3
  have lC3 : C3.length ≤ 60 := by rw [hC3, List.length_append]; omega
  obtain ⟨C4, hC4⟩ : ∃ X, X = C3 ++ X2 := ⟨_, rfl⟩
  have HC4 : Hid (C4 = C3 ++ X2) := hC4
  have lC4 : C4.length ≤ 70 := by rw [hC4, List.length_append]; omega
  obtain ⟨C5, hC5⟩ : ∃ X, X = C4 ++ T2 := ⟨_, rfl⟩
  have HC5 : Hid (C5 = C4 ++ T2) := hC5
  have lC5 : C5.length ≤ 1000 := by rw [hC5, List.length_append]; omega
  have HT : Hid (T = C5 ++ T3) := by show _ = _; rw [HTT.out, hC5, hC4, hC3, hC2, hC1, hE3, hE2, hE1, hX3, hX1, hX2, hp0, hp1, hp4, hpw, hph]
  clear hX3 hX1 hX2 hE1 hE2 hE3 hC1 hC2 hC3 hC4 hC5 hp0 hp1 hp4 hpw hph HTT
  have HL : Hid (∀ w' : World, Calls Try.prog 33 #[.bool (decide (0 < cn))] w' fun e w'' => e = .returned (.int .i64 (lst : Int)) ∧ Below w'.heap.size w' w'') := fun w' => (l9Flag_any (decide (0 < cn)) w').mono (fun e w'' h => ⟨by rw [h.1, HLS.out]; by_cases h0 : 0 < cn <;> simp [h0], by rw [h.2]; exact Below.refl _ _⟩)
  clear a0 a1 a2 a3 a4 a5 HA1
  go_wp2_with fail
  refine wp_region_told (S := (fun wz => BxS w wz (.int .i64 k) (.int .i64 (D : Int)) (.int .i64 (Wd : Int)) (.int .i64 (Hi : Int)) (.slice ca cn cc) (.slice pa pn pc))) 22 86 [.is (.pointer (some ⟨w.heap.size, 4, none⟩)), .is (.slice ca cn cc), .is (.int .i64 (cn : Int)), .is (.bool (decide (0 < cn))), .is (.int .i64 (lst : Int)), .is (.int .u8 (lst : Int)), .is (.int .i64 (kd : Int)), .is (.int .u8 (kd : Int)), .lay [0, lst, kd], .is (.string ⟨(X3).toArray⟩), .is (.string ⟨(p0).toArray⟩), .is (.string ⟨(E1).toArray⟩), .is (.pointer (some ⟨w.heap.size, 4, none⟩)), .is (.slice ca cn cc), .is (.int .i64 (cn : Int)), .is (.string ⟨(p1).toArray⟩), .is (.string ⟨(E2).toArray⟩), .is (.int .i64 (bt : Int)), .is (.int .u8 (bt : Int)), .lay [bt], .is (.string ⟨(X1).toArray⟩), .is (.string ⟨(E3).toArray⟩)] (by kernel_rfl) (by kernel_rfl) (by rfl) (fun _ _ _ _ hd h => ⟨hd.trans h.1, h.2⟩) (fun vs => by simp only [puts, List.getElem?_toArray, List.getElem?_cons_succ, List.getElem?_cons_zero, Option.bind_some, Act.put, List.setIfInBounds_toArray, List.set_cons_zero, List.set_cons_succ]; exact rfl) (HS1.out.kept (Below.refl _ _).drew) ?_ ?_
  · refine ToldFrom.cons rfl (fun vs wz hS hd K hK => ?_) ?_
    · try dsimp only at hK ⊢
      try simp only [List.getElem_toArray, List.getElem_cons_succ, List.getElem_cons_zero, Act.put, List.setIfInBounds_toArray, List.set_cons_zero, List.set_cons_succ]
      obtain ⟨⟨_, s0, s1, s2, s3, s4, s5⟩, hBl⟩ := id hS
      go_simp
      exact hK.out _ _ hS (Below.refl _ _) rfl
    refine ToldFrom.cons rfl (fun vs wz hS hd K hK => ?_) ?_
    · try dsimp only at hK ⊢
      have h0 : vs 0 = (.pointer (some ⟨w.heap.size, 4, none⟩)) := hd 0 (by kernel_rfl)
      generalize vs 0 = x0 at *
      subst h0
      try simp only [List.getElem_toArray, List.getElem_cons_succ, List.getElem_cons_zero, Act.put, List.setIfInBounds_toArray, List.set_cons_zero, List.set_cons_succ]
      obtain ⟨⟨_, s0, s1, s2, s3, s4, s5⟩, hBl⟩ := id hS
      go_simp
      exact hK.out _ _ hS (Below.refl _ _) rfl
    refine ToldFrom.cons rfl (fun vs wz hS hd K hK => ?_) ?_
    · try dsimp only at hK ⊢
      have h1 : vs 1 = (.slice ca cn cc) := hd 1 (by kernel_rfl)
      generalize vs 1 = x1 at *
      subst h1
      try simp only [List.getElem_toArray, List.getElem_cons_succ, List.getElem_cons_zero, Act.put, List.setIfInBounds_toArray, List.set_cons_zero, List.set_cons_succ]
      obtain ⟨⟨_, s0, s1, s2, s3, s4, s5⟩, hBl⟩ := id hS
      go_simp
      exact hK.out _ _ hS (Below.refl _ _) rfl
    refine ToldFrom.cons rfl (fun vs wz hS hd K hK => ?_) ?_
    · try dsimp only at hK ⊢
      have h2 : vs 2 = (.int .i64 (cn : Int)) := hd 2 (by kernel_rfl)
      generalize vs 2 = x2 at *
      subst h2
      try simp only [List.getElem_toArray, List.getElem_cons_succ, List.getElem_cons_zero, Act.put, List.setIfInBounds_toArray, List.set_cons_zero, List.set_cons_succ]
      obtain ⟨⟨_, s0, s1, s2, s3, s4, s5⟩, hBl⟩ := id hS
      go_simp
      exact hK.out _ _ hS (Below.refl _ _) rfl
    refine ToldFrom.cons rfl (fun vs wz hS hd K hK => ?_) ?_
    · try dsimp only at hK ⊢
      have h3 : vs 3 = (.bool (decide (0 < cn))) := hd 3 (by kernel_rfl)
      generalize vs 3 = x3 at *
      subst h3
      try simp only [List.getElem_toArray, List.getElem_cons_succ, List.getElem_cons_zero, Act.put, List.setIfInBounds_toArray, List.set_cons_zero, List.set_cons_succ]
      go_simp
      refine (HL.out _).mono ?_
      rintro e v1 ⟨rfl, b1⟩
      exact hK.out _ _ (hS.kept b1) b1 rfl
    refine ToldFrom.cons rfl (fun vs wz hS hd K hK => ?_) ?_
    · try dsimp only at hK ⊢
      have h4 : vs 4 = (.int .i64 (lst : Int)) := hd 4 (by kernel_rfl)
      generalize vs 4 = x4 at *
      subst h4
      try simp only [List.getElem_toArray, List.getElem_cons_succ, List.getElem_cons_zero, Act.put, List.setIfInBounds_toArray, List.set_cons_zero, List.set_cons_succ]
      obtain ⟨⟨_, s0, s1, s2, s3, s4, s5⟩, hBl⟩ := id hS
      go_simp
      exact hK.out _ _ hS (Below.refl _ _) rfl
    refine ToldFrom.cons rfl (fun vs wz hS hd K hK => ?_) ?_
    · try dsimp only at hK ⊢
      try simp only [List.getElem_toArray, List.getElem_cons_succ, List.getElem_cons_zero, Act.put, List.setIfInBounds_toArray, List.set_cons_zero, List.set_cons_succ]
      obtain ⟨⟨_, s0, s1, s2, s3, s4, s5⟩, hBl⟩ := id hS
      go_simp
      exact hK.out _ _ hS (Below.refl _ _) rfl
    refine ToldFrom.cons rfl (fun vs wz hS hd K hK => ?_) ?_
    · try dsimp only at hK ⊢
      have h6 : vs 6 = (.int .i64 (kd : Int)) := hd 6 (by kernel_rfl)
      generalize vs 6 = x6 at *
      subst h6
      try simp only [List.getElem_toArray, List.getElem_cons_succ, List.getElem_cons_zero, Act.put, List.setIfInBounds_toArray, List.set_cons_zero, List.set_cons_succ]
      obtain ⟨⟨_, s0, s1, s2, s3, s4, s5⟩, hBl⟩ := id hS
      go_simp
      exact hK.out _ _ hS (Below.refl _ _) rfl
    refine ToldFrom.cons rfl (fun vs wz hS hd K hK => ?_) ?_
    · try dsimp only at hK ⊢
      have h5 : vs 5 = (.int .u8 (lst : Int)) := hd 5 (by kernel_rfl)
      generalize vs 5 = x5 at *
      subst h5
      have h7 : vs 7 = (.int .u8 (kd : Int)) := hd 7 (by kernel_rfl)
      generalize vs 7 = x7 at *
      subst h7
      try simp only [List.getElem_toArray, List.getElem_cons_succ, List.getElem_cons_zero, Act.put, List.setIfInBounds_toArray, List.set_cons_zero, List.set_cons_succ]
      go_simp
      exact hK.out _ _ (hS.kept ((Below.refl _ _).alloc (Nat.le_refl _) _)) ((Below.refl _ _).alloc (Nat.le_refl _) _) (lay3 wz 0 lst kd)
    refine ToldFrom.cons rfl (fun vs wz hS hd K hK => ?_) ?_
    · try dsimp only at hK ⊢
      have h8 : Lay (vs 8) wz [0, lst, kd] := hd 8 (by kernel_rfl)
      generalize vs 8 = x8 at *
      obtain ⟨B8, rfl, hB8, hC8⟩ := h8
      try simp only [List.getElem_toArray, List.getElem_cons_succ, List.getElem_cons_zero, Act.put, List.setIfInBounds_toArray, List.set_cons_zero, List.set_cons_succ]
      have ht : Sem.run Try.prog (convert 48 9 (.slice (some ⟨B8, 0, none⟩) 3 3)) wz = .ok (.string ⟨X3.toArray⟩) wz := by rw [HX3.out]; exact lay_text hC8
      go_simp
      exact hK.out _ _ hS (Below.refl _ _) rfl
    refine ToldFrom.cons rfl (fun vs wz hS hd K hK => ?_) ?_
    · try dsimp only at hK ⊢
      try simp only [List.getElem_toArray, List.getElem_cons_succ, List.getElem_cons_zero, Act.put, List.setIfInBounds_toArray, List.set_cons_zero, List.set_cons_succ]
      go_simp
      refine (HN0.out _).mono ?_
      rintro e v1 ⟨rfl, b1⟩
      exact hK.out _ _ (hS.kept b1) b1 rfl
    refine ToldFrom.cons rfl (fun vs wz hS hd K hK => ?_) ?_
    · try dsimp only at hK ⊢
      have h9 : vs 9 = (.string ⟨(X3).toArray⟩) := hd 9 (by kernel_rfl)
      generalize vs 9 = x9 at *
      subst h9
      have h10 : vs 10 = (.string ⟨(p0).toArray⟩) := hd 10 (by kernel_rfl)
      generalize vs 10 = x10 at *
      subst h10
      try simp only [List.getElem_toArray, List.getElem_cons_succ, List.getElem_cons_zero, Act.put, List.setIfInBounds_toArray, List.set_cons_zero, List.set_cons_succ]
      have hlen : ¬ 9223372036854775807 < X3.length + p0.length := by omega
      go_simp
      exact hK.out _ _ hS (Below.refl _ _) (by first | (show Value.string ⟨(X3 ++ p0).toArray⟩ = .string ⟨E1.toArray⟩; rw [HE1.out]) | (show Value.string (⟨X3.toArray⟩ ++ ⟨p0.toArray⟩) = .string ⟨E1.toArray⟩; rw [HE1.out, ByteArray.mk_append_mk]))
    refine ToldFrom.cons rfl (fun vs wz hS hd K hK => ?_) ?_
    · try dsimp only at hK ⊢
      try simp only [List.getElem_toArray, List.getElem_cons_succ, List.getElem_cons_zero, Act.put, List.setIfInBounds_toArray, List.set_cons_zero, List.set_cons_succ]
      obtain ⟨⟨_, s0, s1, s2, s3, s4, s5⟩, hBl⟩ := id hS
      go_simp
      exact hK.out _ _ hS (Below.refl _ _) rfl
    refine ToldFrom.cons rfl (fun vs wz hS hd K hK => ?_) ?_
    · try dsimp only at hK ⊢
      have h12 : vs 12 = (.pointer (some ⟨w.heap.size, 4, none⟩)) := hd 12 (by kernel_rfl)
      generalize vs 12 = x12 at *
      subst h12
      try simp only [List.getElem_toArray, List.getElem_cons_succ, List.getElem_cons_zero, Act.put, List.setIfInBounds_toArray, List.set_cons_zero, List.set_cons_succ]
      obtain ⟨⟨_, s0, s1, s2, s3, s4, s5⟩, hBl⟩ := id hS
      go_simp
      exact hK.out _ _ hS (Below.refl _ _) rfl
    refine ToldFrom.cons rfl (fun vs wz hS hd K hK => ?_) ?_
    · try dsimp only at hK ⊢
      have h13 : vs 13 = (.slice ca cn cc) := hd 13 (by kernel_rfl)
      generalize vs 13 = x13 at *
      subst h13
      try simp only [List.getElem_toArray, List.getElem_cons_succ, List.getElem_cons_zero, Act.put, List.setIfInBounds_toArray, List.set_cons_zero, List.set_cons_succ]
      obtain ⟨⟨_, s0, s1, s2, s3, s4, s5⟩, hBl⟩ := id hS
      go_simp
      exact hK.out _ _ hS (Below.refl _ _) rfl
    refine ToldFrom.cons rfl (fun vs wz hS hd K hK => ?_) ?_
    · try dsimp only at hK ⊢
      have h14 : vs 14 = (.int .i64 (cn : Int)) := hd 14 (by kernel_rfl)
      generalize vs 14 = x14 at *
      subst h14
      try simp only [List.getElem_toArray, List.getElem_cons_succ, List.getElem_cons_zero, Act.put, List.setIfInBounds_toArray, List.set_cons_zero, List.set_cons_succ]
      go_simp
      refine (HN1.out _).mono ?_
      rintro e v1 ⟨rfl, b1⟩
      exact hK.out _ _ (hS.kept b1) b1 rfl
    refine ToldFrom.cons rfl (fun vs wz hS hd K hK => ?_) ?_
    · try dsimp only at hK ⊢
      have h11 : vs 11 = (.string ⟨(E1).toArray⟩) := hd 11 (by kernel_rfl)
      generalize vs 11 = x11 at *
      subst h11
      have h15 : vs 15 = (.string ⟨(p1).toArray⟩) := hd 15 (by kernel_rfl)
      generalize vs 15 = x15 at *
      subst h15
      try simp only [List.getElem_toArray, List.getElem_cons_succ, List.getElem_cons_zero, Act.put, List.setIfInBounds_toArray, List.set_cons_zero, List.set_cons_succ]
      have hlen : ¬ 9223372036854775807 < E1.length + p1.length := by omega
      go_simp
      exact hK.out _ _ hS (Below.refl _ _) (by first | (show Value.string ⟨(E1 ++ p1).toArray⟩ = .string ⟨E2.toArray⟩; rw [HE2.out]) | (show Value.string (⟨E1.toArray⟩ ++ ⟨p1.toArray⟩) = .string ⟨E2.toArray⟩; rw [HE2.out, ByteArray.mk_append_mk]))
    refine ToldFrom.cons rfl (fun vs wz hS hd K hK => ?_) ?_
    · try dsimp only at hK ⊢
      try simp only [List.getElem_toArray, List.getElem_cons_succ, List.getElem_cons_zero, Act.put, List.setIfInBounds_toArray, List.set_cons_zero, List.set_cons_succ]
      obtain ⟨⟨_, s0, s1, s2, s3, s4, s5⟩, hBl⟩ := id hS
      go_simp
      exact hK.out _ _ hS (Below.refl _ _) rfl
    refine ToldFrom.cons rfl (fun vs wz hS hd K hK => ?_) ?_
    · try dsimp only at hK ⊢
      have h17 : vs 17 = (.int .i64 (bt : Int)) := hd 17 (by kernel_rfl)
      generalize vs 17 = x17 at *
      subst h17
      try simp only [List.getElem_toArray, List.getElem_cons_succ, List.getElem_cons_zero, Act.put, List.setIfInBounds_toArray, List.set_cons_zero, List.set_cons_succ]
      obtain ⟨⟨_, s0, s1, s2, s3, s4, s5⟩, hBl⟩ := id hS
      go_simp
      exact hK.out _ _ hS (Below.refl _ _) rfl
    refine ToldFrom.cons rfl (fun vs wz hS hd K hK => ?_) ?_
    · try dsimp only at hK ⊢
      have h18 : vs 18 = (.int .u8 (bt : Int)) := hd 18 (by kernel_rfl)
      generalize vs 18 = x18 at *
      subst h18
      try simp only [List.getElem_toArray, List.getElem_cons_succ, List.getElem_cons_zero, Act.put, List.setIfInBounds_toArray, List.set_cons_zero, List.set_cons_succ]
      go_simp
      exact hK.out _ _ (hS.kept ((Below.refl _ _).alloc (Nat.le_refl _) _)) ((Below.refl _ _).alloc (Nat.le_refl _) _) (lay1 wz bt)
    refine ToldFrom.cons rfl (fun vs wz hS hd K hK => ?_) ?_
    · try dsimp only at hK ⊢
      have h19 : Lay (vs 19) wz [bt] := hd 19 (by kernel_rfl)
      generalize vs 19 = x19 at *
      obtain ⟨B19, rfl, hB19, hC19⟩ := h19
      try simp only [List.getElem_toArray, List.getElem_cons_succ, List.getElem_cons_zero, Act.put, List.setIfInBounds_toArray, List.set_cons_zero, List.set_cons_succ]
      have ht : Sem.run Try.prog (convert 48 9 (.slice (some ⟨B19, 0, none⟩) 1 1)) wz = .ok (.string ⟨X1.toArray⟩) wz := by rw [HX1.out]; exact lay_text hC19
      go_simp
      exact hK.out _ _ hS (Below.refl _ _) rfl
    refine ToldFrom.cons rfl (fun vs wz hS hd K hK => ?_) ?_
    · try dsimp only at hK ⊢
      have h16 : vs 16 = (.string ⟨(E2).toArray⟩) := hd 16 (by kernel_rfl)
      generalize vs 16 = x16 at *
      subst h16
      have h20 : vs 20 = (.string ⟨(X1).toArray⟩) := hd 20 (by kernel_rfl)
      generalize vs 20 = x20 at *
      subst h20
      try simp only [List.getElem_toArray, List.getElem_cons_succ, List.getElem_cons_zero, Act.put, List.setIfInBounds_toArray, List.set_cons_zero, List.set_cons_succ]
      have hlen : ¬ 9223372036854775807 < E2.length + X1.length := by omega
      go_simp
      exact hK.out _ _ hS (Below.refl _ _) (by first | (show Value.string ⟨(E2 ++ X1).toArray⟩ = .string ⟨E3.toArray⟩; rw [HE3.out]) | (show Value.string (⟨E2.toArray⟩ ++ ⟨X1.toArray⟩) = .string ⟨E3.toArray⟩; rw [HE3.out, ByteArray.mk_append_mk]))
    exact ToldFrom.nil
  · intro vs wz hS hd
    try dsimp only
    have h21 : vs 21 = .string ⟨E3.toArray⟩ := hd 21 (by omega)
    clear hd
    generalize vs 0 = y0 at *
    generalize vs 1 = y1 at *
    generalize vs 2 = y2 at *
    generalize vs 3 = y3 at *
    generalize vs 4 = y4 at *
    generalize vs 5 = y5 at *
    generalize vs 6 = y6 at *
    generalize vs 7 = y7 at *
    generalize vs 8 = y8 at *
    generalize vs 9 = y9 at *
    generalize vs 10 = y10 at *
    generalize vs 11 = y11 at *
    generalize vs 12 = y12 at *
    generalize vs 13 = y13 at *
    generalize vs 14 = y14 at *
    generalize vs 15 = y15 at *
    generalize vs 16 = y16 at *
    generalize vs 17 = y17 at *
    generalize vs 18 = y18 at *
    generalize vs 19 = y19 at *
    generalize vs 20 = y20 at *
    generalize vs 21 = y21 at *
    subst h21
    refine wpAnyH_take (i := 22) (v := .string ⟨E3.toArray⟩) rfl (by kernel_rfl) (by kernel_rfl) (by kernel_rfl) (fun _ _ _ h => h) (Or.inl ⟨by rfl, ?_⟩) trivial ?_
    · intro wy _
      go_simp
    refine wpAnyH_done (by kernel_rfl) ?_ _
    try simp only [List.getElem_toArray, List.getElem_cons_succ, List.getElem_cons_zero, Act.put, List.setIfInBounds_toArray, List.set_cons_zero, List.set_cons_succ]
    have HS2 : Hid (BxS w wz (.int .i64 k) (.int .i64 (D : Int)) (.int .i64 (Wd : Int)) (.int .i64 (Hi : Int)) (.slice ca cn cc) (.slice pa pn pc)) := hS
    clear hS HS1
    go_wp2_with fail
    refine wp_region_told (S := (fun wz => BxS w wz (.int .i64 k) (.int .i64 (D : Int)) (.int .i64 (Wd : Int)) (.int .i64 (Hi : Int)) (.slice ca cn cc) (.slice pa pn pc))) 23 86 [.is (.string ⟨(E3).toArray⟩), .is (.string ⟨(p4).toArray⟩), .is (.string ⟨(C1).toArray⟩), .is (.pointer (some ⟨w.heap.size, 2, none⟩)), .is (.int .i64 (Wd : Int)), .is (.string ⟨(pw).toArray⟩), .is (.string ⟨(C2).toArray⟩), .is (.pointer (some ⟨w.heap.size, 3, none⟩)), .is (.int .i64 (Hi : Int)), .is (.string ⟨(ph).toArray⟩), .is (.string ⟨(C3).toArray⟩), .is (.pointer (some ⟨w.heap.size, 1, none⟩)), .is (.int .i64 (D : Int)), .is (.int .u8 (D : Int)), .is (.int .i64 (fl : Int)), .is (.int .u8 (fl : Int)), .lay [D, fl], .is (.string ⟨(X2).toArray⟩), .is (.string ⟨(C4).toArray⟩), .is (.pointer (some ⟨w.heap.size, 4, none⟩)), .is (.slice ca cn cc), .is (.string ⟨(T2).toArray⟩), .is (.string ⟨(C5).toArray⟩)] (by kernel_rfl) (by kernel_rfl) (by rfl) (fun _ _ _ _ hd h => ⟨hd.trans h.1, h.2⟩) (fun vs => by simp only [puts, List.getElem?_toArray, List.getElem?_cons_succ, List.getElem?_cons_zero, Option.bind_some, Act.put, List.setIfInBounds_toArray, List.set_cons_zero, List.set_cons_succ]; exact rfl) (HS2.out.kept (Below.refl _ _).drew) ?_ ?_
    · refine ToldFrom.cons rfl (fun vs wz hS hd K hK => ?_) ?_
      · try dsimp only at hK ⊢
        try simp only [List.getElem_toArray, List.getElem_cons_succ, List.getElem_cons_zero, Act.put, List.setIfInBounds_toArray, List.set_cons_zero, List.set_cons_succ]
        obtain ⟨⟨_, s0, s1, s2, s3, s4, s5⟩, hBl⟩ := id hS
        go_simp
        exact hK.out _ _ hS (Below.refl _ _) rfl
      refine ToldFrom.cons rfl (fun vs wz hS hd K hK => ?_) ?_
      · try dsimp only at hK ⊢
        try simp only [List.getElem_toArray, List.getElem_cons_succ, List.getElem_cons_zero, Act.put, List.setIfInBounds_toArray, List.set_cons_zero, List.set_cons_succ]
        go_simp
        refine (HN4.out _).mono ?_
        rintro e v1 ⟨rfl, b1⟩
        exact hK.out _ _ (hS.kept b1) b1 rfl
      refine ToldFrom.cons rfl (fun vs wz hS hd K hK => ?_) ?_
      · try dsimp only at hK ⊢
        have h0 : vs 0 = (.string ⟨(E3).toArray⟩) := hd 0 (by kernel_rfl)
        generalize vs 0 = x0 at *
        subst h0
        have h1 : vs 1 = (.string ⟨(p4).toArray⟩) := hd 1 (by kernel_rfl)
        generalize vs 1 = x1 at *
        subst h1
        try simp only [List.getElem_toArray, List.getElem_cons_succ, List.getElem_cons_zero, Act.put, List.setIfInBounds_toArray, List.set_cons_zero, List.set_cons_succ]
        have hlen : ¬ 9223372036854775807 < E3.length + p4.length := by omega
        go_simp
        exact hK.out _ _ hS (Below.refl _ _) (by first | (show Value.string ⟨(E3 ++ p4).toArray⟩ = .string ⟨C1.toArray⟩; rw [HC1.out]) | (show Value.string (⟨E3.toArray⟩ ++ ⟨p4.toArray⟩) = .string ⟨C1.toArray⟩; rw [HC1.out, ByteArray.mk_append_mk]))
      refine ToldFrom.cons rfl (fun vs wz hS hd K hK => ?_) ?_
      · try dsimp only at hK ⊢
        try simp only [List.getElem_toArray, List.getElem_cons_succ, List.getElem_cons_zero, Act.put, List.setIfInBounds_toArray, List.set_cons_zero, List.set_cons_succ]
        obtain ⟨⟨_, s0, s1, s2, s3, s4, s5⟩, hBl⟩ := id hS
        go_simp
        exact hK.out _ _ hS (Below.refl _ _) rfl
      refine ToldFrom.cons rfl (fun vs wz hS hd K hK => ?_) ?_
      · try dsimp only at hK ⊢
        have h3 : vs 3 = (.pointer (some ⟨w.heap.size, 2, none⟩)) := hd 3 (by kernel_rfl)
        generalize vs 3 = x3 at *
        subst h3
        try simp only [List.getElem_toArray, List.getElem_cons_succ, List.getElem_cons_zero, Act.put, List.setIfInBounds_toArray, List.set_cons_zero, List.set_cons_succ]
        obtain ⟨⟨_, s0, s1, s2, s3, s4, s5⟩, hBl⟩ := id hS
        go_simp
        exact hK.out _ _ hS (Below.refl _ _) rfl
      refine ToldFrom.cons rfl (fun vs wz hS hd K hK => ?_) ?_
      · try dsimp only at hK ⊢
        have h4 : vs 4 = (.int .i64 (Wd : Int)) := hd 4 (by kernel_rfl)
        generalize vs 4 = x4 at *
        subst h4
        try simp only [List.getElem_toArray, List.getElem_cons_succ, List.getElem_cons_zero, Act.put, List.setIfInBounds_toArray, List.set_cons_zero, List.set_cons_succ]
        go_simp
        refine (HNw.out _).mono ?_
        rintro e v1 ⟨rfl, b1⟩
        exact hK.out _ _ (hS.kept b1) b1 rfl
      refine ToldFrom.cons rfl (fun vs wz hS hd K hK => ?_) ?_
      · try dsimp only at hK ⊢
        have h2 : vs 2 = (.string ⟨(C1).toArray⟩) := hd 2 (by kernel_rfl)
        generalize vs 2 = x2 at *
        subst h2
        have h5 : vs 5 = (.string ⟨(pw).toArray⟩) := hd 5 (by kernel_rfl)
        generalize vs 5 = x5 at *
        subst h5
        try simp only [List.getElem_toArray, List.getElem_cons_succ, List.getElem_cons_zero, Act.put, List.setIfInBounds_toArray, List.set_cons_zero, List.set_cons_succ]
        have hlen : ¬ 9223372036854775807 < C1.length + pw.length := by omega
        go_simp
        exact hK.out _ _ hS (Below.refl _ _) (by first | (show Value.string ⟨(C1 ++ pw).toArray⟩ = .string ⟨C2.toArray⟩; rw [HC2.out]) | (show Value.string (⟨C1.toArray⟩ ++ ⟨pw.toArray⟩) = .string ⟨C2.toArray⟩; rw [HC2.out, ByteArray.mk_append_mk]))
      refine ToldFrom.cons rfl (fun vs wz hS hd K hK => ?_) ?_
      · try dsimp only at hK ⊢
        try simp only [List.getElem_toArray, List.getElem_cons_succ, List.getElem_cons_zero, Act.put, List.setIfInBounds_toArray, List.set_cons_zero, List.set_cons_succ]
        obtain ⟨⟨_, s0, s1, s2, s3, s4, s5⟩, hBl⟩ := id hS
        go_simp
        exact hK.out _ _ hS (Below.refl _ _) rfl
      refine ToldFrom.cons rfl (fun vs wz hS hd K hK => ?_) ?_
      · try dsimp only at hK ⊢
        have h7 : vs 7 = (.pointer (some ⟨w.heap.size, 3, none⟩)) := hd 7 (by kernel_rfl)
        generalize vs 7 = x7 at *
        subst h7
        try simp only [List.getElem_toArray, List.getElem_cons_succ, List.getElem_cons_zero, Act.put, List.setIfInBounds_toArray, List.set_cons_zero, List.set_cons_succ]
        obtain ⟨⟨_, s0, s1, s2, s3, s4, s5⟩, hBl⟩ := id hS
        go_simp
        exact hK.out _ _ hS (Below.refl _ _) rfl
      refine ToldFrom.cons rfl (fun vs wz hS hd K hK => ?_) ?_
      · try dsimp only at hK ⊢
        have h8 : vs 8 = (.int .i64 (Hi : Int)) := hd 8 (by kernel_rfl)
        generalize vs 8 = x8 at *
        subst h8
        try simp only [List.getElem_toArray, List.getElem_cons_succ, List.getElem_cons_zero, Act.put, List.setIfInBounds_toArray, List.set_cons_zero, List.set_cons_succ]
        go_simp
        refine (HNh.out _).mono ?_
        rintro e v1 ⟨rfl, b1⟩
        exact hK.out _ _ (hS.kept b1) b1 rfl
      refine ToldFrom.cons rfl (fun vs wz hS hd K hK => ?_) ?_
      · try dsimp only at hK ⊢
        have h6 : vs 6 = (.string ⟨(C2).toArray⟩) := hd 6 (by kernel_rfl)
        generalize vs 6 = x6 at *
        subst h6
        have h9 : vs 9 = (.string ⟨(ph).toArray⟩) := hd 9 (by kernel_rfl)
        generalize vs 9 = x9 at *
        subst h9
        try simp only [List.getElem_toArray, List.getElem_cons_succ, List.getElem_cons_zero, Act.put, List.setIfInBounds_toArray, List.set_cons_zero, List.set_cons_succ]
        have hlen : ¬ 9223372036854775807 < C2.length + ph.length := by omega
        go_simp
        exact hK.out _ _ hS (Below.refl _ _) (by first | (show Value.string ⟨(C2 ++ ph).toArray⟩ = .string ⟨C3.toArray⟩; rw [HC3.out]) | (show Value.string (⟨C2.toArray⟩ ++ ⟨ph.toArray⟩) = .string ⟨C3.toArray⟩; rw [HC3.out, ByteArray.mk_append_mk]))
      refine ToldFrom.cons rfl (fun vs wz hS hd K hK => ?_) ?_
      · try dsimp only at hK ⊢
        try simp only [List.getElem_toArray, List.getElem_cons_succ, List.getElem_cons_zero, Act.put, List.setIfInBounds_toArray, List.set_cons_zero, List.set_cons_succ]
        obtain ⟨⟨_, s0, s1, s2, s3, s4, s5⟩, hBl⟩ := id hS
        go_simp
        exact hK.out _ _ hS (Below.refl _ _) rfl
      refine ToldFrom.cons rfl (fun vs wz hS hd K hK => ?_) ?_
      · try dsimp only at hK ⊢
        have h11 : vs 11 = (.pointer (some ⟨w.heap.size, 1, none⟩)) := hd 11 (by kernel_rfl)
        generalize vs 11 = x11 at *
        subst h11
        try simp only [List.getElem_toArray, List.getElem_cons_succ, List.getElem_cons_zero, Act.put, List.setIfInBounds_toArray, List.set_cons_zero, List.set_cons_succ]
        obtain ⟨⟨_, s0, s1, s2, s3, s4, s5⟩, hBl⟩ := id hS
        go_simp
        exact hK.out _ _ hS (Below.refl _ _) rfl
      refine ToldFrom.cons rfl (fun vs wz hS hd K hK => ?_) ?_
      · try dsimp only at hK ⊢
        have h12 : vs 12 = (.int .i64 (D : Int)) := hd 12 (by kernel_rfl)
        generalize vs 12 = x12 at *
        subst h12
        try simp only [List.getElem_toArray, List.getElem_cons_succ, List.getElem_cons_zero, Act.put, List.setIfInBounds_toArray, List.set_cons_zero, List.set_cons_succ]
        obtain ⟨⟨_, s0, s1, s2, s3, s4, s5⟩, hBl⟩ := id hS
        go_simp
        exact hK.out _ _ hS (Below.refl _ _) rfl
      refine ToldFrom.cons rfl (fun vs wz hS hd K hK => ?_) ?_
      · try dsimp only at hK ⊢
        try simp only [List.getElem_toArray, List.getElem_cons_succ, List.getElem_cons_zero, Act.put, List.setIfInBounds_toArray, List.set_cons_zero, List.set_cons_succ]
        obtain ⟨⟨_, s0, s1, s2, s3, s4, s5⟩, hBl⟩ := id hS
        go_simp
        exact hK.out _ _ hS (Below.refl _ _) rfl
      refine ToldFrom.cons rfl (fun vs wz hS hd K hK => ?_) ?_
      · try dsimp only at hK ⊢
        have h14 : vs 14 = (.int .i64 (fl : Int)) := hd 14 (by kernel_rfl)
        generalize vs 14 = x14 at *
        subst h14
        try simp only [List.getElem_toArray, List.getElem_cons_succ, List.getElem_cons_zero, Act.put, List.setIfInBounds_toArray, List.set_cons_zero, List.set_cons_succ]
        obtain ⟨⟨_, s0, s1, s2, s3, s4, s5⟩, hBl⟩ := id hS
        go_simp
        exact hK.out _ _ hS (Below.refl _ _) rfl
      refine ToldFrom.cons rfl (fun vs wz hS hd K hK => ?_) ?_
      · try dsimp only at hK ⊢
        have h13 : vs 13 = (.int .u8 (D : Int)) := hd 13 (by kernel_rfl)
        generalize vs 13 = x13 at *
        subst h13
        have h15 : vs 15 = (.int .u8 (fl : Int)) := hd 15 (by kernel_rfl)
        generalize vs 15 = x15 at *
        subst h15
        try simp only [List.getElem_toArray, List.getElem_cons_succ, List.getElem_cons_zero, Act.put, List.setIfInBounds_toArray, List.set_cons_zero, List.set_cons_succ]
        go_simp
        exact hK.out _ _ (hS.kept ((Below.refl _ _).alloc (Nat.le_refl _) _)) ((Below.refl _ _).alloc (Nat.le_refl _) _) (lay2 wz D fl)
      refine ToldFrom.cons rfl (fun vs wz hS hd K hK => ?_) ?_
      · try dsimp only at hK ⊢
        have h16 : Lay (vs 16) wz [D, fl] := hd 16 (by kernel_rfl)
        generalize vs 16 = x16 at *
        obtain ⟨B16, rfl, hB16, hC16⟩ := h16
        try simp only [List.getElem_toArray, List.getElem_cons_succ, List.getElem_cons_zero, Act.put, List.setIfInBounds_toArray, List.set_cons_zero, List.set_cons_succ]
        have ht : Sem.run Try.prog (convert 48 9 (.slice (some ⟨B16, 0, none⟩) 2 2)) wz = .ok (.string ⟨X2.toArray⟩) wz := by rw [HX2.out]; exact lay_text hC16
        go_simp
        exact hK.out _ _ hS (Below.refl _ _) rfl
      refine ToldFrom.cons rfl (fun vs wz hS hd K hK => ?_) ?_
      · try dsimp only at hK ⊢
        have h10 : vs 10 = (.string ⟨(C3).toArray⟩) := hd 10 (by kernel_rfl)
        generalize vs 10 = x10 at *
        subst h10
        have h17 : vs 17 = (.string ⟨(X2).toArray⟩) := hd 17 (by kernel_rfl)
        generalize vs 17 = x17 at *
        subst h17
        try simp only [List.getElem_toArray, List.getElem_cons_succ, List.getElem_cons_zero, Act.put, List.setIfInBounds_toArray, List.set_cons_zero, List.set_cons_succ]
        have hlen : ¬ 9223372036854775807 < C3.length + X2.length := by omega
        go_simp
        exact hK.out _ _ hS (Below.refl _ _) (by first | (show Value.string ⟨(C3 ++ X2).toArray⟩ = .string ⟨C4.toArray⟩; rw [HC4.out]) | (show Value.string (⟨C3.toArray⟩ ++ ⟨X2.toArray⟩) = .string ⟨C4.toArray⟩; rw [HC4.out, ByteArray.mk_append_mk]))
      refine ToldFrom.cons rfl (fun vs wz hS hd K hK => ?_) ?_
      · try dsimp only at hK ⊢
        try simp only [List.getElem_toArray, List.getElem_cons_succ, List.getElem_cons_zero, Act.put, List.setIfInBounds_toArray, List.set_cons_zero, List.set_cons_succ]
        obtain ⟨⟨_, s0, s1, s2, s3, s4, s5⟩, hBl⟩ := id hS
        go_simp
        exact hK.out _ _ hS (Below.refl _ _) rfl
      refine ToldFrom.cons rfl (fun vs wz hS hd K hK => ?_) ?_
      · try dsimp only at hK ⊢
        have h19 : vs 19 = (.pointer (some ⟨w.heap.size, 4, none⟩)) := hd 19 (by kernel_rfl)
        generalize vs 19 = x19 at *
        subst h19
        try simp only [List.getElem_toArray, List.getElem_cons_succ, List.getElem_cons_zero, Act.put, List.setIfInBounds_toArray, List.set_cons_zero, List.set_cons_succ]
        obtain ⟨⟨_, s0, s1, s2, s3, s4, s5⟩, hBl⟩ := id hS
        go_simp
        exact hK.out _ _ hS (Below.refl _ _) rfl
      refine ToldFrom.cons rfl (fun vs wz hS hd K hK => ?_) ?_
      · try dsimp only at hK ⊢
        have h20 : vs 20 = (.slice ca cn cc) := hd 20 (by kernel_rfl)
        generalize vs 20 = x20 at *
        subst h20
        try simp only [List.getElem_toArray, List.getElem_cons_succ, List.getElem_cons_zero, Act.put, List.setIfInBounds_toArray, List.set_cons_zero, List.set_cons_succ]
        go_simp
        refine (HC.out _ hS.2).mono ?_
        rintro e v1 ⟨rfl, b1⟩
        exact hK.out _ _ (hS.kept b1) b1 rfl
      refine ToldFrom.cons rfl (fun vs wz hS hd K hK => ?_) ?_
      · try dsimp only at hK ⊢
        have h18 : vs 18 = (.string ⟨(C4).toArray⟩) := hd 18 (by kernel_rfl)
        generalize vs 18 = x18 at *
        subst h18
        have h21 : vs 21 = (.string ⟨(T2).toArray⟩) := hd 21 (by kernel_rfl)
        generalize vs 21 = x21 at *
        subst h21
        try simp only [List.getElem_toArray, List.getElem_cons_succ, List.getElem_cons_zero, Act.put, List.setIfInBounds_toArray, List.set_cons_zero, List.set_cons_succ]
        have hlen : ¬ 9223372036854775807 < C4.length + T2.length := by omega
        go_simp
        exact hK.out _ _ hS (Below.refl _ _) (by first | (show Value.string ⟨(C4 ++ T2).toArray⟩ = .string ⟨C5.toArray⟩; rw [HC5.out]) | (show Value.string (⟨C4.toArray⟩ ++ ⟨T2.toArray⟩) = .string ⟨C5.toArray⟩; rw [HC5.out, ByteArray.mk_append_mk]))
      exact ToldFrom.nil
    · intro vs wz hS hd
      try dsimp only
      have h22 : vs 22 = .string ⟨C5.toArray⟩ := hd 22 (by omega)
      clear hd
      generalize vs 0 = y0 at *
      generalize vs 1 = y1 at *
      generalize vs 2 = y2 at *
      generalize vs 3 = y3 at *
      generalize vs 4 = y4 at *
      generalize vs 5 = y5 at *
      generalize vs 6 = y6 at *
      generalize vs 7 = y7 at *
      generalize vs 8 = y8 at *
      generalize vs 9 = y9 at *
      generalize vs 10 = y10 at *
      generalize vs 11 = y11 at *
      generalize vs 12 = y12 at *
      generalize vs 13 = y13 at *
      generalize vs 14 = y14 at *
      generalize vs 15 = y15 at *
      generalize vs 16 = y16 at *
      generalize vs 17 = y17 at *
      generalize vs 18 = y18 at *
      generalize vs 19 = y19 at *
      generalize vs 20 = y20 at *
      generalize vs 21 = y21 at *
      generalize vs 22 = y22 at *
      subst h22
      refine wpAnyH_take (i := 23) (v := .string ⟨C5.toArray⟩) rfl (by kernel_rfl) (by kernel_rfl) (by kernel_rfl) (fun _ _ _ h => h) (Or.inl ⟨by rfl, ?_⟩) trivial ?_
      · intro wy _
        go_simp
      refine wpAnyH_done (by kernel_rfl) ?_ _
      try simp only [List.getElem_toArray, List.getElem_cons_succ, List.getElem_cons_zero, Act.put, List.setIfInBounds_toArray, List.set_cons_zero, List.set_cons_succ]
      obtain ⟨wq, hwq⟩ : ∃ wq, wq = wz := ⟨_, rfl⟩
      rw [← hwq] at hS ⊢
      have HS3 : Hid (BxS w wq (.int .i64 k) (.int .i64 (D : Int)) (.int .i64 (Wd : Int)) (.int .i64 (Hi : Int)) (.slice ca cn cc) (.slice pa pn pc)) := hS
      clear hS hwq
      clear HN0 HN1 HN4 HNw HNh HC HL HS2 HX1 HX2 HX3 HE1 HE2 HE3 HC1 HC2 HC3 HC4 HC5
      obtain ⟨⟨_, a0, a1, a2, a3, a4, a5⟩, bel3⟩ := HS3.out
      cases runs with
      | true =>
        go_wp2_with fail
        clear a0 a1 a2 a3 a4 a5
        refine wp_region_told (S := (fun wz => BxS w wz (.int .i64 k) (.int .i64 (D : Int)) (.int .i64 (Wd : Int)) (.int .i64 (Hi : Int)) (.slice ca cn cc) (.slice pa pn pc))) 8 86 [.is (.string ⟨(C5).toArray⟩), .is (.agg #[.int .i64 k, .int .i64 (D : Int), .int .i64 (Wd : Int), .int .i64 (Hi : Int), .slice ca cn cc, .slice pa pn pc]), .own (fun v w => Dn v w pn qs) (fun _ _ _ b h => h.kept b), .is (.pointer (some ⟨w.heap.size, 1, none⟩)), .is (.int .i64 (D : Int)), .is (.int .i64 (S : Int)), .is (.string ⟨(T3).toArray⟩), .is (.string ⟨(T).toArray⟩)] (by kernel_rfl) (by kernel_rfl) (by rfl) (fun _ _ _ _ hd h => ⟨hd.trans h.1, h.2⟩) (fun vs => by simp only [puts, List.getElem?_toArray, List.getElem?_cons_succ, List.getElem?_cons_zero, Option.bind_some, Act.put, List.setIfInBounds_toArray, List.set_cons_zero, List.set_cons_succ]; exact rfl) (HS3.out.kept (Below.refl _ _).drew) ?_ ?_
        · refine ToldFrom.cons rfl (fun vs wz hS hd K hK => ?_) ?_
          · try dsimp only at hK ⊢
            try simp only [List.getElem_toArray, List.getElem_cons_succ, List.getElem_cons_zero, Act.put, List.setIfInBounds_toArray, List.set_cons_zero, List.set_cons_succ]
            obtain ⟨⟨_, s0, s1, s2, s3, s4, s5⟩, hBl⟩ := id hS
            go_simp
            exact hK.out _ _ hS (Below.refl _ _) rfl
          refine ToldFrom.cons rfl (fun vs wz hS hd K hK => ?_) ?_
          · try dsimp only at hK ⊢
            try simp only [List.getElem_toArray, List.getElem_cons_succ, List.getElem_cons_zero, Act.put, List.setIfInBounds_toArray, List.set_cons_zero, List.set_cons_succ]
            obtain ⟨⟨_, s0, s1, s2, s3, s4, s5⟩, hBl⟩ := id hS
            go_simp
            exact hK.out _ _ hS (Below.refl _ _) rfl
          refine ToldFrom.cons rfl (fun vs wz hS hd K hK => ?_) ?_
          · try dsimp only at hK ⊢
            have h1 : vs 1 = (.agg #[.int .i64 k, .int .i64 (D : Int), .int .i64 (Wd : Int), .int .i64 (Hi : Int), .slice ca cn cc, .slice pa pn pc]) := hd 1 (by kernel_rfl)
            generalize vs 1 = x1 at *
            subst h1
            try simp only [List.getElem_toArray, List.getElem_cons_succ, List.getElem_cons_zero, Act.put, List.setIfInBounds_toArray, List.set_cons_zero, List.set_cons_succ]
            go_simp
            refine (HDN.out _ hS.2).mono ?_
            rintro e v1 ⟨⟨y, cy, rfl, hy⟩, b1⟩
            exact hK.out _ _ (hS.kept b1) b1 ⟨y, cy, rfl, hy⟩
          refine ToldFrom.cons rfl (fun vs wz hS hd K hK => ?_) ?_
          · try dsimp only at hK ⊢
            try simp only [List.getElem_toArray, List.getElem_cons_succ, List.getElem_cons_zero, Act.put, List.setIfInBounds_toArray, List.set_cons_zero, List.set_cons_succ]
            obtain ⟨⟨_, s0, s1, s2, s3, s4, s5⟩, hBl⟩ := id hS
            go_simp
            exact hK.out _ _ hS (Below.refl _ _) rfl
          refine ToldFrom.cons rfl (fun vs wz hS hd K hK => ?_) ?_
          · try dsimp only at hK ⊢
            have h3 : vs 3 = (.pointer (some ⟨w.heap.size, 1, none⟩)) := hd 3 (by kernel_rfl)
            generalize vs 3 = x3 at *
            subst h3
            try simp only [List.getElem_toArray, List.getElem_cons_succ, List.getElem_cons_zero, Act.put, List.setIfInBounds_toArray, List.set_cons_zero, List.set_cons_succ]
            obtain ⟨⟨_, s0, s1, s2, s3, s4, s5⟩, hBl⟩ := id hS
            go_simp
            exact hK.out _ _ hS (Below.refl _ _) rfl
          refine ToldFrom.cons rfl (fun vs wz hS hd K hK => ?_) ?_
          · try dsimp only at hK ⊢
            have h4 : vs 4 = (.int .i64 (D : Int)) := hd 4 (by kernel_rfl)
            generalize vs 4 = x4 at *
            subst h4
            try simp only [List.getElem_toArray, List.getElem_cons_succ, List.getElem_cons_zero, Act.put, List.setIfInBounds_toArray, List.set_cons_zero, List.set_cons_succ]
            obtain ⟨⟨_, s0, s1, s2, s3, s4, s5⟩, hBl⟩ := id hS
            go_simp
            exact hK.out _ _ hS (Below.refl _ _) rfl
          refine ToldFrom.cons rfl (fun vs wz hS hd K hK => ?_) ?_
          · try dsimp only at hK ⊢
            have h2 : Dn (vs 2) wz pn qs := hd 2 (by kernel_rfl)
            generalize vs 2 = x2 at *
            obtain ⟨yd, cyd, rfl, hId⟩ := h2
            have h5 : vs 5 = (.int .i64 (S : Int)) := hd 5 (by kernel_rfl)
            generalize vs 5 = x5 at *
            subst h5
            try simp only [List.getElem_toArray, List.getElem_cons_succ, List.getElem_cons_zero, Act.put, List.setIfInBounds_toArray, List.set_cons_zero, List.set_cons_succ]
            go_simp
            refine (HRN.out trivial yd cyd _ hId).mono ?_
            rintro e v1 ⟨rfl, b1⟩
            exact hK.out _ _ (hS.kept b1) b1 rfl
          refine ToldFrom.cons rfl (fun vs wz hS hd K hK => ?_) ?_
          · try dsimp only at hK ⊢
            have h0 : vs 0 = (.string ⟨(C5).toArray⟩) := hd 0 (by kernel_rfl)
            generalize vs 0 = x0 at *
            subst h0
            have h6 : vs 6 = (.string ⟨(T3).toArray⟩) := hd 6 (by kernel_rfl)
            generalize vs 6 = x6 at *
            subst h6
            try simp only [List.getElem_toArray, List.getElem_cons_succ, List.getElem_cons_zero, Act.put, List.setIfInBounds_toArray, List.set_cons_zero, List.set_cons_succ]
            have hlen : ¬ 9223372036854775807 < C5.length + T3.length := by omega
            go_simp
            exact hK.out _ _ hS (Below.refl _ _) (by first | (show Value.string ⟨(C5 ++ T3).toArray⟩ = .string ⟨T.toArray⟩; rw [HT.out]) | (show Value.string (⟨C5.toArray⟩ ++ ⟨T3.toArray⟩) = .string ⟨T.toArray⟩; rw [HT.out, ByteArray.mk_append_mk]))
          exact ToldFrom.nil
        · intro vs wz hS hd
          try dsimp only
          have h7 : vs 7 = .string ⟨T.toArray⟩ := hd 7 (by omega)
          clear hd
          generalize vs 0 = y0 at *
          generalize vs 1 = y1 at *
          generalize vs 2 = y2 at *
          generalize vs 3 = y3 at *
          generalize vs 4 = y4 at *
          generalize vs 5 = y5 at *
          generalize vs 6 = y6 at *
          generalize vs 7 = y7 at *
          subst h7
          refine wpAnyH_take (i := 8) (v := .string ⟨T.toArray⟩) rfl (by kernel_rfl) (by kernel_rfl) (by kernel_rfl) (fun _ _ _ h => h) (Or.inl ⟨by rfl, ?_⟩) trivial ?_
          · intro wy _
            go_simp
          refine wpAnyH_done (by kernel_rfl) ?_ _
          try simp only [List.getElem_toArray, List.getElem_cons_succ, List.getElem_cons_zero, Act.put, List.setIfInBounds_toArray, List.set_cons_zero, List.set_cons_succ]
          go_wp2_with fail
          go_ret
          exact ⟨rfl, hS.2⟩
      | false =>
        go_wp2_with fail
        refine (HDN.out _ bel3).mono ?_
        rintro e v1 ⟨⟨yd, cyd, rfl, hId⟩, b1⟩
        obtain ⟨⟨_, d0, d1, d2, d3, d4, d5⟩, bel4⟩ := HS3.out.kept b1
        have HI : Hid (Ints v1 yd qs) := hId
        clear a0 a1 a2 a3 a4 a5 b1 HS3 hId HDN
        go_wp2_with fail
        refine (HRP.out trivial yd cyd _ HI.out).mono ?_
        rintro e v2 ⟨rfl, b2⟩
        have bel5 := bel4.trans (b2.mono bel4.size)
        clear b2 HI HRP
        have hlen : ¬ 9223372036854775807 < C5.length + T3.length := by omega
        go_wp2_with fail
        go_ret
        refine ⟨?_, bel5⟩
        rw [HT.out]
        show Ending.returned (Value.string (⟨C5.toArray⟩ ++ ⟨T3.toArray⟩)) = _
        rw [ByteArray.mk_append_mk]

end Go.Proofs.Ytcahppmnfoopkaa

/- The exact law of TgaPut, at every picture. -/
namespace Go.Proofs.Ytcahppmnfoopkaa
open Go.RowKit

theorem Tg.low1 (n : Nat) (h : n < 256) : Pt.low n 1 = [UInt8.ofNat n] := by
  show [UInt8.ofNat (n % 256)] = _
  rw [Nat.mod_eq_of_lt h]

theorem Tg.some_of {w : World} {y : Option Addr} {qs : List Int} (h : Ints w y qs) (hq : 0 < qs.length) : ∃ b off, y = some ⟨b, off, none⟩ ∧ LiesI w b off qs := by
  rcases h with rfl | ⟨b, off, rfl, hb, hc⟩
  · simp at hq
  · exact ⟨b, off, rfl, hb, hc⟩

/-- a list of colours is there just for pictures of places -/
theorem Tg.four {k d wd hi : Int} {cs ps : List Int} (ok : Im.Ok k d wd hi cs ps) : (0 < cs.length) ↔ k = 4 := by
  obtain ⟨_, _, _, hco, _, _⟩ := ok
  constructor
  · intro h
    by_cases hk : k = 4
    · exact hk
    · have := hco.1 hk; omega
  · intro h; have := (hco.2 h).1; omega

set_option maxHeartbeats 1000000 in
theorem spec_l11Put (k : Int) (D S Wd Hi : Nat) (ca : Option Addr) (cn cc : Nat) (pa : Option Addr) (pn pc : Nat) (cs ps : List Int) (runs : Bool) (w : World) (hc : Ints w ca cs) (hcn : cs.length = cn) (hcl : cn ≤ 256) (hp : Ints w pa ps) (hpn : ps.length = pn) (hW : Wd ≤ 20) (hH : Hi ≤ 20) (hW1 : 1 ≤ Wd) (hH1 : 1 ≤ Hi) (hm : pn = Wd * Hi) (hS1 : 1 ≤ S) (hS : S ≤ 4) (hD : D = 8 * S) (hb : ∀ v ∈ ps, 0 ≤ v ∧ v ≤ 4294967295) (hf : Rt.fit S (Tg.pts k ps) = true) (hfc : Rt.fit 3 cs = true) (h4 : 0 < cn ↔ k = 4) :
    Calls Try.prog 15 #[.agg #[.int .i64 k, .int .i64 (D : Int), .int .i64 (Wd : Int), .int .i64 (Hi : Int), .slice ca cn cc, .slice pa pn pc], .bool runs] w fun e w' => e = .returned (.string ⟨(Tg.txt (Tg.head k D Wd Hi cn runs) ++ Rt.txt 3 cs ++ Tg.data S (Tg.pts k ps) runs).toArray⟩) ∧ Below w.heap.size w w' := by
  have hmul : Wd * Hi ≤ 20 * 20 := Nat.mul_le_mul hW hH
  have hmul1 : 1 * 1 ≤ Wd * Hi := Nat.mul_le_mul hW1 hH1
  have hsb := Tg.sort_bd k D
  have hqn : (Tg.pts k ps).length = pn := by rw [Tg.pts_len, hpn]
  refine spec_l11Put_core k D S Wd Hi (Tg.sort k D + (if runs then 8 else 0)).toNat (if 0 < cn then 24 else 0) (if k = 3 then 40 else 32) (if 0 < cn then 1 else 0) (Tg.sort k D) (if runs then 1 else 0) ca cn cc pa pn pc (Tg.pts k ps) _ (Rt.txt 3 cs) (Tg.data S (Tg.pts k ps) runs) runs w hcl hW hH (by omega) hD hsb
    (by cases runs <;> simp) (by cases runs <;> simp <;> omega) rfl rfl rfl
    (fun w' => l11Tga_any k D Wd Hi ca cn cc pa pn pc w') (fun w' => l9Flag_any runs w')
    (fun w' b => l11Colors_any ca cn cc 3 cs w' (hc.kept b) hcn (by omega) (by omega) hfc)
    (fun w' b => (l11Dense_any k D Wd Hi ca cn cc pa pn pc ps w' (hp.kept b) hpn (by omega) hb).mono (fun e w'' h => by
      obtain ⟨⟨y, cy, h1, h2⟩, h3⟩ := h
      exact ⟨⟨y, cy, h1, h2.inn.ints⟩, h3⟩)) ?_ ?_ ?_ ?_ ?_
  · rintro rfl y cy w' hy
    obtain ⟨b, off, rfl, hl⟩ := Tg.some_of hy (by omega)
    have e : Tg.data S (Tg.pts k ps) true = Rt.all S (Tg.pts k ps) := by
      unfold Tg.data Rt.ans Rt.yes
      have e1 : decide (1 ≤ (S : Int) ∧ (S : Int) ≤ 4) = true := by rw [decide_eq_true_eq]; omega
      have e2 : decide ((Tg.pts k ps).length ≤ 1000) = true := by rw [decide_eq_true_eq]; omega
      rw [if_pos rfl, e1, e2, Int.toNat_natCast, hf]
      rfl
    rw [e]
    exact l7Run_any b off cy pn S _ w' hl hqn (by omega) hS hf
  · rintro rfl y cy w' hy
    exact l11Colors_any y pn cy S (Tg.pts k ps) w' hy hqn (by omega) hS hf
  · rw [Rt.txt_len, hcn]; omega
  · exact Tg.data_short S _ runs hS (by omega)
  · have hlast : Tg.last k = ((if k = 3 then 40 else 32 : Nat) : Int) := by unfold Tg.last; split <;> rfl
    have hl4 : (if k = 4 then 1 else 0 : Int) = ((if 0 < cn then 1 else 0 : Nat) : Int) := by
      by_cases h : 0 < cn
      · rw [if_pos h, if_pos (h4.1 h)]; rfl
      · rw [if_neg h, if_neg (fun e => h (h4.2 e))]; rfl
    have hb4 : (if k = 4 then 24 else 0 : Int) = ((if 0 < cn then 24 else 0 : Nat) : Int) := by
      by_cases h : 0 < cn
      · rw [if_pos h, if_pos (h4.1 h)]; rfl
      · rw [if_neg h, if_neg (fun e => h (h4.2 e))]; rfl
    have bl : (if 0 < cn then 1 else 0 : Nat) < 256 := by split <;> omega
    have bb : (if 0 < cn then 24 else 0 : Nat) < 256 := by split <;> omega
    have bf : (if k = 3 then 40 else 32 : Nat) < 256 := by split <;> omega
    have bk : (Tg.sort k D + (if runs then 8 else 0)).toNat < 256 := by cases runs <;> simp <;> omega
    have eh : Tg.txt (Tg.head k D Wd Hi cn runs) = [0, (if 0 < cn then 1 else 0), (Tg.sort k D + (if runs then 8 else 0)).toNat].map UInt8.ofNat ++ Pt.low 0 2 ++ Pt.low cn 2 ++ [(if 0 < cn then 24 else 0)].map UInt8.ofNat ++ Pt.low 0 4 ++ Pt.low Wd 2 ++ Pt.low Hi 2 ++ [D, (if k = 3 then 40 else 32)].map UInt8.ofNat := by
      unfold Tg.txt Tg.head
      rw [hl4, hb4, hlast]
      simp only [List.flatMap_cons, List.flatMap_nil, Int.toNat_natCast, List.map_cons, List.map_nil, List.append_nil]
      have t1 : (1 : Int).toNat = 1 := rfl
      have t2 : (2 : Int).toNat = 2 := rfl
      have t4 : (4 : Int).toNat = 4 := rfl
      have t0 : (0 : Int).toNat = 0 := rfl
      rw [t0, t1, t2, t4, Tg.low1 0 (by omega), Tg.low1 _ bl, Tg.low1 _ bk, Tg.low1 _ bb, Tg.low1 D (by omega), Tg.low1 _ bf]
      simp only [List.append_assoc, List.cons_append, List.nil_append]
    rw [eh]

set_option maxHeartbeats 1000000 in
theorem spec_tgaPut (k d wd hi : Int) (ca : Option Addr) (cn cc : Nat) (pa : Option Addr) (pn pc : Nat) (cs ps : List Int) (runs : Bool) (w : World) (hc : Ints w ca cs) (hcn : cs.length = cn) (hcl : cn ≤ 1048576) (hp : Ints w pa ps) (hpn : ps.length = pn) :
    Calls Try.prog 6 #[.agg #[.int .i64 k, .int .i64 d, .int .i64 wd, .int .i64 hi, .slice ca cn cc, .slice pa pn pc], .bool runs] w fun e w' => e = .returned (.string ⟨(Tg.ans k d wd hi cs ps runs).toArray⟩) ∧ Below w.heap.size w w' := by
  refine spec_tga k d wd hi ca cn cc pa pn pc (Im.okB k d wd hi cs ps) _ runs w (fun w' b => spec_imageOk k d wd hi ca cn cc pa pn pc w' cs ps (hc.kept b) hcn hcl (hp.kept b) hpn) (fun hB w' b => ?_) (fun hB => ?_)
  · have hB' := hB
    rw [Bool.and_eq_true, bne_iff_ne] at hB
    have hOk := Tg.ok_open hB.1
    have h4 := Tg.four hOk
    obtain ⟨hd, hw, hh, _, hm, _⟩ := Tg.ok_open hB.1
    obtain ⟨Wd, rfl⟩ := Int.eq_ofNat_of_zero_le (show 0 ≤ wd by omega)
    obtain ⟨Hi, rfl⟩ := Int.eq_ofNat_of_zero_le (show 0 ≤ hi by omega)
    obtain ⟨D, rfl, _, _⟩ := Im.dep_all hd
    obtain ⟨S, h1, h2, h3, _, h5, h6, h7, h8⟩ := Tg.holds hOk hB.2
    have e : Tg.ans k (D : Int) (Wd : Int) (Hi : Int) cs ps runs = Tg.txt (Tg.head k D Wd Hi cn runs) ++ Rt.txt 3 cs ++ Tg.data S (Tg.pts k ps) runs := by
      unfold Tg.ans
      rw [hB', if_pos rfl, Int.toNat_natCast, Int.toNat_natCast, Int.toNat_natCast, hcn, show D / 8 = S by omega]
    have em : ((Wd * Hi : Nat) : Int) = (Wd : Int) * (Hi : Int) := by simp
    rw [e]
    exact spec_l11Put k D S Wd Hi ca cn cc pa pn pc cs ps runs w' (hc.kept b) hcn (by omega) (hp.kept b) hpn (by omega) (by omega) (by omega) (by omega) (by omega) h1 h2 h3 h5 h6 h7 (by rw [← hcn]; exact h4)
  · unfold Tg.ans
    rw [hB]
    rfl

set_option maxHeartbeats 1000000 in
theorem exTgaPut (k d wd hi : Int) (ca : Option Addr) (cn cc : Nat) (pa : Option Addr) (pn pc : Nat) (bo : Bool) (w : World) (hc : Row64 w ca cn cc) (hp : Row64 w pa pn pc) :
    Calls Try.prog 3 #[.agg #[.int .i64 k, .int .i64 d, .int .i64 wd, .int .i64 hi, .slice ca cn cc, .slice pa pn pc], .bool bo] w fun e w' => e = .returned (.bool true) ∧ Below w.heap.size w w' := by
  obtain ⟨_, hcm, cs, hcn, hIc, _⟩ := hc
  obtain ⟨_, hpm, ps, hpn, hIp, _⟩ := hp
  unfold maxLen at hcm hpm
  have hB0 : Below w.heap.size w (w.alloc (.cells #[.int .i64 k, .int .i64 d, .int .i64 wd, .int .i64 hi, .slice ca cn cc, .slice pa pn pc] 24)) := (Below.refl _ _).alloc (Nat.le_refl _) _
  by_cases hbig : 1048576 < cn + pn
  · have HZ : Hid (Calls Try.prog 5 #[.agg #[.int .i64 k, .int .i64 d, .int .i64 wd, .int .i64 hi, .slice ca cn cc, .slice pa pn pc], .int .i64 1048576] (w.alloc (.cells #[.int .i64 k, .int .i64 d, .int .i64 wd, .int .i64 hi, .slice ca cn cc, .slice pa pn pc] 24)) fun e w' => e = .returned (.int .i64 (-1)) ∧ Below (w.alloc (.cells #[.int .i64 k, .int .i64 d, .int .i64 wd, .int .i64 hi, .slice ca cn cc, .slice pa pn pc] 24)).heap.size (w.alloc (.cells #[.int .i64 k, .int .i64 d, .int .i64 wd, .int .i64 hi, .slice ca cn cc, .slice pa pn pc] 24)) w') := szImage_big k d wd hi ca cn cc pa pn pc _ (by omega) (by omega) hbig
    clear hIc hIp hcn hpn
    go_enter Try.func3, Try.ntmps3
    go_wp2_with fail
    refine HZ.out.mono ?_
    rintro e w1 ⟨rfl, b1⟩
    have bel1 := hB0.trans (b1.mono (by simp))
    clear b1 HZ hB0
    go_wp2_with fail
    go_ret
    exact ⟨rfl, bel1⟩
  · refine exTgaPut_core k d wd hi ca cn cc pa pn pc bo ⟨(Tg.ans k d wd hi cs ps bo).toArray⟩ cs ps w hIc hIp hcn hpn (by omega) ?_ ?_
    · exact fun x y w' h1 h2 => spec_tgaPut k d wd hi x cn cn y pn pn cs ps bo w' h1 hcn (by omega) h2 hpn
    · exact fun x y w' h1 h2 => impl_tgaPut k d wd hi x cn cn y pn pn cs ps bo w' h1 hcn (by omega) h2 hpn (by omega)
end Go.Proofs.Ytcahppmnfoopkaa
