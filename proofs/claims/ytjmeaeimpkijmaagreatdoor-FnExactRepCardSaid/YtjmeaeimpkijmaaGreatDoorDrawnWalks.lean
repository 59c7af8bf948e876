/- A picture drawn of what is seen. -/
import Derived.Test.YtjmeaeimpkijmaaGreatDoorPtsWalks
import Derived.Test.YtjmeaeimpkijmaaGreatDoorAppInts
import Derived.Test.YtjmeaeimpkijmaaGreatDoorBoxWalks
namespace Go.Proofs.YtjmeaeimpkijmaaGreatDoor
open Go.RowKit

/-- two lists of the call's own, in blocks apart -/
def Pair2 (w : World) (lo : Nat) (x : Option Addr) (cs : List Int) (y : Option Addr) (ps : List Int) : Prop :=
  ∃ m, lo ≤ m ∧ Owns w lo x cs ∧ (cs = [] ∨ ∃ b, x = some ⟨b, 0, none⟩ ∧ b < m) ∧ Owns w m y ps

theorem Owns.lower {w : World} {lo lo' : Nat} {a : Option Addr} {l : List Int} (h : Owns w lo a l) (hl : lo' ≤ lo) : Owns w lo' a l := by
  rcases h with e | ⟨b, rfl, hb, h2, h3⟩
  · exact .inl e
  · exact .inr ⟨b, rfl, Nat.le_trans hl hb, h2, h3⟩

theorem Pair2.make {w0 w w' : World} {lo : Nat} {x y : Option Addr} {cs ps : List Int} (hx : Owns w0 lo x cs) (hlo : lo ≤ w.heap.size) (h0 : Below w0.heap.size w0 w) (hb : Below w.heap.size w w') (hy : Owns w' w.heap.size y ps) : Pair2 w' lo x cs y ps := by
  refine ⟨w.heap.size, hlo, (hx.kept h0).kept hb, ?_, hy⟩
  rcases hx with e | ⟨b, rfl, _, h2, _⟩
  · exact .inl e
  · exact .inr ⟨b, rfl, Nat.lt_of_lt_of_le h2 h0.size⟩

theorem Pair2.kept {w w' : World} {lo : Nat} {x y : Option Addr} {cs ps : List Int} (h : Pair2 w lo x cs y ps) (hb : Below w.heap.size w w') : Pair2 w' lo x cs y ps := by
  obtain ⟨m, h1, h2, h3, h4⟩ := h
  exact ⟨m, h1, h2.kept hb, h3, h4.kept hb⟩

theorem below_setRow (w : World) (g : Nat) (cs : Array Value) : Below g w (w.setRow g cs) :=
  ⟨rfl, rfl, rfl, by simp, fun k hk => setRow_other w g k cs (by omega)⟩

theorem Owns.row {w : World} {lo : Nat} {a : Option Addr} {l : List Int} (h : Owns w lo a l) {g : Nat} (hg : g < lo) (cs : Array Value) : Owns (w.setRow g cs) lo a l := by
  rcases h with e | ⟨b, rfl, hb, h2, h3⟩
  · exact .inl e
  · have hh : (w.setRow g cs).heap[b]? = w.heap[b]? := setRow_other w g b cs (by omega)
    exact .inr ⟨b, rfl, hb, by simpa using h2, fun i hi => ⟨(World.cell?_of_block (w := w) (a := ⟨b, i, none⟩) hh).trans (h3 i hi).1, (World.frozen?_of_block (w := w) (a := ⟨b, i, none⟩) hh).trans (h3 i hi).2⟩⟩

theorem Pair2.row {w : World} {g : Nat} {x y : Option Addr} {cs ps : List Int} (h : Pair2 w (g + 1) x cs y ps) (r : Array Value) : Pair2 (w.setRow g r) g x cs y ps := by
  obtain ⟨m, h1, h2, h3, h4⟩ := h
  exact ⟨m, by omega, (h2.row (by omega) r).lower (by omega), h3, h4.row (by omega) r⟩

theorem ownI_of_row {w : World} {B : Nat} {v : Value} {l : List Int} (h : w.ownsRow B 3 1 v l.length (l.map (Value.int .i64))) : OwnI w B v l.length l := h

set_option maxHeartbeats 2000000 in
set_option maxRecDepth 20000 in
theorem drawn_any (T : TypeId) (V : Value) (fs : Nat) (rs : Value) (fa : Nat) (ra : Value) (wd hi : Nat) (f : Nat → Nat → Int) (hwd : wd ≤ 20) (hhi : hi ≤ 20) (k d : Int) (ca : Option Addr) (cn cc : Nat) (cs : List Int) (w : World)
    (S : Seen T V fs rs fa ra wd hi f w.heap.size w) (hc : Ints w ca cs) (hcn : cs.length = cn) (hcl : cn ≤ 1048576) :
    Calls Tryz.prog 146 #[.iface T V, .int .i64 k, .int .i64 d, .slice ca cn cc] w fun e w' =>
      (∃ x cx y cy, e = .returned (.agg #[.int .i64 k, .int .i64 d, .int .i64 (wd : Int), .int .i64 (hi : Int), .slice x cn cx, .slice y (wd * hi) cy]) ∧ Pair2 w' w.heap.size x cs y (upto (ptF wd f) (wd * hi))) ∧ Below w.heap.size w w' := by
  obtain ⟨i0, hi0, hz0, hz1, hz2⟩ := info_parts info_int
  have ms := S.ms
  have ns := S.ns
  have es := S.es
  have hB0 : Below w.heap.size w (w.alloc (.cells #[.int .i64 0, .int .i64 0, .int .i64 0, .int .i64 0, .slice none 0 0, .slice none 0 0] 31)) := (Below.refl _ _).alloc (Nat.le_refl _) _
  have HS : Hid (Seen T V fs rs fa ra wd hi f w.heap.size w) := S
  have HSZ : Hid (∀ w', Below w.heap.size w w' → Calls Tryz.prog fs #[rs] w' fun e w'' => e = .returned (.tuple #[.int .i64 (wd : Int), .int .i64 (hi : Int)]) ∧ Below w'.heap.size w' w'') := S.size
  have HC : Hid (Ints w ca cs) := hc
  have HCN : Hid (cs.length = cn) := hcn
  clear S hc hcn
  have HZ : Hid ((w.alloc (.cells #[.int .i64 0, .int .i64 0, .int .i64 0, .int .i64 0, .slice none 0 0, .slice none 0 0] 31)).heap[w.heap.size]? = some (.cells #[.int .i64 0, .int .i64 0, .int .i64 0, .int .i64 0, .slice none 0 0, .slice none 0 0] 31 (0, 0))) := heap_alloc_new _ _
  have hmul : wd * hi ≤ 20 * 20 := Nat.mul_le_mul hwd hhi
  go_enter Tryz.func146, Tryz.ntmps146
  go_wp2_with fail
  refine (HSZ.out _ hB0).mono ?_
  rintro e w1 ⟨rfl, b1⟩
  have bel1 : Below w.heap.size w w1 := hB0.trans (b1.mono (by simp))
  have hz1' : w1.heap[w.heap.size]? = some (.cells #[.int .i64 0, .int .i64 0, .int .i64 0, .int .i64 0, .slice none 0 0, .slice none 0 0] 31 (0, 0)) := (b1.block _ (by simp)).trans HZ.out
  have hlt1 : w.heap.size < w1.heap.size := Nat.lt_of_lt_of_le (by simp) b1.size
  have HZ1 : Hid (w1.heap[w.heap.size]? = some (.cells #[.int .i64 0, .int .i64 0, .int .i64 0, .int .i64 0, .slice none 0 0, .slice none 0 0] 31 (0, 0))) := hz1'
  clear b1 hz1' HZ hB0 ms ns es HSZ
  have HI1 : Hid (Ints w1 ca cs) := HC.out.kept bel1
  have HE : Hid (OwnI w1 w1.heap.size (.slice none 0 0) 0 []) := World.ownsRow_nil _ _ _ _
  go_wp2_with (at_builtin; refine wpList_append_ints (by rfl) _ _ (by rfl) w1.heap.size _ 0 [] (by rfl) HE.out ca cn cc cs (by rfl) HI1.out HCN.out (by omega) (Nat.le_refl _) ?_; intro x cx w2 hO2 hG2)
  have b2 : Below w1.heap.size w1 w2 := (Below.refl _ _).grown hG2 (Nat.le_refl _) (fun k hk => by simp [Value.ownBlock] at hk)
  have bel2 : Below w.heap.size w w2 := bel1.trans (b2.mono bel1.size)
  have hz2' : w2.heap[w.heap.size]? = some (.cells #[.int .i64 0, .int .i64 0, .int .i64 0, .int .i64 0, .slice none 0 0, .slice none 0 0] 31 (0, 0)) := (b2.block _ hlt1).trans HZ1.out
  have hlt2 : w.heap.size < w2.heap.size := Nat.lt_of_lt_of_le hlt1 b2.size
  have S2 : Seen T V fs rs fa ra wd hi f w2.heap.size w2 := { HS.out with size := fun w' b => HS.out.size w' (bel2.trans (b.mono bel2.size)), at' := fun w' x y hx hy b => HS.out.at' w' x y hx hy (bel2.trans (b.mono bel2.size)) }
  have HT := points_tells 1 (Nat.le_refl _) T V fs rs fa ra wd hi f hwd hhi w2 S2
  have HCo : Hid (Calls Tryz.prog 191 #[.func (.func 235) #[] #[.pointer (some ⟨w2.heap.size, 0, none⟩)]] (w2.alloc (.cells #[.iface T V] 142)) fun e W' => (∃ v, e = .returned v ∧ W'.ownsRow (w2.alloc (.cells #[.iface T V] 142)).heap.size 3 1 v (upto (ptF wd f) (wd * hi)).length ((upto (ptF wd f) (wd * hi)).map (Value.int .i64)) ∧ (v = .slice none 0 0 ↔ upto (ptF wd f) (wd * hi) = [])) ∧ Below (w2.alloc (.cells #[.iface T V] 142)).heap.size (w2.alloc (.cells #[.iface T V] 142)) W') :=
    collect_any 235 _ (enters_of Tryz.func235 (by kernel_rfl) rfl) _ (by rw [upto_length]; unfold maxLen; omega) (by rw [upto_length]; omega) _ HT
  have HO2 : Hid (Owns w2 w1.heap.size x cs) := by
    have := OwnI.owns hO2
    show Owns _ _ _ _
    simpa using this
  have HZ2 : Hid (w2.heap[w.heap.size]? = some (.cells #[.int .i64 0, .int .i64 0, .int .i64 0, .int .i64 0, .slice none 0 0, .slice none 0 0] 31 (0, 0))) := hz2'
  clear HT S2 hO2 hG2 HE HI1 HZ1 hz2' b2 bel1
  refine (pointsOf_any T V w2).mono ?_
  rintro e w3 ⟨rfl, hw3⟩
  subst hw3
  go_wp2_with fail
  refine HCo.out.mono ?_
  rintro e w4 ⟨⟨v, rfl, hv, _⟩, b4⟩
  have hO4 := ownI_of_row hv
  rw [upto_length] at hO4
  obtain ⟨y, cy, rfl, hOy⟩ := hO4.owns
  have hOx := HO2.out
  have b3 : Below w2.heap.size w2 (w2.alloc (.cells #[.iface T V] 142)) := (Below.refl _ _).alloc (Nat.le_refl _) _
  have hlt3 : w.heap.size < (w2.alloc (.cells #[.iface T V] 142)).heap.size := by simp; omega
  have hz4 : w4.heap[w.heap.size]? = some (.cells #[.int .i64 0, .int .i64 0, .int .i64 0, .int .i64 0, .slice none 0 0, .slice none 0 0] 31 (0, 0)) := (b4.block _ hlt3).trans ((b3.block _ hlt2).trans HZ2.out)
  have bel4 : Below w.heap.size w w4 := (bel2.trans (b3.mono bel2.size)).trans (b4.mono (by simp; omega))
  have HP : Hid (Pair2 w4 (w.heap.size + 1) x cs y (upto (ptF wd f) (wd * hi))) := Pair2.make (hOx.lower (by omega)) (by simp; omega) b3 b4 hOy
  clear hOx hOy hO4 hv HO2 HCo b3 b4 bel2 HZ2
  have hI6 : (Tryz.prog.info? 31).map (·.size) = some (#[Value.int .i64 k, .int .i64 d, .int .i64 (wd : Int), .int .i64 (hi : Int), .slice x cn cx, .slice y (wd * hi) cy]).size := by kernel_rfl
  have h16 : (#[Value.int .i64 k, .int .i64 d, .int .i64 (wd : Int), .int .i64 (hi : Int), .slice x cn cx, .slice y (wd * hi) cy]).all (·.oneCell') = true := by simp [Value.oneCell']
  go_wp2_with (refine wpList_store_row rfl 31 (.tmp 8) (.tmp 27) rfl w.heap.size #[.int .i64 k, .int .i64 d, .int .i64 (wd : Int), .int .i64 (hi : Int), .slice x cn cx, .slice y (wd * hi) cy] rfl rfl 31 #[.int .i64 0, .int .i64 0, .int .i64 0, .int .i64 0, .slice none 0 0, .slice none 0 0] hz4 hI6 rfl h16 ?_)
  have hs2 := setRow_heap w4 w.heap.size _ #[.int .i64 k, .int .i64 d, .int .i64 (wd : Int), .int .i64 (hi : Int), .slice x cn cx, .slice y (wd * hi) cy] _ _ hz4
  refine bodyPost_ret_by (results_cell_row (p := 8) (ty := 31) (by kernel_rfl) _ _ w.heap.size 31 _ (0, 0) _ rfl hs2 Tryz.underlying31 rfl (by kernel_rfl)) rfl ⟨⟨x, cx, y, cy, rfl, ?_⟩, ?_⟩
  · exact HP.out.row _
  · exact bel4.trans (below_setRow _ _ _)
end Go.Proofs.YtjmeaeimpkijmaaGreatDoor
