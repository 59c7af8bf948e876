/- TokensOut of the program. -/
import Derived.Test.YtmfnepibhhhdcaaToToken
import Derived.Shelf.Abstract
namespace Go.Proofs.Ytmfnepibhhhdcaa
open Go.RowKit Go.Shelf

theorem to_lt {w : World} {k : Nat} {T : TypeId} {v : Value} (hb : Boxed w k T v) : k < w.heap.size := (Array.getElem?_eq_some_iff.1 hb).1
theorem Off.box {B O base : Nat} {w w' : World} (h : Off B O base w w') {k : Nat} {T : TypeId} {v : Value} (hb : Boxed w k T v) (h0 : k < base) (h1 : k ≠ B) (h2 : k ≠ O) : Boxed w' k T v := (h.rest k h0 h1 h2).trans hb
theorem Toks.same {w w' : World} {a : Option Addr} {l : List Tk} (h : Toks w a l) (hs : w.heap.size ≤ w'.heap.size) (hb : ∀ k, k < w.heap.size → w'.heap[k]? = w.heap[k]?) : Toks w' a l := by
  rcases h with h | ⟨b, off, rfl, hbB, hc⟩
  · exact .inl h
  · have e : ∀ o, w'.cell? ⟨b, o, none⟩ = w.cell? ⟨b, o, none⟩ := fun o => by simp [World.cell?, hb b hbB]
    exact .inr ⟨b, off, rfl, Nat.lt_of_lt_of_le hbB hs, fun i hi => ⟨(e _).trans (hc i hi).1, (e _).trans (hc i hi).2.1, (e _).trans (hc i hi).2.2⟩⟩

/-- how the work ends -/
def TwEnd (w : World) (O base : Nat) (ts : List Tk) (e : Ending) (w' : World) : Prop :=
  Off O O base w w' ∧ ((e = .returned (.tuple #[]) ∧ ∃ l, To.get ts [] = some l ∧ Kst w O base l w') ∨ ∃ c, e = fault c ∧ c ≠ 0 ∧ To.get ts [] = none)

theorem To.step_le {p : Tk} {q r : List UInt8} (h : To.step p q = some r) (hq : q.length ≤ 5000) : r.length ≤ 5000 := by
  unfold To.step at h
  split at h
  · split at h
    · split at h
      · cases h; simp; omega
      · cases h
    · split at h
      · cases h; rw [To.again_len]; omega
      · cases h
  · cases h

set_option maxHeartbeats 4000000 in
set_option maxRecDepth 20000 in
theorem toWork_any (LB OB O n cap : Nat) (a : Option Addr) (ts : List Tk) (w : World) (hLB : Boxed w LB 31 (.slice a n cap)) (hOB : Boxed w OB 71 (.pointer (some ⟨O, 0, none⟩))) (hOt : Ot w O (.slice none 0 0) 5000) (hn : ts.length = n) (hl : n ≤ 1048576)
    (hT : ∀ wr, Off O O w.heap.size w wr → Toks wr a ts) (d4 : OB ≠ O) :
    Calls Try.prog 52 #[.pointer (some ⟨LB, 0, none⟩), .pointer (some ⟨OB, 0, none⟩)] w (TwEnd w O w.heap.size ts) := by
  obtain ⟨base, hbase⟩ : ∃ base, base = w.heap.size := ⟨_, rfl⟩
  rw [← hbase] at hT ⊢
  have i1 : LB < base := by rw [hbase]; exact to_lt hLB
  have i2 : OB < base := by rw [hbase]; exact to_lt hOB
  have i4 : O < base := by rw [hbase]; exact hOt.lt
  have hbw : base ≤ w.heap.size := by omega
  have c0 := hLB.cell
  have HK : Hid (Boxed w OB 71 (.pointer (some ⟨O, 0, none⟩))) := hOB
  have HI : Hid (Kst w O base [] w) := ⟨_, hOt, ownT_nil _ _, Off.refl _ _ _ _, hbw⟩
  have HT : Hid (∀ wr, Off O O base w wr → Toks wr a ts) := hT
  have hzg : n ≤ ts.length := by omega
  have HN : Hid (ts.length = n) := hn
  clear hLB hOB hOt hbase hT hn
  go_enter Try.func52, Try.ntmps52
  go_wp2_with fail
  go_loopw [6] (fun i wr => ∃ (k : Nat) (l : List UInt8), k ≤ n ∧ i = .int .i64 (k : Int) ∧ Hid (To.get ts [] = To.get (ts.drop k) l) ∧ l.length ≤ 5000 ∧ Hid (Kst w O base l wr)) (fun i _ => n - (intOf i).toNat)
  case atStart => exact ⟨0, [], Nat.zero_le _, rfl, rfl, Nat.zero_le _, HI⟩
  case round =>
    obtain ⟨k, l, hk, rfl, HG, hll, HS⟩ := hrel
    clear HI c0
    by_cases hlt : k < n
    · have hkl : k < ts.length := by omega
      have hki : (k : Int) < (n : Int) := by omega
      obtain ⟨b, off, rfl, hbB, e1, e2, e3⟩ := (HT.out _ HS.out.off).at hkl
      have c2 := (HS.out.off.box HK.out i2 d4 d4).cell
      have HST : Hid (To.get ts [] = (To.step ((ts[k]).1, (ts[k]).2.1, (ts[k]).2.2) l).bind (To.get (ts.drop (k + 1)))) := by show _ = _; rw [HG.out, To.get_drop hkl]
      clear HG
      generalize (ts[k]).1 = v at *
      generalize (ts[k]).2.1 = s at *
      generalize (ts[k]).2.2 = d at *
      obtain ⟨W1, hW1⟩ : ∃ W1, W1 = wr.alloc (.cells #[.int .i64 v, .int .i64 s, .int .i64 d] 39) := ⟨_, rfl⟩
      have hB1 : Below wr.heap.size wr W1 := by rw [hW1]; exact (Below.refl _ _).alloc (Nat.le_refl _) _
      have hx : Kx W1 wr.heap.size v s d := by rw [hW1]; exact World.alloc_heap_new wr _
      obtain ⟨x0, x1, x2⟩ := hx.cells
      have HK1 : Hid (Kst w O base l W1) := HS.out.up hB1
      have c2' : W1.cell? ⟨OB, 0, none⟩ = some (.pointer (some ⟨O, 0, none⟩)) := (HK1.out.off.box HK.out i2 d4 d4).cell
      have HTK : Hid (Calls Try.prog 53 #[.pointer (some ⟨O, 0, none⟩), .agg #[.int .i64 v, .int .i64 s, .int .i64 d]] W1 (TkEnd W1 O base (v, s, d) l)) := outToken_any O base v s d l W1 HK1.out.start i4 hll
      have hW1' : wr.alloc (.cells #[.int .i64 v, .int .i64 s, .int .i64 d] 39) = W1 := hW1.symm
      clear hW1 hB1 hx HS
      go_wp2_with fail
      refine HTK.out.mono ?_
      rintro e w4 (⟨r, h1, rfl, h2⟩ | ⟨c, h1, rfl, h2, h3⟩)
      · have hr := To.step_le h1 hll
        have HF : Hid (To.get ts [] = To.get (ts.drop (k + 1)) r ∧ Kst w O base r w4) := ⟨by rw [HST.out, h1]; rfl, HK1.out.trans h2⟩
        clear h1 h2 HTK HK1 HST x0 x1 x2 c2 c2' e1 e2 e3 hW1'
        go_wp2_with fail
        go_roundw
        case rel => exact ⟨k + 1, r, by omega, by go_num, HF.out.1, hr, HF.out.2⟩
        case measure => simp [intOf]; omega
      · have HF : Hid (TwEnd w O base ts (fault c) w4) := ⟨HK1.out.off.trans h3, .inr ⟨c, rfl, h1, by rw [HST.out, h2]; rfl⟩⟩
        clear h1 h2 h3 HTK HK1 HST x0 x1 x2 c2 c2' e1 e2 e3 hW1'
        unfold fault
        go_wp2_with fail
        exact ⟨rfl, HF.out⟩
    · have hki : ¬ (k : Int) < (n : Int) := by omega
      have HF : Hid (TwEnd w O base ts (.returned (.tuple #[])) wr) := ⟨HS.out.off, .inl ⟨rfl, l, by rw [HG.out]; exact To.get_end (by have := HN.out; omega), HS.out⟩⟩
      clear HG HS
      go_wp2_with fail
      go_end0
      exact HF.out

/-- the work was done -/
def TwYes (w : World) (ts : List Tk) (w' : World) : Prop :=
  (∃ l, To.get ts [] = some l ∧ ∃ v, Ot w' (w.heap.size + 1) v 5000 ∧ OwnT w' (w.heap.size + 4) v l.length l) ∧ Boxed w' (w.heap.size + 2) 71 (.pointer (some ⟨w.heap.size + 1, 0, none⟩)) ∧ Below w.heap.size w w'
/-- it broke off -/
def TwNo (w : World) (ts : List Tk) (c : Int) (w' : World) : Prop := c ≠ 0 ∧ To.get ts [] = none ∧ Below w.heap.size w w'
theorem to_up {w w' : World} {k : Nat} {T : TypeId} {v : Value} (h : Boxed w k T v) (b : Below w.heap.size w w') : Boxed w' k T v := (b.block k (to_lt h)).trans h
theorem three2 (w : World) (a b c : Obj) : (((w.alloc a).alloc b).alloc c).heap[w.heap.size + 2]? = some c := by
  have := World.alloc_heap_new ((w.alloc a).alloc b) c; simpa using this
theorem three1 (w : World) (a b c : Obj) : (((w.alloc a).alloc b).alloc c).heap[w.heap.size + 1]? = some b :=
  (Below.heap_alloc _ _ _ (by simp)).trans (by have := World.alloc_heap_new (w.alloc a) b; simpa using this)
theorem three0 (w : World) (a b c : Obj) : (((w.alloc a).alloc b).alloc c).heap[w.heap.size]? = some a :=
  (Below.heap_alloc _ _ _ (by simp <;> omega)).trans ((Below.heap_alloc _ _ _ (by simp)).trans (World.alloc_heap_new w a))
theorem OwnT.off_set {w : World} {lo k i n : Nat} {v u : Value} {l : List UInt8} (h : OwnT w lo v n l) (hk : k < lo) : OwnT (w.setCell ⟨k, i, none⟩ u) lo v n l := by
  refine World.ownsRow.kept (show World.ownsRow _ _ _ _ _ _ _ from h) (row := some k) ⟨rfl, rfl, rfl, by simp, fun j hj hne => Below.heap_setCell w ⟨k, i, none⟩ _ j (fun e => hne (by rw [e]))⟩ (.inr (fun e => ?_))
  have := (World.ownsRow.lt (show World.ownsRow _ _ _ _ _ _ _ from h) k (by first | exact e | exact e.symm)).1
  omega

set_option maxHeartbeats 4000000 in
set_option maxRecDepth 20000 in
theorem impl_tokensOut (a : Option Addr) (n cap : Nat) (ts : List Tk) (w : World) (h : Toks w a ts) (hn : ts.length = n) (hl : n ≤ 1048576) :
    Calls Try.prog 22 #[.slice a n cap] w (ToEnd w ts) := by
  obtain ⟨W4, hW4⟩ : ∃ W4, W4 = (((w.alloc (.cells #[.slice a n cap] 31)).alloc (.cells #[.slice none 0 0, .int .i64 5000] 73)).alloc (.cells #[.pointer (some ⟨w.heap.size + 1, 0, none⟩)] 71)) := ⟨_, rfl⟩
  have hs4 : W4.heap.size = w.heap.size + 3 := by rw [hW4]; simp
  have HB4 : Hid (Below w.heap.size w W4) := by
    rw [hW4]
    exact (((Below.refl _ _).alloc (Nat.le_refl _) _).alloc (by simp) _).alloc (by simp <;> omega) _
  have HX : Hid (Boxed W4 w.heap.size 31 (.slice a n cap) ∧ Ot W4 (w.heap.size + 1) (.slice none 0 0) 5000 ∧ Boxed W4 (w.heap.size + 2) 71 (.pointer (some ⟨w.heap.size + 1, 0, none⟩))) := by
    rw [hW4]
    exact ⟨three0 .., three1 .., three2 ..⟩
  have HWK : Hid (Calls Try.prog 52 #[.pointer (some ⟨w.heap.size, 0, none⟩), .pointer (some ⟨w.heap.size + 2, 0, none⟩)] (W4.alloc (.cells #[.int .i64 0] 3)) fun e w' => Boxed w' W4.heap.size 3 (.int .i64 0) ∧ ((∃ v, e = .returned v) ∧ TwYes w ts w' ∨ ∃ c, e = fault c ∧ TwNo w ts c w')) := by
    obtain ⟨x0, x1, x2⟩ := HX.out
    have ba : Below W4.heap.size W4 (W4.alloc (.cells #[.int .i64 0] 3)) := (Below.refl _ _).alloc (Nat.le_refl _) _
    have hOt : Ot (W4.alloc (.cells #[.int .i64 0] 3)) (w.heap.size + 1) (.slice none 0 0) 5000 := (ba.block _ x1.lt).trans x1
    have hsa : (W4.alloc (.cells #[.int .i64 0] 3)).heap.size = w.heap.size + 4 := by rw [World.size_alloc, hs4]
    have hwa : Below w.heap.size w (W4.alloc (.cells #[.int .i64 0] 3)) := HB4.out.trans (ba.mono HB4.out.size)
    refine (toWork_any w.heap.size (w.heap.size + 2) (w.heap.size + 1) n cap a ts _ (to_up x0 ba) (to_up x2 ba) hOt hn hl (fun wr ho => ?_) (by omega)).mono ?_
    · rw [hsa] at ho
      exact h.same (Nat.le_trans hwa.size ho.size) (fun k hk => (ho.rest k (by omega) (by omega) (by omega)).trans (hwa.block k hk))
    rintro e w' ⟨ho, h⟩
    rw [hsa] at ho h
    have hbel : Below w.heap.size w w' := hwa.trans (ho.below (by omega) (by omega) (by omega))
    refine ⟨ho.box (Boxed.new W4 3 (.int .i64 0)) (by omega) (by omega) (by omega), ?_⟩
    rcases h with ⟨hv, l, g1, v, g2, g3, _⟩ | ⟨c, g1, g2, g3⟩
    · exact .inl ⟨⟨_, hv⟩, ⟨l, g1, v, g2, g3⟩, ho.box (to_up x2 ba) (by omega) (by omega) (by omega), hbel⟩
    · exact .inr ⟨c, g1, g2, g3, hbel⟩
  have HFI : Hid (Calls Try.prog 51 #[.func (.func 52) #[] #[.pointer (some ⟨w.heap.size, 0, none⟩), .pointer (some ⟨w.heap.size + 2, 0, none⟩)]] W4 (FaultOut W4 (TwYes w ts) (TwNo w ts))) :=
    faultIn_any 52 _ (enters_of Try.func52 (by kernel_rfl) rfl) _ _ W4 HWK.out
  clear HWK HX h hn
  have hmf : ∀ (fn : Fn) (first cap : Array Value) (w : World), (Instr.makeFunc fn first cap).run Try.prog w = .ok (.func fn first cap) w := fun _ _ _ _ => rfl
  have hW4' : (((w.alloc (.cells #[.slice a n cap] 31)).alloc (.cells #[.slice none 0 0, .int .i64 5000] 73)).alloc (.cells #[.pointer (some ⟨w.heap.size + 1, 0, none⟩)] 71)) = W4 := hW4.symm
  clear hW4
  go_enter Try.func22, Try.ntmps22
  go_wp2_with fail
  refine HFI.out.mono ?_
  rintro e w7 ⟨w6, hb6, (⟨rfl, ⟨⟨l, g1, v, g2, g3⟩, g4, g5⟩, ht⟩ | ⟨c, rfl, ⟨hc0, hno, g5⟩, ht⟩)⟩
  · have HANS : Hid (To.get ts [] = some l) := g1
    have hne : ∀ k, k < w.heap.size + 3 → k ≠ W4.heap.size := fun k hk => by omega
    have hb7 : Boxed w7 (w.heap.size + 2) 71 (.pointer (some ⟨w.heap.size + 1, 0, none⟩)) := by rw [ht]; exact (Below.heap_setCell w6 ⟨W4.heap.size, 0, none⟩ _ _ (hne _ (by omega))).trans g4
    have ho7 : Ot w7 (w.heap.size + 1) v 5000 := by rw [ht]; exact (Below.heap_setCell w6 ⟨W4.heap.size, 0, none⟩ _ _ (hne _ (by omega))).trans g2
    have hw7 : OwnT w7 (w.heap.size + 4) v l.length l := by rw [ht]; exact g3.off_set (by omega)
    have HF : Hid (Below w.heap.size w w7) := by show Below _ _ _; rw [ht]; exact g5.setCell (by show w.heap.size ≤ W4.heap.size; omega) _
    have k1 := hb7.cell
    obtain ⟨k2, _, _⟩ := ho7.cells
    have htx := hw7.text
    clear hb7 ho7 hw7 g1 g2 g3 g4 g5 ht hb6 HFI HB4
    go_wp2_with fail
    refine bodyPost_ret (v := .tuple #[.string ⟨l.toArray⟩, .bool true]) (by simp [results, Try.results22, go_sem]) rfl (toEnd_some l HANS.out rfl HF.out)
  · have HANS : Hid (To.get ts [] = none) := hno
    have HF : Hid (Below w.heap.size w w7) := by show Below _ _ _; rw [ht]; exact g5.setCell (by show w.heap.size ≤ W4.heap.size; omega) _
    have hcb : (c != 0) = true := by rw [bne_iff_ne]; exact hc0
    clear hno g5 ht hb6 HFI HB4
    go_wp2_with fail
    refine bodyPost_ret (v := .tuple #[.string ⟨#[]⟩, .bool false]) (by simp [results, Try.results22, go_sem]) rfl (toEnd_none HANS.out rfl HF.out)
end Go.Proofs.Ytmfnepibhhhdcaa
