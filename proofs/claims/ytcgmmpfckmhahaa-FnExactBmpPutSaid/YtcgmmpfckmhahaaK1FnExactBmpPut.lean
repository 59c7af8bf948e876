/- Texts laid together: EachReg, TgPutSpec, ReSpec, ReTop, RdWalks, OnlyB, TextWalks, SegInts, BmSpec, BmColl, BmBelow, BmZero. -/
import Derived.Deep.RegionHeld
import Derived.Test.YtcgmmpfckmhahaaBase
import Derived.Test.YtcgmmpfckmhahaaKFnExactBmpPut
import Derived.Deep.Cut
import Derived.Test.YtcgmmpfckmhahaaProg
import Derived.Below
import Derived.Test.YtcgmmpfckmhahaaStrWalks
import Derived.Test.YtcgmmpfckmhahaaDrawnWalks
import Derived.Maps.AppendAt
import Derived.Lib.AppendZerosOnto
/- A region that draws its order, told operation by operation: what each one's answer is like (R), kept by whatever else is carried out (E): then the order does not matter, and each operation is walked once. -/
namespace Go.Proofs.Ytcgmmpfckmhahaa
open Go.RowKit

section
variable {P : Program} {ops : Array Oper} {Q : Exit → Act → World → Prop} {md : Region.Mode}

/-- The state in which the first m operations have left their answers. -/
def puts (ops : Array Oper) (vs : Nat → Value) (a : Act) : Nat → Act
  | 0 => a
  | m + 1 => (puts ops vs a m).put ((ops[m]?).bind (·.dst)) (vs m)

/-- The same, of those alone that are listed. -/
def putsL (ops : Array Oper) (vs : Nat → Value) (a : Act) (listed : Array Bool) : Nat → Act
  | 0 => a
  | m + 1 => if listed.getD m false then (putsL ops vs a listed m).put ((ops[m]?).bind (·.dst)) (vs m) else putsL ops vs a listed m

def upd (vs : Nat → Value) (i : Nat) (v : Value) : Nat → Value := fun j => if j = i then v else vs j

/-- The operation o waits for number j. -/
def Oper.waits (md : Region.Mode) (o : Oper) (j : Nat) : Bool := o.after.any fun e => e.on == j && Region.binds md e

/-- number i waits for number j, or for one that waits for it, .. -/
def reaches (md : Region.Mode) (ops : Array Oper) : Nat → Nat → Nat → Bool
  | 0, _, _ => false
  | f + 1, i, j => match ops[i]? with
    | none => false
    | some o => Oper.waits md o j || o.after.any (fun e => Region.binds md e && reaches md ops f e.on j)

/-- what is listed stands behind all that it waits for -/
def ClosedL (md : Region.Mode) (ops : Array Oper) (l : Array Bool) : Prop :=
  ∀ (j : Nat) (o : Oper), ops[j]? = some o → l.getD j false = true → ∀ e ∈ o.after, Region.binds md e = true → l.getD e.on false = true

theorem waits_listed {o : Oper} {l : Array Bool} {j : Nat} (h : Oper.waits md o j = true) (hw : ∀ e ∈ o.after, Region.binds md e = true → l.getD e.on false = true) : l.getD j false = true := by
  unfold Oper.waits at h
  rw [Array.any_eq_true'] at h
  obtain ⟨e, he, he2⟩ := h
  rw [Bool.and_eq_true] at he2
  have hon : e.on = j := by simpa using he2.1
  have := hw e he he2.2
  rw [hon] at this
  exact this

theorem reaches_listed {l : Array Bool} (hc : ClosedL md ops l) : ∀ (f i j : Nat) (o : Oper), ops[i]? = some o → (∀ e ∈ o.after, Region.binds md e = true → l.getD e.on false = true) → reaches md ops f i j = true → l.getD j false = true
  | 0, _, _, _, _, _, h => by cases h
  | f + 1, i, j, o, ho, hw, h => by
    unfold reaches at h
    simp only [ho, Bool.or_eq_true] at h
    rcases h with h | h
    · exact waits_listed h hw
    · rw [Array.any_eq_true'] at h
      obtain ⟨e, he, he2⟩ := h
      rw [Bool.and_eq_true] at he2
      have hl := hw e he he2.1
      cases ho2 : ops[e.on]? with
      | none =>
        cases f with
        | zero => exact absurd he2.2 (by simp [reaches])
        | succ f => exact absurd he2.2 (by simp [reaches, ho2])
      | some o2 => exact reaches_listed hc f e.on j o2 ho2 (hc e.on o2 ho2 hl) he2.2

def notSelect : Op → Bool
  | .select _ _ => false
  | _ => true

/-- The first m operations: without guards, each with a temporary of its own, and each waits for those whose answers it looks at; the others wait for all of these. -/
def tidyAt (md : Region.Mode) (ops : Array Oper) (pre : List Nat) (m n i : Nat) (o : Oper) : Bool :=
  if i < m then
    o.guard.isNone && notSelect o.op && o.after.all (fun e => !Region.binds md e || Nat.blt e.on i) && (match o.dst with | some d => Nat.blt d n | none => true) &&
    (List.range m).all (fun j => match (ops[j]?).bind (·.dst) with
      | none => true
      | some d => (!(o.looksAt ops).contains d || Oper.waits md o j) && (j == i || o.dst != some d))
  else (List.range m).all (fun j => pre.contains j || reaches md ops 30 i j)
def tidy (md : Region.Mode) (ops : Array Oper) (pre : List Nat) (m n : Nat) : Bool :=
  Nat.ble m ops.size && (List.range ops.size).all fun i => match ops[i]? with | none => true | some o => tidyAt md ops pre m n i o

theorem tidy_at {pre : List Nat} {m n : Nat} (h : tidy md ops pre m n = true) {i : Nat} {o : Oper} (ho : ops[i]? = some o) : tidyAt md ops pre m n i o = true := by
  unfold tidy at h
  rw [Bool.and_eq_true, List.all_eq_true] at h
  have hi : i < ops.size := by
    rcases Nat.lt_or_ge i ops.size with h' | h'
    · exact h'
    · rw [Array.getElem?_eq_none h'] at ho; cases ho
  have := h.2 i (List.mem_range.2 hi)
  simp only [ho] at this
  exact this

theorem puts_size (vs : Nat → Value) (a : Act) : ∀ m, (puts ops vs a m).tmps.size = a.tmps.size
  | 0 => rfl
  | m + 1 => by
    unfold puts Act.put
    split
    · simp [puts_size vs a m]
    · exact puts_size vs a m
theorem puts_defers (vs : Nat → Value) (a : Act) : ∀ m, (puts ops vs a m).defers = a.defers
  | 0 => rfl
  | m + 1 => by
    unfold puts Act.put
    split
    · exact puts_defers vs a m
    · exact puts_defers vs a m
theorem putsL_size (vs : Nat → Value) (a : Act) (l : Array Bool) : ∀ m, (putsL ops vs a l m).tmps.size = a.tmps.size
  | 0 => rfl
  | m + 1 => by
    unfold putsL
    split
    · unfold Act.put
      split
      · simp [putsL_size vs a l m]
      · exact putsL_size vs a l m
    · exact putsL_size vs a l m

theorem putsL_defers (vs : Nat → Value) (a : Act) (l : Array Bool) : ∀ m, (putsL ops vs a l m).defers = a.defers
  | 0 => rfl
  | m + 1 => by
    unfold putsL
    split
    · unfold Act.put
      split
      · exact putsL_defers vs a l m
      · exact putsL_defers vs a l m
    · exact putsL_defers vs a l m

theorem putsL_all (vs : Nat → Value) (a : Act) (l : Array Bool) : ∀ m, (∀ j, j < m → l.getD j false = true) → putsL ops vs a l m = puts ops vs a m
  | 0, _ => rfl
  | m + 1, h => by
    unfold putsL puts
    rw [if_pos (h m (Nat.lt_succ_self m)), putsL_all vs a l m (fun j hj => h j (Nat.lt_succ_of_lt hj))]
theorem putsL_none (vs : Nat → Value) (a : Act) (l : Array Bool) : ∀ m, (∀ j, j < m → l.getD j false = false) → putsL ops vs a l m = a
  | 0, _ => rfl
  | m + 1, h => by
    unfold putsL
    rw [if_neg (by rw [h m (Nat.lt_succ_self m)]; decide), putsL_none vs a l m (fun j hj => h j (Nat.lt_succ_of_lt hj))]

theorem getD_set_eq {l : Array Bool} {i : Nat} (h : i < l.size) : (l.setIfInBounds i true).getD i false = true := by simp [h]
theorem getD_set_other {l : Array Bool} {i j : Nat} (h : j ≠ i) (b : Bool) : (l.setIfInBounds i true).getD j b = l.getD j b := by
  simp [Array.getD_eq_getD_getElem?, Array.getElem?_setIfInBounds_ne (Ne.symm h)]

theorem putsL_before (vs : Nat → Value) (a : Act) (l : Array Bool) (i : Nat) (v : Value) : ∀ k, k ≤ i → putsL ops (upd vs i v) a (l.setIfInBounds i true) k = putsL ops vs a l k
  | 0, _ => rfl
  | k + 1, h => by
    unfold putsL
    rw [getD_set_other (by omega), putsL_before vs a l i v k (by omega)]
    have : upd vs i v k = vs k := if_neg (by omega)
    rw [this]

theorem putsL_set (vs : Nat → Value) (a : Act) (l : Array Bool) (i : Nat) (v : Value) (hl : i < l.size) (hi : l.getD i true = false) :
    ∀ k, i < k → (∀ j, j < k → j ≠ i → ∀ d, (ops[i]?).bind (·.dst) = some d → (ops[j]?).bind (·.dst) ≠ some d) →
      putsL ops (upd vs i v) a (l.setIfInBounds i true) k = (putsL ops vs a l k).put ((ops[i]?).bind (·.dst)) v
  | 0, h, _ => absurd h (Nat.not_lt_zero _)
  | k + 1, h, hd => by
    by_cases hk : k = i
    · subst hk
      have hf : l.getD k false = false := by
        simp only [Array.getD_eq_getD_getElem?, Array.getElem?_eq_getElem hl, Option.getD_some] at hi ⊢; exact hi
      unfold putsL
      rw [if_pos (getD_set_eq hl), hf, putsL_before vs a l k v k (Nat.le_refl _)]
      have : upd vs k v k = v := if_pos rfl
      rw [this]
      rfl
    · have ih := putsL_set vs a l i v hl hi k (by omega) (fun j hj => hd j (by omega))
      unfold putsL
      rw [getD_set_other hk, ih]
      have hv : upd vs i v k = vs k := if_neg hk
      rw [hv]
      by_cases hlk : l.getD k false = true
      · rw [if_pos hlk, if_pos hlk]
        exact Act.put_comm _ v (vs k) (fun d h1 => hd k (Nat.lt_succ_self k) hk d h1)
      · rw [if_neg hlk, if_neg hlk]

theorem eval_put_same {a b : Act} {dst : Option Tmp} {v : Value} {x : Operand} (hs : a.tmps.size = b.tmps.size) (h : a.eval x = b.eval x) : (a.put dst v).eval x = (b.put dst v).eval x := by
  cases dst with
  | none => exact h
  | some d =>
    cases x with
    | tmp t =>
      simp only [Act.eval, Act.put, Array.getD_eq_getD_getElem?, Array.getElem?_setIfInBounds] at h ⊢
      rw [hs]
      split
      · rfl
      · exact h
    | _ => rfl

theorem eval_putsL (vs : Nat → Value) (a : Act) (l : Array Bool) (x : Operand) : ∀ k, (∀ j d, j < k → (ops[j]?).bind (·.dst) = some d → x = .tmp d → l.getD j false = true) →
    (putsL ops vs a l k).eval x = (puts ops vs a k).eval x
  | 0, _ => rfl
  | k + 1, h => by
    have ih := eval_putsL vs a l x k (fun j d hj => h j d (by omega))
    unfold putsL puts
    by_cases hk : l.getD k false = true
    · rw [if_pos hk]
      exact eval_put_same (by rw [putsL_size, puts_size]) ih
    · rw [if_neg hk, ih]
      refine (Act.eval_put fun d hd hx => ?_).symm
      exact hk (h k d (Nat.lt_succ_self k) hd hx)

/-- What is to be shown of one operation: wherever it comes up, it answers as R says, and leaves all else as E says. -/
def EachStep (P : Program) (md : Region.Mode) (ops : Array Oper) (Q : Exit → Act → World → Prop) (R : Nat → Value → World → Prop) (S : World → Prop) (E : World → World → Prop) (a : Act) (m i : Nat) (o : Oper) : Prop :=
  ∀ (vs : Nat → Value) (w : World), S w → (∀ j, Oper.waits md o j = true → R j (vs j) w) →
    ∀ K : Act → World → Prop, Shut (∀ v w', S w' → E w w' → R i v w' → K ((puts ops vs a m).put o.dst v) w') → Oper.wp P o (puts ops vs a m) w K Q

def EachFrom (P : Program) (md : Region.Mode) (ops : Array Oper) (Q : Exit → Act → World → Prop) (R : Nat → Value → World → Prop) (S : World → Prop) (E : World → World → Prop) (a : Act) (m k : Nat) : Prop :=
  ∀ i o, k ≤ i → i < m → ops[i]? = some o → EachStep P md ops Q R S E a m i o

theorem EachFrom.nil {R : Nat → Value → World → Prop} {S : World → Prop} {E : World → World → Prop} {a : Act} {m : Nat} : EachFrom P md ops Q R S E a m m :=
  fun _ _ h h' => absurd h' (Nat.not_lt.2 h)
theorem EachFrom.cons {R : Nat → Value → World → Prop} {S : World → Prop} {E : World → World → Prop} {a : Act} {m k : Nat} {o : Oper} (ho : ops[k]? = some o)
    (h : EachStep P md ops Q R S E a m k o) (hs : EachFrom P md ops Q R S E a m (k + 1)) : EachFrom P md ops Q R S E a m k := fun i o' h1 h2 h3 => by
  by_cases hk : i = k
  · subst hk; rw [ho] at h3; cases h3; exact h
  · exact hs i o' (by omega) h2 h3

/-- From the state of what is listed to the state in which all stand. -/
theorem wp_of_step {o : Oper} {a b : Act} {w : World} {C : Value → World → Prop} (hde : a.defers = b.defers) (he : execOp a.eval o = execOp b.eval o) (hd : ∀ d, o.dst = some d → d < b.tmps.size)
    (hQ : ∀ c (a b : Act) w, a.defers = b.defers → Q (.panic c) b w → Q (.panic c) a w)
    (h : ∀ K : Act → World → Prop, (∀ v w', C v w' → K (b.put o.dst v) w') → Oper.wp P o b w K Q)
    {K : Act → World → Prop} (hK : ∀ v w', C v w' → K (a.put o.dst v) w') : Oper.wp P o a w K Q := by
  have key : ∀ v w', (∃ v', b.put o.dst v = b.put o.dst v' ∧ C v' w') → K (a.put o.dst v) w' := by
    rintro v w' ⟨v', h1, h2⟩
    cases hdst : o.dst with
    | none => rw [hdst] at hK; have := hK v' w' h2; exact this
    | some d =>
      rw [hdst] at h1
      have h3 := congrArg (fun x : Act => x.tmps[d]?) h1
      simp only [Act.put, Array.getElem?_setIfInBounds_self_of_lt (hd d hdst), Option.some.injEq] at h3
      subst h3
      rw [hdst] at hK
      exact hK v w' h2
  have h1 := h (fun a' w' => ∃ v', a' = b.put o.dst v' ∧ C v' w') (fun v w' hC => ⟨v, rfl, hC⟩)
  unfold Oper.wp at h1 ⊢
  rw [he]
  generalize (execOp b.eval o).run P w = r at h1 ⊢
  match r, h1 with
  | .ok (.value v) w', h1 => exact key v w' h1
  | .ok .skip w', h1 => exact key _ w' h1
  | .ok (.defer d) w', h1 =>
    obtain ⟨v', h2, _⟩ := h1
    have h3 := congrArg (fun x : Act => x.defers.length) h2
    have h4 : ∀ (x : Act) u, (x.put o.dst u).defers = x.defers := fun x u => by unfold Act.put; split <;> rfl
    simp only [h4, List.length_cons] at h3
    omega
  | .ok (.enter f args) w', h1 =>
    refine Calls.mono h1 fun e w'' he => ?_
    cases e with
    | returned u => exact key u w'' he
    | panicked c => exact hQ _ _ _ _ hde he
    | outgrown => exact he
  | .ok (.row row args) w', h1 => exact Rows.mono h1 fun u w'' he => key u w'' he
  | .halt (.panic v) w', h1 => exact hQ _ _ _ _ hde h1

/-- While one of the first m is left, one may come up. -/
theorem ready_some {pre : List Nat} {m n : Nat} (ht : tidy md ops pre m n = true) (hm : m ≤ ops.size) {listed : Array Bool} (hz : listed.size = ops.size) (h0 : Region.ready md ops listed = []) :
    ∀ j, j < m → listed.getD j false = true := by
  intro j
  induction j using Nat.strongRecOn with
  | _ j ih =>
    intro hj
    have hjs : j < ops.size := Nat.lt_of_lt_of_le hj hm
    cases hl : listed.getD j false with
    | true => rfl
    | false =>
      exfalso
      have ho : ops[j]? = some ops[j] := Array.getElem?_eq_getElem hjs
      have ht' := tidy_at ht ho
      unfold tidyAt at ht'
      rw [if_pos hj] at ht'
      simp only [Bool.and_eq_true] at ht'
      have hedge := ht'.1.1.2
      rw [Array.all_eq_true'] at hedge
      have hmem : j ∈ Region.ready md ops listed := by
        rw [mem_ready]
        refine ⟨?_, ops[j], ho, fun e he hb => ?_⟩
        · simp only [Array.getD_eq_getD_getElem?, Array.getElem?_eq_getElem (hz ▸ hjs : j < listed.size), Option.getD_some] at hl ⊢
          exact hl
        · have := hedge e he
          rw [hb] at this
          have hlt : e.on < j := by
            have h1 : Nat.blt e.on j = true := by simpa using this
            exact Nat.le_of_ble_eq_true h1
          exact ih e.on hlt (by omega)
      rw [h0] at hmem
      cases hmem

theorem count_less {l : Array Bool} (i : Nat) (hl : i < l.size) (hi : l.getD i false = false) :
    ∀ m, i < m → ((List.range m).filter (fun j => !l.getD j false)).length = ((List.range m).filter (fun j => !(l.setIfInBounds i true).getD j false)).length + 1
  | 0, h => absurd h (Nat.not_lt_zero _)
  | m + 1, h => by
    rw [List.range_succ, List.filter_append, List.filter_append, List.length_append, List.length_append]
    by_cases hm : m = i
    · subst hm
      have e1 : (List.range m).filter (fun j => !(l.setIfInBounds m true).getD j false) = (List.range m).filter (fun j => !l.getD j false) := by
        apply List.filter_congr
        intro j hj
        rw [getD_set_other (Nat.ne_of_lt (List.mem_range.1 hj))]
      rw [e1]
      have e2 : List.filter (fun j => !l.getD j false) [m] = [m] := by rw [List.filter_cons, hi]; rfl
      have e3 : List.filter (fun j => !(l.setIfInBounds m true).getD j false) [m] = [] := by rw [List.filter_cons, getD_set_eq hl]; rfl
      rw [e2, e3]
      rfl
    · have ih := count_less i hl hi m (by omega)
      rw [ih]
      have e2 : List.filter (fun j => !(l.setIfInBounds i true).getD j false) [m] = List.filter (fun j => !l.getD j false) [m] := by
        rw [List.filter_cons, List.filter_cons, getD_set_other hm]
        rfl
      rw [e2]
      omega

/-- Which ones have come up when the first m have. -/
def firstM (n m : Nat) : Array Bool := ((List.range n).map fun i => Nat.blt i m).toArray

theorem wpAny_each {R : Nat → Value → World → Prop} {S : World → Prop} {E : World → World → Prop} {a : Act} {pre : List Nat} {m n : Nat}
    (ht : tidy md ops pre m n = true) (hn : a.tmps.size = n) (hQ : ∀ c (a b : Act) w, a.defers = b.defers → Q (.panic c) b w → Q (.panic c) a w)
    (hE : ∀ j v w w', E w w' → R j v w → R j v w') (hs : EachFrom P md ops Q R S E a m 0)
    (hend : ∀ vs w, S w → (∀ j, j < m → R j (vs j) w) → wpAny P md ops Q (ops.size - m) (firstM ops.size m) (puts ops vs a m) w) :
    ∀ (fuel : Nat) (listed : Array Bool) (vs : Nat → Value) (w : World), listed.size = ops.size → S w →
      (∀ j, j < m → listed.getD j false = true → R j (vs j) w) → (∀ j, m ≤ j → listed.getD j false = false) →
      ((List.range m).filter (fun j => !listed.getD j false)).length + (ops.size - m) = fuel → ClosedL md ops listed → (∀ j ∈ pre, listed.getD j false = true) →
      wpAny P md ops Q fuel listed (putsL ops vs a listed m) w := by
  have hm : m ≤ ops.size := by
    unfold tidy at ht
    rw [Bool.and_eq_true] at ht
    exact Nat.le_of_ble_eq_true ht.1
  have allDone : ∀ (listed : Array Bool) (vs : Nat → Value) (w : World), listed.size = ops.size → S w →
      (∀ j, j < m → listed.getD j false = true → R j (vs j) w) → (∀ j, m ≤ j → listed.getD j false = false) →
      (∀ j, j < m → listed.getD j false = true) → wpAny P md ops Q (ops.size - m) listed (putsL ops vs a listed m) w := by
    intro listed vs w h1 h2 h3 h4 h5
    rw [putsL_all _ _ _ _ h5]
    have : listed = firstM ops.size m := by
      apply Array.ext
      · simp [firstM, h1]
      · intro i hi1 hi2
        simp only [firstM, List.getElem_toArray, List.getElem_map, List.getElem_range]
        by_cases hi : i < m
        · have := h5 i hi
          simp only [Array.getD_eq_getD_getElem?, Array.getElem?_eq_getElem hi1, Option.getD_some] at this
          rw [this]; exact (Nat.ble_eq_true_of_le hi).symm
        · have := h4 i (by omega)
          simp only [Array.getD_eq_getD_getElem?, Array.getElem?_eq_getElem hi1, Option.getD_some] at this
          rw [this]
          cases hb : Nat.blt i m with
          | false => rfl
          | true => exact absurd (Nat.le_of_ble_eq_true hb) (by omega)
    rw [this]
    exact hend vs w h2 (fun j hj => h3 j hj (h5 j hj))
  intro fuel
  induction fuel with
  | zero =>
    intro listed vs w h1 h2 h3 h4 h5 _ _
    have h6 : ((List.range m).filter (fun j => !listed.getD j false)) = [] := List.eq_nil_of_length_eq_zero (by omega)
    have h7 : ∀ j, j < m → listed.getD j false = true := fun j hj => by
      have := (List.filter_eq_nil_iff.1 h6) j (List.mem_range.2 hj)
      simpa using this
    have h8 : ops.size - m = 0 := by omega
    have := allDone listed vs w h1 h2 h3 h4 h7
    rw [h8] at this
    exact this
  | succ fuel ih =>
    intro listed vs w h1 h2 h3 h4 h5 hcl hpre
    by_cases hall : ((List.range m).filter (fun j => !listed.getD j false)) = []
    · have h7 : ∀ j, j < m → listed.getD j false = true := fun j hj => by
        have := (List.filter_eq_nil_iff.1 hall) j (List.mem_range.2 hj)
        simpa using this
      have h8 : ops.size - m = fuel + 1 := by rw [hall] at h5; simpa using h5
      have := allDone listed vs w h1 h2 h3 h4 h7
      rw [h8] at this
      exact this
    · -- some of the first m have not come up: one of them is the next
      obtain ⟨j0, hj0⟩ := List.exists_mem_of_ne_nil _ hall
      have hj0m : j0 < m := List.mem_range.1 (List.mem_filter.1 hj0).1
      have hj0l : listed.getD j0 false = false := by simpa using (List.mem_filter.1 hj0).2
      have hlt : ∀ i ∈ Region.ready md ops listed, i < m := fun i hi => by
        obtain ⟨hun, o, ho, hw⟩ := mem_ready.1 hi
        rcases Nat.lt_or_ge i m with h | h
        · exact h
        · exfalso
          have ht' := tidy_at ht ho
          unfold tidyAt at ht'
          rw [if_neg (by omega), List.all_eq_true] at ht'
          have := ht' j0 (List.mem_range.2 hj0m)
          rw [Bool.or_eq_true] at this
          have := this.elim (fun h => hpre j0 (by simpa using h)) (fun h => reaches_listed hcl 30 i j0 o ho hw h)
          rw [hj0l] at this
          cases this
      refine ⟨fun h0 => ?_, fun i hi => ?_⟩
      · -- never empty while one is left
        exact absurd (ready_some ht hm h1 h0 j0 hj0m) (by rw [hj0l]; decide)
      · have him := hlt i hi
        obtain ⟨hun, o, ho, hw⟩ := mem_ready.1 hi
        have ht' := tidy_at ht ho
        unfold tidyAt at ht'
        rw [if_pos him] at ht'
        simp only [Bool.and_eq_true] at ht'
        obtain ⟨⟨⟨⟨hg, hns⟩, hedge⟩, hdn⟩, hall2⟩ := ht'
        rw [List.all_eq_true] at hall2
        have hil : i < listed.size := by
          rcases Nat.lt_or_ge i listed.size with h | h
          · exact h
          · exfalso; omega
        have hguard : o.guard = none := by cases hgd : o.guard with | none => rfl | some x => rw [hgd] at hg; cases hg
        have hsel : ∀ cs b, o.op ≠ .select cs b := fun cs b he => by rw [he] at hns; cases hns
        have hbind : (ops[i]?).bind (·.dst) = o.dst := by rw [ho]; rfl
        have hdist : ∀ j, j < m → j ≠ i → ∀ d, (ops[i]?).bind (·.dst) = some d → (ops[j]?).bind (·.dst) ≠ some d := fun j hj hji d hd hd2 => by
          have := hall2 j (List.mem_range.2 hj)
          simp only [hd2, Bool.and_eq_true, Bool.or_eq_true] at this
          rcases this.2 with h | h
          · exact hji (by simpa using h)
          · rw [hbind] at hd; rw [hd] at h; simp at h
        have hsee : ∀ x ∈ o.op.operands, (putsL ops vs a listed m).eval x = (puts ops vs a m).eval x := fun x hx => by
          refine eval_putsL vs a listed x m (fun j d hj hd hxd => ?_)
          have := hall2 j (List.mem_range.2 hj)
          simp only [hd, Bool.and_eq_true, Bool.or_eq_true] at this
          have hlook : d ∈ o.looksAt ops := by
            subst hxd
            exact List.mem_append_left _ (List.mem_filterMap.2 ⟨.tmp d, by simpa using hx, rfl⟩)
          rcases this.1 with h | h
          · exact absurd hlook (by simpa using h)
          · unfold Oper.waits at h
            rw [Array.any_eq_true'] at h
            obtain ⟨e, he, he2⟩ := h
            rw [Bool.and_eq_true] at he2
            have hon : e.on = j := by simpa using he2.1
            have := hw e he he2.2
            rw [hon] at this
            exact this
        refine wpOp_step ho (fun K' hK' => ?_)
        rw [if_pos (by unfold Region.wanted; rw [hguard])]
        refine wp_of_step (b := puts ops vs a m) (C := fun v w' => S w' ∧ E w w' ∧ R i v w') (by rw [putsL_defers, puts_defers]) (execOp_congr o hsel hsee) (fun d hd => ?_) hQ (fun K hK => ?_) (fun v w' hC => ?_)
        · rw [hd] at hdn
          rw [puts_size, hn]
          exact Nat.le_of_ble_eq_true hdn
        · refine hs i o (Nat.zero_le _) him ho vs w h2 (fun j hj => ?_) K (fun v w' h1 h2 h3 => hK v w' ⟨h1, h2, h3⟩)
          unfold Oper.waits at hj
          rw [Array.any_eq_true'] at hj
          obtain ⟨e, he, he2⟩ := hj
          rw [Bool.and_eq_true] at he2
          have hon : e.on = j := by simpa using he2.1
          have h6 := hw e he he2.2
          rw [Array.all_eq_true'] at hedge
          have h7 := hedge e he
          rw [he2.2] at h7
          have h8 : e.on < i := by
            have h1 : Nat.blt e.on i = true := by simpa using h7
            exact Nat.le_of_ble_eq_true h1
          rw [hon] at h6 h8
          exact h3 j (by omega) h6
        · apply hK'
          have h7 := putsL_set vs a listed i v hil hun m him hdist
          rw [hbind] at h7
          rw [← h7]
          refine ih _ (upd vs i v) w' (by simp [h1]) hC.1 (fun j hj hl => ?_) (fun j hj => ?_) ?_ (fun j o' ho' hl e he hb => ?_) (fun j hj => getD_set_true (hpre j hj))
          · by_cases hji : j = i
            · subst hji
              have : upd vs j v j = v := if_pos rfl
              rw [this]; exact hC.2.2
            · have : upd vs i v j = vs j := if_neg hji
              rw [this]
              rw [getD_set_other hji] at hl
              exact hE _ _ _ _ hC.2.1 (h3 j hj hl)
          · rw [getD_set_other (by omega)]
            exact h4 j hj
          · have hcnt : ((List.range m).filter (fun j => !listed.getD j false)).length = ((List.range m).filter (fun j => !(listed.setIfInBounds i true).getD j false)).length + 1 := by
              refine count_less i hil ?_ m him
              simp only [Array.getD_eq_getD_getElem?, Array.getElem?_eq_getElem hil, Option.getD_some] at hun ⊢
              exact hun
            omega
          · have hold : listed.getD e.on false = true := by
              by_cases hji : j = i
              · subst hji
                rw [ho] at ho'
                cases ho'
                exact hw e he hb
              · rw [getD_set_other hji] at hl
                exact hcl j o' ho' hl e he hb
            exact getD_set_true hold

/-- THE LAW: a region that draws its order; each of its first m operations is walked once, wherever it comes up; behind them the rest. -/
theorem wp_region_each {R : Nat → Value → World → Prop} {S : World → Prop} {E : World → World → Prop} {a : Act} {w : World} {id : Nat} (m n : Nat)
    (hm : P.follows .mixedOrders = true) (ht : tidy .any ops [] m n = true) (hn : a.tmps.size = n) (hQ : ∀ c (a b : Act) w, a.defers = b.defers → Q (.panic c) b w → Q (.panic c) a w)
    (hE : ∀ j v w w', E w w' → R j v w → R j v w') (hS : S w.drew) (hs : EachFrom P .any ops Q R S E a m 0)
    (hend : ∀ vs w, S w → (∀ j, j < m → R j (vs j) w) → wpAnyH P .any ops Q (fun _ => True) (ops.size - m) (firstM ops.size m) (puts ops vs a m) w) :
    (Code.region id ops true).wp P Q a w := by
  refine wp_region_any hm ?_
  have hnone : ∀ j, (Array.replicate ops.size false).getD j false = false := fun j => by
    rw [Array.getD_eq_getD_getElem?, Array.getElem?_replicate]
    split <;> rfl
  have h := wpAny_each (md := .any) ht hn hQ hE hs (fun vs w h1 h2 => wpAny_of_held _ _ _ _ (hend vs w h1 h2)) ops.size (Array.replicate ops.size false) (fun _ => undef) w.drew (by simp) hS
    (fun j _ h => by rw [hnone] at h; cases h) (fun j _ => hnone j) ?_ (fun j o _ h => by rw [hnone] at h; cases h) (fun _ h => by cases h)
  · rw [putsL_none _ _ _ _ (fun j _ => hnone j)] at h
    exact h
  · have h1 : m ≤ ops.size := by
      unfold tidy at ht
      rw [Bool.and_eq_true] at ht
      exact Nat.le_of_ble_eq_true ht.1
    have h2 : (List.range m).filter (fun j => !(Array.replicate ops.size false).getD j false) = List.range m := List.filter_eq_self.2 (fun j _ => by rw [hnone]; rfl)
    rw [h2, List.length_range]
    omega

/-- Bytes in a block of their own. -/
def Lay (v : Value) (w : World) (ns : List Nat) : Prop := ∃ b : Nat, v = .slice (some ⟨b, 0, none⟩) ns.length ns.length ∧ b < w.heap.size ∧ ∀ j (h : j < ns.length), w.cell? ⟨b, j, none⟩ = some (.int .u8 (ns[j] : Int))
theorem Lay.kept {v : Value} {w w' : World} {ns : List Nat} (h : Lay v w ns) (b : Below w.heap.size w w') : Lay v w' ns := by
  obtain ⟨p, h1, h2, h3⟩ := h
  exact ⟨p, h1, Nat.lt_of_lt_of_le h2 b.size, fun j hj => (b.cell (p := ⟨p, j, none⟩) h2).trans (h3 j hj)⟩

/-- What is told of an operation's answer: which value it is; which bytes lie there; what else holds of it and stays. -/
inductive What where
  | is (u : Value)
  | lay (ns : List Nat)
  | own (p : Value → World → Prop) (h : ∀ v w w', Below w.heap.size w w' → p v w → p v w')
  | any
def What.holds : What → Value → World → Prop
  | .is u, v, _ => v = u
  | .lay ns, v, w => Lay v w ns
  | .own p _, v, w => p v w
  | .any, _, _ => True
theorem What.kept : ∀ (x : What) {v : Value} {w w' : World}, Below w.heap.size w w' → x.holds v w → x.holds v w'
  | .is _, _, _, _, _, h => h
  | .lay _, _, _, _, b, h => Lay.kept h b
  | .own _ k, _, _, _, b, h => k _ _ _ b h
  | .any, _, _, _, _, _ => trivial

/-- One operation, the state written out. -/
def TellsOp (P : Program) (Q : Exit → Act → World → Prop) (S : World → Prop) (whats : List What) (b : (Nat → Value) → Act) (i : Nat) (o : Oper) : Prop :=
  ∀ (vs : Nat → Value) (w : World), S w → (∀ j, Oper.waits .any o j = true → (whats.getD j .any).holds (vs j) w) →
    ∀ K : Act → World → Prop, Shut (∀ v w', S w' → Below w.heap.size w w' → (whats.getD i .any).holds v w' → K ((b vs).put o.dst v) w') → Oper.wp P o (b vs) w K Q
def TellsFrom (P : Program) (ops : Array Oper) (Q : Exit → Act → World → Prop) (S : World → Prop) (whats : List What) (b : (Nat → Value) → Act) (m k : Nat) : Prop :=
  ∀ i o, k ≤ i → i < m → ops[i]? = some o → TellsOp P Q S whats b i o
theorem TellsFrom.nil {S : World → Prop} {whats : List What} {b : (Nat → Value) → Act} {m : Nat} : TellsFrom P ops Q S whats b m m :=
  fun _ _ h h' => absurd h' (Nat.not_lt.2 h)
theorem TellsFrom.cons {S : World → Prop} {whats : List What} {b : (Nat → Value) → Act} {m k : Nat} {o : Oper} (ho : ops[k]? = some o)
    (h : TellsOp P Q S whats b k o) (hs : TellsFrom P ops Q S whats b m (k + 1)) : TellsFrom P ops Q S whats b m k := fun i o' h1 h2 h3 => by
  by_cases hk : i = k
  · subst hk; rw [ho] at h3; cases h3; exact h
  · exact hs i o' (by omega) h2 h3

/-- THE LAW, the state written out, each answer told. -/
theorem wp_region_told {S : World → Prop} {a : Act} {w : World} {id : Nat} (m n : Nat) (whats : List What) {b : (Nat → Value) → Act}
    (hm : P.follows .mixedOrders = true) (ht : tidy .any ops [] m n = true) (hn : a.tmps.size = n) (hQ : ∀ c (a b : Act) w, a.defers = b.defers → Q (.panic c) b w → Q (.panic c) a w)
    (hb : ∀ vs, puts ops vs a m = b vs) (hS : S w.drew) (hs : TellsFrom P ops Q S whats b m 0)
    (hend : ∀ vs w, S w → (∀ j, j < m → (whats.getD j .any).holds (vs j) w) → wpAnyH P .any ops Q (fun _ => True) (ops.size - m) (firstM ops.size m) (b vs) w) :
    (Code.region id ops true).wp P Q a w := by
  refine wp_region_each (R := fun j v w => (whats.getD j .any).holds v w) (S := S) (E := fun w w' => Below w.heap.size w w') m n hm ht hn hQ (fun j v w w' he h => What.kept _ he h) hS ?_ ?_
  · intro i o h1 h2 h3 vs w' h4 h5 K hK
    rw [hb vs] at hK ⊢
    exact hs i o h1 h2 h3 vs w' h4 h5 K hK
  · intro vs w' h1 h2
    rw [hb vs]
    exact hend vs w' h1 h2

/-- which ones have come up -/
def someM (n : Nat) (pre : List Nat) : Array Bool := ((List.range n).map fun i => pre.contains i).toArray

/-- THE SAME from a state in which the operations 'pre' have come up (taken first, their answers stand in the frame). -/
theorem wpAny_told {S : World → Prop} {a : Act} {w : World} (pre : List Nat) (m n : Nat) (whats : List What) (vs0 : Nat → Value) {b : (Nat → Value) → Act} {fuel : Nat} {listed : Array Bool}
    (hlist : listed = someM ops.size pre) (ht : tidy .any ops pre m n = true) (hpm : pre.all (fun j => Nat.blt j m) = true)
    (hclosed : (List.range ops.size).all (fun j => !pre.contains j || ((ops[j]?).map fun o => o.after.all fun e => !Region.binds .any e || pre.contains e.on).getD true) = true)
    (hfuel : ((List.range m).filter (fun j => !(someM ops.size pre).getD j false)).length + (ops.size - m) = fuel)
    (hn : a.tmps.size = n) (hQ : ∀ c (a b : Act) w, a.defers = b.defers → Q (.panic c) b w → Q (.panic c) a w)
    (hva : putsL ops vs0 a (someM ops.size pre) m = a) (h0 : ∀ j ∈ pre, (whats.getD j .any).holds (vs0 j) w)
    (hb : ∀ vs, puts ops vs a m = b vs) (hS : S w) (hs : TellsFrom P ops Q S whats b m 0)
    (hend : ∀ vs w, S w → (∀ j, j < m → (whats.getD j .any).holds (vs j) w) → wpAnyH P .any ops Q (fun _ => True) (ops.size - m) (firstM ops.size m) (b vs) w) :
    wpAny P .any ops Q fuel listed a w := by
  have hsome : ∀ j, (someM ops.size pre).getD j false = true ↔ j < ops.size ∧ j ∈ pre := fun j => by
    unfold someM
    rw [Array.getD_eq_getD_getElem?, List.getElem?_toArray, List.getElem?_map]
    by_cases hj : j < ops.size
    · rw [List.getElem?_range hj]; simp [hj]
    · rw [List.getElem?_eq_none (by simpa using hj)]; simp [hj]
  have hm : m ≤ ops.size := by
    unfold tidy at ht
    rw [Bool.and_eq_true] at ht
    exact Nat.le_of_ble_eq_true ht.1
  rw [List.all_eq_true] at hpm
  have hpl : ∀ j ∈ pre, j < m := fun j hj => Nat.le_of_ble_eq_true (hpm j hj)
  rw [hlist]
  have h := wpAny_each (md := .any) (R := fun j v w => (whats.getD j .any).holds v w) (S := S) (E := fun w w' => Below w.heap.size w w') (Q := Q) (P := P) ht hn hQ (fun j v w w' he h => What.kept _ he h)
    (fun i o h1 h2 h3 vs w' h4 h5 K hK => by rw [hb vs] at hK ⊢; exact hs i o h1 h2 h3 vs w' h4 h5 K hK)
    (fun vs w' h1 h2 => by rw [hb vs]; exact wpAny_of_held _ _ _ _ (hend vs w' h1 h2))
    fuel (someM ops.size pre) vs0 w (by simp [someM]) hS (fun j _ hl => h0 j ((hsome j).1 hl).2) (fun j hj => ?_) hfuel (fun j o ho hl e he hbd => ?_) (fun j hj => (hsome j).2 ⟨Nat.lt_of_lt_of_le (hpl j hj) hm, hj⟩)
  · rw [hva] at h; exact h
  · cases hc : (someM ops.size pre).getD j false with
    | false => rfl
    | true => have := hpl j ((hsome j).1 hc).2; omega
  · obtain ⟨h1, h2⟩ := (hsome j).1 hl
    rw [List.all_eq_true] at hclosed
    have h3 := hclosed j (List.mem_range.2 h1)
    simp only [ho, Option.map_some, Option.getD_some, Bool.or_eq_true] at h3
    rcases h3 with h3 | h3
    · exact absurd h2 (by simpa using h3)
    · rw [Array.all_eq_true'] at h3
      have h4 := h3 e he
      rw [hbd] at h4
      have h5 : e.on ∈ pre := by simpa using h4
      exact (hsome e.on).2 ⟨Nat.lt_of_lt_of_le (hpl _ h5) hm, h5⟩
end
end Go.Proofs.Ytcgmmpfckmhahaa

/- l11Put of the specification: a picture that a TGA can hold, written. -/
namespace Go.Proofs.Ytcgmmpfckmhahaa
open Go.RowKit

theorem lay_text {b : Nat} {w : World} {ns : List Nat} (h3 : ∀ j (h : j < ns.length), w.cell? ⟨b, j, none⟩ = some (.int .u8 (ns[j] : Int))) :
    Sem.run Try.prog (convert 81 9 (.slice (some ⟨b, 0, none⟩) ns.length ns.length)) w = .ok (.string ⟨(ns.map UInt8.ofNat).toArray⟩) w := by
  refine run_text w ⟨b, 0, none⟩ ns.length ns (fun j v hj => ?_)
  rw [List.getElem?_map] at hj
  cases hn : ns[j]? with
  | none => rw [hn] at hj; cases hj
  | some x =>
    rw [hn] at hj
    obtain ⟨hl, hx⟩ := List.getElem?_eq_some_iff.1 hn
    have := h3 j hl
    rw [hx] at this
    simp only [Option.map_some, Option.some.injEq] at hj
    rw [← hj]
    have e : (Addr.mk b 0 none).add j = ⟨b, j, none⟩ := by unfold Addr.add; split <;> simp_all
    rw [e]
    exact this
def BxS (w wz : World) (v0 v1 v2 v3 v4 v5 : Value) : Prop := Bx wz w.heap.size v0 v1 v2 v3 v4 v5 ∧ Below w.heap.size w wz
theorem BxS.kept {w wz wy : World} {v0 v1 v2 v3 v4 v5 : Value} (h : BxS w wz v0 v1 v2 v3 v4 v5) (b : Below wz.heap.size wz wy) : BxS w wy v0 v1 v2 v3 v4 v5 := ⟨h.1.kept b, h.2.trans (b.mono h.2.size)⟩
theorem wrap_u8_nat (a : Nat) (ha : a < 256) : IntKind.u8.wrap (a : Int) = (a : Int) := by
  simp only [IntKind.wrap]
  simp [IntKind.signed, IntKind.bits]
  omega
/-- a list of numbers that a call has made -/
def Dn (v : Value) (w : World) (pn : Nat) (qs : List Int) : Prop := ∃ y cy, v = .slice y pn cy ∧ Ints w y qs
theorem Dn.kept {v : Value} {w w' : World} {pn : Nat} {qs : List Int} (h : Dn v w pn qs) (b : Below w.heap.size w w') : Dn v w' pn qs := by
  obtain ⟨y, cy, h1, h2⟩ := h
  exact ⟨y, cy, h1, h2.kept b⟩
theorem lay1 (w : World) (a : Nat) : Lay (.slice (some ⟨w.heap.size, 0, none⟩) 1 1) (w.alloc (.cells #[.int .u8 (a : Int)] 5)) [a] :=
  ⟨w.heap.size, rfl, by simp, fun j h => by
    match j, h with
    | 0, _ => simp⟩
theorem lay2 (w : World) (a b : Nat) : Lay (.slice (some ⟨w.heap.size, 0, none⟩) 2 2) (w.alloc (.cells #[.int .u8 (a : Int), .int .u8 (b : Int)] 5)) [a, b] :=
  ⟨w.heap.size, rfl, by simp, fun j h => by
    match j, h with
    | 0, _ => simp
    | 1, _ => simp⟩
theorem lay3 (w : World) (a b c : Nat) : Lay (.slice (some ⟨w.heap.size, 0, none⟩) 3 3) (w.alloc (.cells #[.int .u8 (a : Int), .int .u8 (b : Int), .int .u8 (c : Int)] 5)) [a, b, c] :=
  ⟨w.heap.size, rfl, by simp, fun j h => by
    match j, h with
    | 0, _ => simp
    | 1, _ => simp
    | 2, _ => simp⟩

end Go.Proofs.Ytcgmmpfckmhahaa

/- Rows packed by the specification. -/
namespace Go.Proofs.Ytcgmmpfckmhahaa
open Go.RowKit

theorem run_text2 (w : World) (c d : Nat) (b : Nat) (hb : b = w.heap.size) :
    Sem.run Try.prog (convert 81 9 (.slice (some ⟨b, 0, none⟩) 2 2)) (w.alloc (.cells #[.int .u8 (c : Int), .int .u8 (d : Int)] 5)) = .ok (.string ⟨#[UInt8.ofNat c, UInt8.ofNat d]⟩) (w.alloc (.cells #[.int .u8 (c : Int), .int .u8 (d : Int)] 5)) := by
  refine run_text _ ⟨b, 0, none⟩ 2 [c, d] ?_
  subst hb
  intro j v hj
  cases j with
  | zero => simp at hj; subst hj; simp [Addr.add]
  | succ j =>
    cases j with
    | zero => simp at hj; subst hj; simp [Addr.add]
    | succ j => simp at hj

set_option maxHeartbeats 4000000 in
set_option maxRecDepth 20000 in
theorem l7Row_any (a : Option Addr) (cap n : Nat) (l : List Int) (w : World) (hl : Ints w a l) (hn : l.length = n) (hnb : n ≤ 100) (hf : Rt.fit 1 l = true) :
    Calls Try.prog 68 #[.slice a n cap] w fun e w' => e = .returned (.string ⟨(Re.row l).toArray⟩) ∧ Below w.heap.size w w' := by
  have HL : Hid (Ints w a l) := hl
  have HN : Hid (l.length = n) := hn
  have HF : Hid (Rt.fit 1 l = true) := hf
  clear hl hn hf
  go_enter Try.func68, Try.ntmps68
  go_wp2_with fail
  go_loopw [3, 4] (fun o i wr => ∃ (A : Nat) (pre : List (Nat × Nat × Bool)) (q : List UInt8), A ≤ n ∧ i = .int .i64 (A : Int) ∧ o = .string ⟨q.toArray⟩ ∧ Hid (q = Re.flat l pre ∧ Rn.from_ 1 255 l 0 = pre ++ Rn.from_ 1 255 l A ∧ q.length ≤ 2 * A) ∧ Below w.heap.size w wr) (fun _ i _ => n - (intOf i).toNat)
  case atStart => exact ⟨0, [], [], Nat.zero_le _, rfl, rfl, ⟨rfl, rfl, Nat.le_refl _⟩, Below.refl _ _⟩
  case round =>
    obtain ⟨A, pre, q, hA, rfl, rfl, HQ, hbel⟩ := hrel
    have hbs := hbel.size
    by_cases hlt : A < n
    · have hAl : A < l.length := by rw [HN.out]; exact hlt
      obtain ⟨b, off, rfl, hbl, hcell⟩ : ∃ b off, a = some ⟨b, off, none⟩ ∧ b < w.heap.size ∧ ∀ i (h : i < l.length), w.cell? ⟨b, off + i, none⟩ = some (.int .i64 l[i]) := by
        rcases HL.out with e | h
        · rw [e] at hAl; simp at hAl
        · exact h
      have hLr : LiesI wr b off l := LiesI.kept ⟨hbl, hcell⟩ hbel
      have hdl : 0 < (l.drop A).length := by rw [List.length_drop]; omega
      have hsz := Rn.size_ends (l := l.drop A) (least := 1) (m := 255) hdl (by omega)
      have HFs := Rn.from_step (least := 1) (m := 255) (l := l) (k := A) (by omega) hAl
      rw [Re.size_same hdl] at hsz HFs
      rw [List.length_drop, HN.out] at hsz
      have HA1 : Hid (Calls Try.prog 108 #[.slice (some ⟨b, off, none⟩) n cap, .int .i64 (A : Int), .int .i64 255] wr fun e w' => e = .returned (.int .i64 ((Rn.same (l.drop A) 255 : Nat) : Int)) ∧ ∃ q, w' = wr.drewN q) := l7Equal_any b off cap n A 255 l wr hLr HN.out (by omega) hlt (by omega) (by omega)
      generalize Rn.same (l.drop A) 255 = z at *
      obtain ⟨hz1, hz2, hz3⟩ := hsz
      have hcx := hLr.2 A hAl
      obtain ⟨hv0, hv1⟩ := Rt.fit_at HF.out A hAl
      have hgd : l.getD A 0 = l[A] := by rw [List.getD_eq_getElem?_getD, List.getElem?_eq_getElem hAl]; rfl
      obtain ⟨N, hN⟩ := Int.eq_ofNat_of_zero_le hv0
      rw [hN] at hcx hgd hv1
      have hNb : N < 256 := by
        have : ((256 ^ 1 : Nat) : Int) = 256 := by decide
        omega
      have HQ2 : Hid (q ++ [UInt8.ofNat z, UInt8.ofNat N] = Re.flat l (pre ++ [(A, z, Rn.again 1 255 (l.drop A))]) ∧ Rn.from_ 1 255 l 0 = (pre ++ [(A, z, Rn.again 1 255 (l.drop A))]) ++ Rn.from_ 1 255 l (A + z) ∧ (q ++ [UInt8.ofNat z, UInt8.ofNat N]).length ≤ 2 * (A + z)) := by
        refine ⟨?_, ?_, ?_⟩
        · rw [Re.flat_snoc, ← HQ.out.1]
          unfold Re.piece
          rw [hgd, Int.toNat_natCast]
        · rw [HQ.out.2.1, HFs]; simp
        · rw [List.length_append]
          have := HQ.out.2.2
          simp
          omega
      have hql : q.length ≤ 200 := by have := HQ.out.2.2; omega
      have hl1 : (ByteArray.mk q.toArray).size ≤ 200 := by simp [ByteArray.size]; exact hql
      have e3 : IntKind.u8.wrap (z : Int) = (z : Int) := by simp [IntKind.wrap, IntKind.bits, IntKind.signed]; omega
      have e4 : IntKind.u8.wrap (N : Int) = (N : Int) := by simp [IntKind.wrap, IntKind.bits, IntKind.signed]; omega
      have hs2 : ByteArray.mk q.toArray ++ ByteArray.mk #[UInt8.ofNat z, UInt8.ofNat N] = ByteArray.mk (q ++ [UInt8.ofNat z, UInt8.ofNat N]).toArray := by rw [show (#[UInt8.ofNat z, UInt8.ofNat N] : Array UInt8) = [UInt8.ofNat z, UInt8.ofNat N].toArray from rfl, ByteArray.mk_append_mk]
      have hAi : (A : Int) < (n : Int) := by omega
      clear HFs hdl hgd hN hv0 hv1 HQ hLr hcell
      generalize Rn.again 1 255 (l.drop A) = ag at *
      go_wp2_with fail
      refine HA1.out.mono ?_
      rintro e w1 ⟨rfl, q1, hw⟩
      have c1 : w1.cell? ⟨b, off + A, none⟩ = some (.int .i64 (N : Int)) := by rw [hw]; exact hcx
      have B1 : Below w.heap.size w w1 := by rw [hw]; exact hbel.trans ⟨rfl, rfl, rfl, Nat.le_refl _, fun _ _ => rfl⟩
      have htx := run_text2 w1 z N w1.heap.size rfl
      clear HA1 hw hcx hbel
      go_wp2_with fail
      go_roundw
      case rel => exact ⟨A + z, _, _, by omega, by go_num, rfl, HQ2.out, B1.alloc B1.size _⟩
      case measure => simp [intOf]; omega
    · have hAi : ¬ (A : Int) < (n : Int) := by omega
      have HF2 : Hid (q = Re.row l) := by
        have h := HQ.out.2.1
        rw [Rn.from_end (k := A) (by rw [HN.out]; omega), List.append_nil] at h
        show _ = _
        unfold Re.row
        rw [h]
        exact HQ.out.1
      clear HQ
      go_wp2_with fail
      go_ret
      exact ⟨by rw [← HF2.out]; rfl, hbel⟩
end Go.Proofs.Ytcgmmpfckmhahaa

/- RlePut of the specification. -/
namespace Go.Proofs.Ytcgmmpfckmhahaa
open Go.RowKit

/-- a list of rows in memory -/
def Rows2 (w : World) (a : Option Addr) (ls : List (List Int)) : Prop :=
  ls = [] ∨ ∃ R off, a = some ⟨R, off, none⟩ ∧ R < w.heap.size ∧ ∀ i (h : i < ls.length), ∃ a' cap, w.cell? ⟨R, off + i, none⟩ = some (.slice a' ls[i].length cap) ∧ Ints w a' ls[i] ∧ ls[i].length ≤ cap
theorem Rows2.kept {w w' : World} {a : Option Addr} {ls : List (List Int)} (h : Rows2 w a ls) (hb : Below w.heap.size w w') : Rows2 w' a ls := by
  rcases h with e | ⟨R, off, rfl, hR, hc⟩
  · exact .inl e
  · refine .inr ⟨R, off, rfl, Nat.lt_of_lt_of_le hR hb.size, fun i hi => ?_⟩
    obtain ⟨a', cap, h1, h2, h3⟩ := hc i hi
    exact ⟨a', cap, (hb.cell (p := ⟨R, off + i, none⟩) hR).trans h1, h2.kept hb, h3⟩
theorem Rows2.at {w : World} {a : Option Addr} {ls : List (List Int)} (h : Rows2 w a ls) {k : Nat} (hk : k < ls.length) : ∃ R off a' cap, a = some ⟨R, off, none⟩ ∧ w.cell? ⟨R, off + k, none⟩ = some (.slice a' ls[k].length cap) ∧ Ints w a' ls[k] := by
  rcases h with e | ⟨R, off, rfl, hR, hc⟩
  · rw [e] at hk; simp at hk
  · obtain ⟨a', cap, h1, h2, _⟩ := hc k hk
    exact ⟨R, off, a', cap, rfl, h1, h2⟩
theorem app2 (q : List UInt8) (c d : UInt8) : ByteArray.mk q.toArray ++ ByteArray.mk #[c, d] = ByteArray.mk (q ++ [c, d]).toArray := by
  rw [show (#[c, d] : Array UInt8) = [c, d].toArray from rfl, ByteArray.mk_append_mk]

set_option linter.unusedSimpArgs false in
set_option maxHeartbeats 4000000 in
set_option maxRecDepth 20000 in
theorem spec_rlePut (a : Option Addr) (cap n : Nat) (ls : List (List Int)) (w : World) (h : Rows2 w a ls) (hn : ls.length = n) (hnb : n ≤ 2000000) (hm : ∀ l ∈ ls, l.length ≤ 2000000) :
    Calls Try.prog 36 #[.slice a n cap] w fun e w' => e = .returned (.string ⟨(Re.all ls).toArray⟩) ∧ Below w.heap.size w w' := by
  by_cases hbig : 100 < n
  · have hbi : (100 : Int) < (n : Int) := by omega
    have HF : Hid (Re.all ls = []) := Re.all_many (by omega)
    clear h hn hm
    go_enter Try.func36, Try.ntmps36
    go_wp2_with fail
    go_ret
    exact ⟨by rw [HF.out]; rfl, Below.refl _ _⟩
  have hbi : ¬ (100 : Int) < (n : Int) := by omega
  have HR : Hid (Rows2 w a ls) := h
  have HN : Hid (ls.length = n) := hn
  have HM : Hid (∀ l ∈ ls, l.length ≤ 2000000) := hm
  clear h hn hm
  go_enter Try.func36, Try.ntmps36
  go_wp2_with fail
  go_loopw [3, 4] (fun o i wr => ∃ (k : Nat) (q : List UInt8), k ≤ n ∧ i = .int .i64 (k : Int) ∧ o = .string ⟨q.toArray⟩ ∧ Hid (q = Re.part (ls.take k) ++ Re.sep k n ∧ (∀ l ∈ ls.take k, Re.okRow l = true) ∧ q.length ≤ 300 * k) ∧ Hid (Below w.heap.size w wr)) (fun _ i _ => n - (intOf i).toNat)
  case atStart => exact ⟨0, [], Nat.zero_le _, rfl, rfl, ⟨by unfold Re.sep; rw [if_neg (by omega)]; simp [Re.part], by simp, Nat.le_refl _⟩, Below.refl _ _⟩
  case round =>
    obtain ⟨k, q, hk, rfl, rfl, HQ, HB⟩ := hrel
    by_cases hlt : k < n
    · have hki : (k : Int) < (n : Int) := by omega
      have hkl : k < ls.length := by rw [HN.out]; exact hlt
      obtain ⟨R, off, a', cap', rfl, hcell, hints⟩ := (HR.out.kept HB.out).at hkl
      have hmb : ls[k].length ≤ 2000000 := HM.out _ (List.getElem_mem hkl)
      obtain ⟨l, hl⟩ : ∃ l, l = ls[k] := ⟨_, rfl⟩
      have HLK : Hid (l = ls[k]) := hl
      rw [← hl] at hcell hints hmb
      have HI : Hid (Ints wr a' l) := hints
      obtain ⟨m, hm⟩ : ∃ m, m = l.length := ⟨_, rfl⟩
      have HML : Hid (m = l.length) := hm
      rw [← hm] at hcell hmb
      have hql : q.length ≤ 30000 := by have := HQ.out.2.2; omega
      clear hints hl hm
      go_wp2_with fail
      go_loop [5] (fun i => ∃ j : Nat, j ≤ m ∧ i = .int .i64 (j : Int) ∧ Hid (∀ i (hi : i < l.length), i < j → 0 ≤ l[i] ∧ l[i] ≤ 255) ∧ (0 < j → m ≤ 100)) (fun i => m - (intOf i).toNat)
      case atStart => exact ⟨0, Nat.zero_le _, rfl, fun i _ h => by omega, fun h => by omega⟩
      case round =>
        obtain ⟨j, hj, rfl, HJ, hj1⟩ := hrel
        by_cases hjlt : j < m
        · have hji : (j : Int) < (m : Int) := by omega
          have hjl : j < l.length := by rw [← HML.out]; exact hjlt
          obtain ⟨b, o2, rfl, hbl, hc2⟩ : ∃ b o2, a' = some ⟨b, o2, none⟩ ∧ b < wr.heap.size ∧ ∀ i (h : i < l.length), wr.cell? ⟨b, o2 + i, none⟩ = some (.int .i64 l[i]) := by
            rcases HI.out with e | h
            · rw [e] at hjl; simp at hjl
            · exact h
          have hcx := hc2 j hjl
          clear hc2
          by_cases hok : 0 ≤ l[j] ∧ l[j] ≤ 255
          · have HIN : Hid (∀ w : World, Calls Try.prog 22 #[.int .i64 l[j], .int .i64 0, .int .i64 255] w fun e w' => e = .returned (.bool true) ∧ w' = w) := fun w => l1In_yes _ _ _ w hok.1 hok.2
            have HJ2 : Hid (∀ i (hi : i < l.length), i < j + 1 → 0 ≤ l[i] ∧ l[i] ≤ 255) := fun i hi h => by
              by_cases e : i = j
              · subst e; exact hok
              · exact HJ.out i hi (by omega)
            generalize l[j] = v at *
            by_cases hm1 : m ≤ 100
            · have d1 : ¬ (100 : Int) < (m : Int) := by omega
              clear hok HJ
              go_wp2_with fail
              refine (HIN.out _).mono ?_
              rintro e v0 ⟨rfl, hv0⟩
              replace hv0 := hv0.symm
              subst hv0
              clear HIN
              go_wp2_with fail
              go_round
              case rel => exact ⟨j + 1, by omega, by go_num, HJ2.out, fun _ => hm1⟩
              case measure => simp [intOf]; omega
            · have d1 : (100 : Int) < (m : Int) := by omega
              have HF : Hid (Re.all ls = []) := Re.all_bad k hkl (by rw [← HLK.out]; exact Re.okRow_long (by rw [← HML.out]; omega))
              clear hok HJ
              go_wp2_with fail
              refine (HIN.out _).mono ?_
              rintro e v0 ⟨rfl, hv0⟩
              replace hv0 := hv0.symm
              subst hv0
              clear HIN
              go_wp2_with fail
              go_ret
              exact ⟨by rw [HF.out]; rfl, HB.out⟩
          · have HIN : Hid (∀ w : World, Calls Try.prog 22 #[.int .i64 l[j], .int .i64 0, .int .i64 255] w fun e w' => e = .returned (.bool false) ∧ w' = w) := fun w => l1In_no _ _ _ w hok
            have HF : Hid (Re.all ls = []) := Re.all_bad k hkl (by rw [← HLK.out]; exact Re.okRow_no j hjl hok)
            generalize l[j] = v at *
            clear hok HJ
            go_wp2_with fail
            refine (HIN.out _).mono ?_
            rintro e v0 ⟨rfl, hv0⟩
            replace hv0 := hv0.symm
            subst hv0
            clear HIN
            go_wp2_with fail
            go_ret
            exact ⟨by rw [HF.out]; rfl, HB.out⟩
        · have hji : ¬ (j : Int) < (m : Int) := by omega
          have hjm : j = m := by omega
          subst hjm
          have hj100 : j ≤ 100 := by
            by_cases h0 : 0 < j
            · exact hj1 h0
            · omega
          have hokr : Re.okRow l = true := Re.okRow_yes (by rw [← HML.out]; exact hj100) (fun i hi => HJ.out i hi (by rw [HML.out]; exact hi))
          have HRW : Hid (∀ w2, Below wr.heap.size wr w2 → Calls Try.prog 68 #[.slice a' j cap'] w2 fun e w' => e = .returned (.string ⟨(Re.row l).toArray⟩) ∧ Below w2.heap.size w2 w') := fun w2 hb => l7Row_any a' cap' j l w2 (HI.out.kept hb) HML.out.symm hj100 (Re.okRow_fit hokr)
          have hrl := Re.row_len l
          rw [← HML.out] at hrl
          have HPS : Hid (q ++ Re.row l = Re.part (ls.take (k + 1)) ∧ (∀ l ∈ ls.take (k + 1), Re.okRow l = true)) := by
            refine ⟨?_, ?_⟩
            · rw [HQ.out.1, HLK.out, ← HN.out]; exact Re.part_step hkl
            · intro x hx
              rw [List.take_succ_eq_append_getElem hkl] at hx
              rcases List.mem_append.1 hx with h | h
              · exact HQ.out.2.1 x h
              · simp at h; rw [h, ← HLK.out]; exact hokr
          have HQL : Hid (q.length ≤ 300 * k) := HQ.out.2.2
          generalize Re.row l = r at *
          have hl1 : (ByteArray.mk q.toArray).size ≤ 30000 := by simp [ByteArray.size]; exact hql
          have hl2 : (ByteArray.mk r.toArray).size ≤ 200 := by simp [ByteArray.size]; omega
          have hs1 : ByteArray.mk q.toArray ++ ByteArray.mk r.toArray = ByteArray.mk (q ++ r).toArray := by rw [ByteArray.mk_append_mk]
          have hl3 : (ByteArray.mk (q ++ r).toArray).size ≤ 30200 := by simp [ByteArray.size]; omega
          clear HJ hj1 HQ HI hokr
          go_wp2_with fail
          refine (HRW.out _ (Below.refl _ _)).mono ?_
          rintro e w3 ⟨rfl, b3⟩
          have HB3 : Hid (Below w.heap.size w w3) := HB.out.trans (b3.mono HB.out.size)
          clear HRW b3 HB
          by_cases hnx : k + 1 < n
          · have hni : (k : Int) + 1 < (n : Int) := by omega
            obtain ⟨t, ht⟩ : ∃ t : List UInt8, t = [UInt8.ofNat 0, UInt8.ofNat 0] := ⟨_, rfl⟩
            have HT : Hid (t = [UInt8.ofNat 0, UInt8.ofNat 0]) := ht
            have htx : Sem.run Try.prog (convert 81 9 (.slice (some ⟨w3.heap.size, 0, none⟩) 2 2)) (w3.alloc (.cells #[.int .u8 0, .int .u8 0] 5)) = .ok (.string ⟨t.toArray⟩) (w3.alloc (.cells #[.int .u8 0, .int .u8 0] 5)) := by rw [ht]; exact run_text2 w3 0 0 w3.heap.size rfl
            have hlt2 : (ByteArray.mk t.toArray).size = 2 := by rw [ht]; rfl
            have hs2 : ByteArray.mk (q ++ r).toArray ++ ByteArray.mk t.toArray = ByteArray.mk (q ++ r ++ t).toArray := by rw [ByteArray.mk_append_mk]
            clear ht
            have HQ2 : Hid (q ++ r ++ t = Re.part (ls.take (k + 1)) ++ Re.sep (k + 1) n ∧ (∀ l ∈ ls.take (k + 1), Re.okRow l = true) ∧ (q ++ r ++ t).length ≤ 300 * (k + 1)) := by
              refine ⟨?_, HPS.out.2, ?_⟩
              · rw [HPS.out.1, HT.out]; unfold Re.sep; rw [if_pos ⟨by omega, hnx⟩]; rfl
              · have := HQL.out
                rw [List.length_append, List.length_append, HT.out]
                simp
                omega
            clear HPS HQL
            go_wp2_with fail
            go_roundw
            case rel => exact ⟨k + 1, _, by omega, by go_num, rfl, by rw [← List.append_assoc]; exact HQ2, HB3.out.alloc HB3.out.size _⟩
            case measure => simp [intOf]; omega
          · have hni : ¬ (k : Int) + 1 < (n : Int) := by omega
            have HQ2 : Hid (q ++ r = Re.part (ls.take (k + 1)) ++ Re.sep (k + 1) n ∧ (∀ l ∈ ls.take (k + 1), Re.okRow l = true) ∧ (q ++ r).length ≤ 300 * (k + 1)) := by
              refine ⟨?_, HPS.out.2, ?_⟩
              · rw [HPS.out.1]; unfold Re.sep; rw [if_neg (by omega), List.append_nil]
              · have := HQL.out
                rw [List.length_append]
                omega
            clear HPS HQL
            go_wp2_with fail
            go_roundw
            case rel => exact ⟨k + 1, _, by omega, by go_num, rfl, HQ2.out, HB3.out⟩
            case measure => simp [intOf]; omega
    · have hki : ¬ (k : Int) < (n : Int) := by omega
      have hkn : k = n := by omega
      subst hkn
      have HF : Hid (Re.all ls = q ++ [UInt8.ofNat 0, UInt8.ofNat 1]) := by
        have ht : ls.take k = ls := List.take_of_length_le (by rw [HN.out]; exact Nat.le_refl _)
        have h := HQ.out
        rw [ht] at h
        show _ = _
        rw [Re.all_good (by rw [HN.out]; omega) h.2.1, h.1]
        unfold Re.sep
        rw [if_neg (by omega), List.append_nil]
        rfl
      have hql : q.length ≤ 30000 := by have := HQ.out.2.2; omega
      have hl1 : (ByteArray.mk q.toArray).size ≤ 30000 := by simp [ByteArray.size]; exact hql
      obtain ⟨t, ht⟩ : ∃ t : List UInt8, t = [UInt8.ofNat 0, UInt8.ofNat 1] := ⟨_, rfl⟩
      have HT : Hid (t = [UInt8.ofNat 0, UInt8.ofNat 1]) := ht
      have htx : Sem.run Try.prog (convert 81 9 (.slice (some ⟨wr.heap.size, 0, none⟩) 2 2)) (wr.alloc (.cells #[.int .u8 0, .int .u8 1] 5)) = .ok (.string ⟨t.toArray⟩) (wr.alloc (.cells #[.int .u8 0, .int .u8 1] 5)) := by rw [ht]; exact run_text2 wr 0 1 wr.heap.size rfl
      have hlt2 : (ByteArray.mk t.toArray).size = 2 := by rw [ht]; rfl
      have hs2 : ByteArray.mk q.toArray ++ ByteArray.mk t.toArray = ByteArray.mk (q ++ t).toArray := by rw [ByteArray.mk_append_mk]
      clear ht
      clear HQ
      go_wp2_with fail
      go_ret
      exact ⟨by rw [HF.out, ← HT.out]; rfl, HB.out.alloc HB.out.size _⟩
end Go.Proofs.Ytcgmmpfckmhahaa

/- The reader of a code, by which inputs are drawn: it stands anywhere, it picks a number below a bound, and nothing but its own place turns. -/
namespace Go.Proofs.Ytcgmmpfckmhahaa
open Go.RowKit

/-- the bytes of a code, below block B -/
def Row8 (w : World) (B : Nat) (a : Option Addr) (len : Nat) : Prop :=
  len = 0 ∨ ∃ b off, a = some ⟨b, off, none⟩ ∧ b < B ∧ ∀ i, i < len → ∃ c : Nat, c < 256 ∧ w.cell? ⟨b, off + i, none⟩ = some (.int .u8 (c : Int))

/-- a reader in block B, at place p -/
def RdAt (w : World) (B p : Nat) : Prop :=
  ∃ a len cap, w.cell? ⟨B, 0, none⟩ = some (.slice a len cap) ∧ w.cell? ⟨B, 1, none⟩ = some (.int .i64 (p : Int)) ∧ w.frozen? ⟨B, 1, none⟩ = false ∧ len ≤ 2000 ∧ Row8 w B a len

theorem RdAt.step {w : World} {B p : Nat} (h : RdAt w B p) (n : Nat) : RdAt ((w.setCell ⟨B, 1, none⟩ (.int .i64 ((p + 1 : Nat) : Int))).drewN n) B (p + 1) := by
  obtain ⟨a, len, cap, h0, h1, hf, hl, hr⟩ := h
  refine ⟨a, len, cap, ?_, ?_, ?_, hl, ?_⟩
  · rw [World.cell?_drewN, World.cell?_setCell_other _ _ _ _ (by simp)]; exact h0
  · rw [World.cell?_drewN]; exact World.cell?_setCell_same _ _ _ h1
  · rw [World.frozen?_drewN, World.frozen?_setCell]; exact hf
  · rcases hr with h | ⟨b, off, rfl, hb, hc⟩
    · exact .inl h
    · refine .inr ⟨b, off, rfl, hb, fun i hi => ?_⟩
      obtain ⟨c, hc1, hc2⟩ := hc i hi
      refine ⟨c, hc1, ?_⟩
      rw [World.cell?_drewN, World.cell?_setCell_other _ _ _ _ (fun e => absurd (congrArg Addr.block e) (by show ¬ B = b; omega))]; exact hc2

theorem mix_mod (X n : Int) (h0 : 0 ≤ X) (h1 : X ≤ 1000000000000) (hn : 1 ≤ n) : ∃ v : Nat, (bits .xor .i64 X (X / 64)).tmod n = (v : Int) ∧ (v : Int) < n := by
  obtain ⟨A, rfl⟩ := Int.eq_ofNat_of_zero_le h0
  obtain ⟨N, rfl⟩ := Int.eq_ofNat_of_zero_le (show 0 ≤ n by omega)
  have e := i64_xor_nat A (A / 64) (by omega) (by omega)
  rw [show ((A / 64 : Nat) : Int) = (A : Int) / 64 from by omega] at e
  rw [e]
  refine ⟨(A ^^^ A / 64) % N, ?_, ?_⟩
  · rw [Int.tmod_eq_emod_of_nonneg (by omega)]; rfl
  · have := Nat.mod_lt (A ^^^ A / 64) (show 0 < N by omega); omega

end Go.Proofs.Ytcgmmpfckmhahaa

/- Nothing but one block turns. -/
namespace Go.Proofs.Ytcgmmpfckmhahaa
open Go.RowKit

/-- nothing that was there has turned but block B -/
structure Only (B : Nat) (w w' : World) : Prop where
  below : Below B w w'
  rest : ∀ k, k < w.heap.size → k ≠ B → w'.heap[k]? = w.heap[k]?

theorem Only.refl (B : Nat) (w : World) : Only B w w := ⟨Below.refl _ _, fun _ _ _ => rfl⟩
theorem Only.trans {B : Nat} {a b c : World} (h : Only B a b) (g : Only B b c) : Only B a c :=
  ⟨h.below.trans g.below, fun k hk hB => (g.rest k (Nat.lt_of_lt_of_le hk h.below.size) hB).trans (h.rest k hk hB)⟩
theorem Only.alloc {B : Nat} {a b : World} (h : Only B a b) (hB : B < b.heap.size) (o : Obj) : Only B a (b.alloc o) :=
  ⟨h.below.alloc (Nat.le_of_lt hB) o, fun k hk hkB => (Below.heap_alloc b o k (Nat.lt_of_lt_of_le hk h.below.size)).trans (h.rest k hk hkB)⟩
theorem Only.cell {B : Nat} {w w' : World} (h : Only B w w') : ∀ k o, k < w.heap.size → k ≠ B → w'.cell? ⟨k, o, none⟩ = w.cell? ⟨k, o, none⟩ :=
  fun k o hk hB => World.cell?_of_block (w := w) (a := ⟨k, o, none⟩) (h.rest k hk hB)
theorem Only.set {B : Nat} {w w' : World} (h : Only B w w') {g : Nat} (hg : w.heap.size ≤ g) (hB : B < w.heap.size) (i : Nat) (v : Value) : Only B w (w'.setCell ⟨g, i, none⟩ v) :=
  ⟨h.below.setCell (p := ⟨g, i, none⟩) (show B ≤ g by omega) _, fun k hk hkB => (Below.heap_setCell w' ⟨g, i, none⟩ v k (by show k ≠ g; omega)).trans (h.rest k hk hkB)⟩
theorem Only.own (w : World) (B i : Nat) (v : Value) : Only B w (w.setCell ⟨B, i, none⟩ v) :=
  ⟨(Below.refl B w).setCell (p := ⟨B, i, none⟩) (Nat.le_refl _) _, fun k _ hk => Below.heap_setCell w ⟨B, i, none⟩ v k hk⟩
theorem Only.of_below {B : Nat} {w w' : World} (h : Below w.heap.size w w') (hB : B < w.heap.size) : Only B w w' := ⟨h.mono (Nat.le_of_lt hB), fun k hk _ => h.block k hk⟩
theorem Only.drewN {B : Nat} {w w' : World} (h : Only B w w') (n : Nat) : Only B w (w'.drewN n) := ⟨⟨h.below.os, h.below.tape, h.below.output, h.below.size, h.below.block⟩, h.rest⟩
end Go.Proofs.Ytcgmmpfckmhahaa

/- The drawn text: whatever the code, some text of a bounded size; nothing but the reader turns. -/
namespace Go.Proofs.Ytcgmmpfckmhahaa
open Go.RowKit

theorem RdAt.lt {w : World} {B p : Nat} (h : RdAt w B p) : B < w.heap.size := by
  obtain ⟨a, len, cap, h0, _⟩ := h
  exact World.block_lt_of_cell? _ _ h0

theorem RdAt.kept {w w' : World} {B p : Nat} (h : RdAt w B p) (hb : Below (B + 1) w w') : RdAt w' B p := by
  obtain ⟨a, len, cap, h0, h1, hf, hl, hr⟩ := h
  refine ⟨a, len, cap, (hb.cell (p := ⟨B, 0, none⟩) (by show B < B + 1; omega)).trans h0, (hb.cell (p := ⟨B, 1, none⟩) (by show B < B + 1; omega)).trans h1, (hb.frozen (p := ⟨B, 1, none⟩) (by show B < B + 1; omega)).trans hf, hl, ?_⟩
  rcases hr with h | ⟨b, off, rfl, hbB, hc⟩
  · exact .inl h
  · refine .inr ⟨b, off, rfl, hbB, fun i hi => ?_⟩
    obtain ⟨c, hc1, hc2⟩ := hc i hi
    exact ⟨c, hc1, (hb.cell (p := ⟨b, off + i, none⟩) (by show b < B + 1; omega)).trans hc2⟩

theorem RdAt.alloc {w : World} {B p : Nat} (h : RdAt w B p) (o : Obj) : RdAt (w.alloc o) B p :=
  h.kept ((Below.refl _ _).alloc h.lt o)

theorem RdAt.drew {w : World} {B p : Nat} (h : RdAt w B p) : RdAt w.drew B p := h.kept (Below.refl _ _).drew

/-- what a pick leaves -/
theorem step_only (w : World) (B : Nat) (v : Value) (m : Nat) : Only B w ((w.setCell ⟨B, 1, none⟩ v).drewN m) :=
  ⟨below_drewN ((Below.refl B w).setCell (p := ⟨B, 1, none⟩) (Nat.le_refl _) _) _, fun k _ hk => Below.heap_setCell w ⟨B, 1, none⟩ v k hk⟩

set_option maxHeartbeats 400000 in
theorem l1Many_any (s : ByteArray) (n : Nat) (w : World) (hs : s.size ≤ 100) (hn : n ≤ 10000) :
    Calls Try.prog 107 #[.string s, .int .i64 n] w fun e w' => (∃ t : ByteArray, e = .returned (.string t) ∧ t.size = n * s.size) ∧ w' = w := by
  go_enter Try.func107, Try.ntmps107
  go_wp2_with fail
  go_loop [5, 6] (fun o i => ∃ (k z : Nat) (t : ByteArray), k ≤ n ∧ i = .int .i64 k ∧ o = .string t ∧ z = k * s.size ∧ t.size = z) (fun _ i => n - (intOf i).toNat)
  case atStart => exact ⟨0, 0, ⟨#[]⟩, Nat.zero_le _, rfl, rfl, by omega, rfl⟩
  case round =>
    obtain ⟨k, z, t, hk, rfl, rfl, hz, ht⟩ := hrel
    have hz' : z ≤ n * 100 := by rw [hz]; exact Nat.mul_le_mul hk hs
    have HZ : Hid (z = k * s.size) := hz
    have HT : Hid (t.size = z) := ht
    have htb : t.size ≤ 1000000 := by omega
    clear hz ht hz'
    by_cases hlt : k < n
    · go_wp2_with fail
      go_round
      case rel => exact ⟨k + 1, z + s.size, _, by omega, by go_num, rfl, by rw [HZ.out, Nat.succ_mul], by rw [ByteArray.size_append, HT.out]⟩
      case measure => simp [intOf]; omega
    · have hk' : k = n := by omega
      subst hk'
      go_wp2_with fail
      go_ret
      exact ⟨⟨t, rfl, by rw [HT.out, HZ.out]⟩, rfl⟩

end Go.Proofs.Ytcgmmpfckmhahaa

/- A stretch of a list of ints in memory. -/
namespace Go.Proofs.Ytcgmmpfckmhahaa
open Go.RowKit

theorem upto_add (F : Nat → Int) (a n : Nat) : upto F (a + n) = upto F a ++ (List.range n).map (fun t => F (a + t)) := by
  simp [upto, List.range_add, Function.comp_def]
/-- so many of a list, from one on -/
def seg (ps : List Int) (P n : Nat) : List Int := (List.range n).map (fun t => ps.getD (P + t) 0)
theorem seg_len (ps : List Int) (P n : Nat) : (seg ps P n).length = n := by simp [seg]
theorem seg_ints {w : World} {b off : Nat} {ps : List Int} {P n : Nat} (h : Ints w (some ⟨b, off, none⟩) ps) (hn : P + n ≤ ps.length) : Ints w (some ⟨b, off + P, none⟩) (seg ps P n) := by
  rcases h with e | ⟨c, o, e, hc, hcell⟩
  · rw [e] at hn; simp at hn; left; rw [show n = 0 by omega]; rfl
  · cases e
    refine .inr ⟨b, off + P, rfl, hc, fun i hi => ?_⟩
    rw [seg_len] at hi
    have := hcell (P + i) (by omega)
    rw [Nat.add_assoc, this]
    simp [seg, List.getElem?_eq_getElem (show P + i < ps.length by omega)]
end Go.Proofs.Ytcgmmpfckmhahaa

/- The points of a BMP, as the specification writes them. -/
namespace Go.Proofs.Ytcgmmpfckmhahaa
open Go.RowKit

set_option maxHeartbeats 400000 in
theorem l1Many_oneB (c : UInt8) (n : Nat) (w : World) (hn : n ≤ 1000) :
    Calls Try.prog 107 #[.string ⟨[c].toArray⟩, .int .i64 (n : Int)] w fun e w' => e = .returned (.string ⟨(List.replicate n c).toArray⟩) ∧ w' = w := by
  have hc1 : (ByteArray.mk [c].toArray).size = 1 := rfl
  obtain ⟨u, hu⟩ : ∃ u, u = ByteArray.mk [c].toArray := ⟨_, rfl⟩
  have HU : Hid (u = ByteArray.mk [c].toArray) := hu
  rw [← hu] at hc1 ⊢
  clear hu
  go_enter Try.func107, Try.ntmps107
  go_wp2_with fail
  go_loop [5, 6] (fun o i => ∃ (k : Nat) (t : ByteArray), k ≤ n ∧ i = .int .i64 k ∧ o = .string t ∧ t.size ≤ 1000 ∧ Hid (t = ⟨(List.replicate k c).toArray⟩)) (fun _ i => n - (intOf i).toNat)
  case atStart => exact ⟨0, ⟨#[]⟩, Nat.zero_le _, rfl, rfl, Nat.zero_le _, rfl⟩
  case round =>
    obtain ⟨k, t, hk, rfl, rfl, ht, HT⟩ := hrel
    by_cases hlt : k < n
    · have HT2 : Hid (t ++ u = ⟨(List.replicate (k + 1) c).toArray⟩) := by show _ = _; rw [HT.out, HU.out, ByteArray.mk_append_mk, List.replicate_succ']
      have HS : Hid ((t ++ u).size ≤ 1000) := by show _ ≤ _; rw [HT2.out]; simp [ByteArray.size]; omega
      go_wp2_with fail
      go_round
      case rel => exact ⟨k + 1, t ++ u, by omega, by go_num, rfl, HS.out, HT2⟩
      case measure => simp [intOf]; omega
    · have hk' : k = n := by omega
      subst hk'
      have HE : Hid (t = ⟨(List.replicate k c).toArray⟩) := HT
      go_wp2_with fail
      go_ret
      refine ⟨?_, rfl⟩
      have h := HE.out
      rw [List.toArray_replicate] at h
      rw [← h]
      rfl

set_option maxHeartbeats 1000000 in
theorem l11Pad_any (n : Nat) (hn : n ≤ 1000000) (w : World) :
    Calls Try.prog 67 #[.int .i64 (n : Int)] w fun e w' => e = .returned (.string ⟨(List.replicate (Bm.fill n) (0 : UInt8)).toArray⟩) ∧ Below w.heap.size w w' := by
  have e1 : (n : Int).tmod 4 = ((n % 4 : Nat) : Int) := by rw [Int.tmod_eq_emod_of_nonneg (by omega)]; omega
  have e1' : (n : Int) % 4 = ((n % 4 : Nat) : Int) := by omega
  obtain ⟨r, hr⟩ : ∃ r, r = n % 4 := ⟨_, rfl⟩
  have hrb : r < 4 := by omega
  obtain ⟨d, hd⟩ : ∃ d, d = 4 - r := ⟨_, rfl⟩
  have e2 : 4 - (r : Int) = (d : Int) := by omega
  obtain ⟨F, hF⟩ : ∃ F, F = Bm.fill n := ⟨_, rfl⟩
  have hFb : F ≤ 3 := by rw [hF]; exact Bm.fill_le n
  have e3' : (d : Int) % 4 = (F : Int) := by rw [hF]; unfold Bm.fill; omega
  have e3 : (d : Int).tmod 4 = (F : Int) := by rw [Int.tmod_eq_emod_of_nonneg (by omega)]; exact e3'
  rw [← hr] at e1 e1'
  rw [← hF]
  have hdb : d ≤ 4 := by omega
  have HC : Hid (∀ w' : World, Calls Try.prog 107 #[.string ⟨#[0]⟩, .int .i64 (F : Int)] w' fun e w'' => e = .returned (.string ⟨(List.replicate F (0 : UInt8)).toArray⟩) ∧ Below w'.heap.size w' w'') := fun w' => (l1Many_oneB 0 F w' (by omega)).mono (fun e w'' h => ⟨h.1, by rw [h.2]; exact Below.refl _ _⟩)
  have hcv : ∀ w : World, Sem.run Try.prog (convert 81 9 (.slice (some ⟨w.heap.size, 0, none⟩) 1 1)) (w.alloc (.cells #[.int .u8 0] 5)) = .ok (.string ⟨#[0]⟩) (w.alloc (.cells #[.int .u8 0] 5)) := fun w => by
    have h := lay_text (b := w.heap.size) (w := w.alloc (.cells #[.int .u8 0] 5)) (ns := [0]) (fun j h => by
      match j, h with
      | 0, _ => simp)
    exact h
  have hc1 := hcv w
  clear hr hd hF hcv
  go_enter Try.func67, Try.ntmps67
  go_wp2_with fail
  refine (HC.out _).mono ?_
  rintro e w1 ⟨rfl, b1⟩
  have bel : Below w.heap.size w w1 := ((Below.refl _ _).alloc (Nat.le_refl _) _).trans (b1.mono (by simp))
  clear b1 HC hc1
  go_wp2_with fail
  go_ret
  exact ⟨rfl, bel⟩

/-- a part of a row of points -/
def Bm.rowN (Wd Hi : Nat) (ps : List Int) (y x : Nat) : List Int := (List.range x).map fun i => flipF Wd Hi ps i y
theorem Bm.rowN_succ (Wd Hi : Nat) (ps : List Int) (y x : Nat) : Bm.rowN Wd Hi ps y (x + 1) = Bm.rowN Wd Hi ps y x ++ [flipF Wd Hi ps x y] := by
  unfold Bm.rowN; rw [List.range_succ, List.map_append]; rfl
theorem Bm.rows_take (Wd Hi : Nat) (ps : List Int) (j : Nat) (h : j < Hi) : (Bm.rows Wd Hi ps).take (j + 1) = (Bm.rows Wd Hi ps).take j ++ [Bm.rowN Wd Hi ps j Wd] := by
  have hl : j < (Bm.rows Wd Hi ps).length := by rw [Bm.rows_len]; exact h
  rw [List.take_succ_eq_append_getElem hl]
  congr 2
  simp only [Bm.rows, rowsF, Bm.rowN, List.getElem_map, List.getElem_range]

set_option linter.unusedSimpArgs false in
set_option maxHeartbeats 4000000 in
set_option maxRecDepth 20000 in
theorem l11Rows_any (k : Int) (D S Wd Hi : Nat) (ca : Option Addr) (cn cc b off : Nat) (pn pc : Nat) (ps : List Int) (w : World) (hp : LiesI w b off ps) (hpn : ps.length = pn) (hW : Wd ≤ 20) (hH : Hi ≤ 20) (hm : pn = Wd * Hi) (hS : S ≤ 4) (hD : D = 8 * S) (hf : Rt.fit S ps = true) :
    Calls Try.prog 35 #[.agg #[.int .i64 k, .int .i64 (D : Int), .int .i64 (Wd : Int), .int .i64 (Hi : Int), .slice ca cn cc, .slice (some ⟨b, off, none⟩) pn pc]] w fun e w' => e = .returned (.string ⟨(Bm.lines S (Bm.rows Wd Hi ps)).toArray⟩) ∧ Below w.heap.size w w' := by
  have hB0 : Below w.heap.size w (w.alloc (.cells #[.int .i64 k, .int .i64 (D : Int), .int .i64 (Wd : Int), .int .i64 (Hi : Int), .slice ca cn cc, .slice (some ⟨b, off, none⟩) pn pc] 27)) := (Below.refl _ _).alloc (Nat.le_refl _) _
  have HS0 : Hid (BxS w (w.alloc (.cells #[.int .i64 k, .int .i64 (D : Int), .int .i64 (Wd : Int), .int .i64 (Hi : Int), .slice ca cn cc, .slice (some ⟨b, off, none⟩) pn pc] 27)) (.int .i64 k) (.int .i64 (D : Int)) (.int .i64 (Wd : Int)) (.int .i64 (Hi : Int)) (.slice ca cn cc) (.slice (some ⟨b, off, none⟩) pn pc)) := ⟨bx_new w _ _ _ _ _ _ 27, hB0⟩
  have hbw : b < w.heap.size := hp.1
  have HP : Hid (LiesI w b off ps) := hp
  have HN : Hid (ps.length = pn ∧ pn = Wd * Hi) := ⟨hpn, hm⟩
  have HF : Hid (Rt.fit S ps = true) := hf
  have hq : (D : Int) / 8 = (S : Int) := by omega
  have hq2 : (D : Int).tdiv 8 = (S : Int) := by rw [Int.tdiv_eq_ediv_of_nonneg (by omega)]; exact hq
  have hDb : D ≤ 32 := by omega
  obtain ⟨a0', a0, a1, a2, a3, a4, a5⟩ := HS0.out.1
  clear hp hpn hm hf hD hB0 a0'
  go_enter Try.func35, Try.ntmps35
  go_wp2_with fail
  clear a0 a1 a2 a3 a4 a5
  go_loopw [3, 4] (fun o i wr => ∃ (j : Nat) (Q : List UInt8), j ≤ Hi ∧ i = .int .i64 ((Hi : Int) - 1 - (j : Int)) ∧ o = .string ⟨Q.toArray⟩ ∧ Hid (Q = Bm.lines S ((Bm.rows Wd Hi ps).take j)) ∧ Q.length ≤ 83 * j ∧ Hid (BxS w wr (.int .i64 k) (.int .i64 (D : Int)) (.int .i64 (Wd : Int)) (.int .i64 (Hi : Int)) (.slice ca cn cc) (.slice (some ⟨b, off, none⟩) pn pc))) (fun _ i _ => ((intOf i) + 1).toNat)
  case atStart => exact ⟨0, [], Nat.zero_le _, by simp, rfl, rfl, by simp, HS0⟩
  case round =>
    obtain ⟨j, Q, hj, rfl, rfl, HQ, hQl, HSW⟩ := hrel
    generalize wr = ow at *
    obtain ⟨⟨_, a0, a1, a2, a3, a4, a5⟩, hBl⟩ := HSW.out
    by_cases hlt : j < Hi
    · obtain ⟨Y, hY⟩ : ∃ Y, Y = Hi - 1 - j := ⟨_, rfl⟩
      have hYi : (Hi : Int) - 1 - (j : Int) = (Y : Int) := by omega
      have hYb : Y < Hi := by omega
      have hge : (0 : Int) ≤ (Y : Int) := by omega
      rw [hYi]
      obtain ⟨P1, hP1⟩ : ∃ P1, P1 = Y * Wd := ⟨_, rfl⟩
      have eP1 : (Y : Int) * (Wd : Int) = (P1 : Int) := by rw [hP1]; simp
      have hPW : P1 + Wd ≤ pn := by
        have h1 : (Y + 1) * Wd ≤ Hi * Wd := Nat.mul_le_mul_right _ (by omega)
        rw [Nat.add_mul, Nat.one_mul, Nat.mul_comm Hi Wd] at h1
        rw [HN.out.2]; omega
      have hpnb : pn ≤ 400 := by rw [HN.out.2]; exact Nat.mul_le_mul hW hH
      have HFL : Hid (∀ x, x < Wd → flipF Wd Hi ps x j = ps.getD (P1 + x) 0) := fun x _ => by unfold flipF; rw [hP1, hY]
      clear a0 a1 a2 a3 a4 a5 hBl hY hP1
      go_wp2_with fail
      go_loopw [5, 6] (fun o i wr => ∃ (x : Nat) (q : List UInt8), x ≤ Wd ∧ i = .int .i64 (x : Int) ∧ o = .string ⟨q.toArray⟩ ∧ Hid (q = Rt.txt S (Bm.rowN Wd Hi ps j x)) ∧ q.length ≤ 4 * x ∧ Hid (BxS w wr (.int .i64 k) (.int .i64 (D : Int)) (.int .i64 (Wd : Int)) (.int .i64 (Hi : Int)) (.slice ca cn cc) (.slice (some ⟨b, off, none⟩) pn pc))) (fun _ i _ => Wd - (intOf i).toNat)
      case atStart => exact ⟨0, [], Nat.zero_le _, rfl, rfl, rfl, by simp, HSW⟩
      case round =>
        obtain ⟨x, q, hx, rfl, rfl, HQX, hql, HSX⟩ := hrel
        obtain ⟨⟨_, a0, a1, a2, a3, a4, a5⟩, hBl⟩ := HSX.out
        by_cases hxl : x < Wd
        · obtain ⟨P, hP⟩ : ∃ P, P = P1 + x := ⟨_, rfl⟩
          have eP : (P1 : Int) + (x : Int) = (P : Int) := by omega
          have hPl : P < ps.length := by rw [HN.out.1]; omega
          have hPn : P < pn := by omega
          obtain ⟨hz0, hz1⟩ := Rt.fit_at HF.out P hPl
          obtain ⟨z, hz⟩ := Int.eq_ofNat_of_zero_le hz0
          have HZ : Hid (w.cell? ⟨b, off + P, none⟩ = some (.int .i64 (z : Int))) := by rw [← hz]; exact HP.out.2 P hPl
          have hzb : z < 256 ^ S := by rw [hz] at hz1; omega
          have h256 : (256 : Nat) ^ S ≤ 256 ^ 4 := Nat.pow_le_pow_right (by omega) hS
          have h2564 : (256 : Nat) ^ 4 = 4294967296 := by decide
          obtain ⟨p, hp⟩ : ∃ p, p = Pt.low z S := ⟨_, rfl⟩
          have HNM : Hid (∀ w' : World, Calls Try.prog 38 #[.int .i64 (z : Int), .int .i64 (S : Int), .bool false] w' fun e w'' => e = .returned (.string ⟨p.toArray⟩) ∧ Below w'.heap.size w' w'') := fun w' => by rw [hp]; exact l1Num_low z S w' (by omega) hS
          have HPL : Hid (p.length ≤ 4) := by show _ ≤ _; rw [hp, Pt.low_len]; exact hS
          have hpl := HPL.out
          have HTX : Hid (Rt.txt S (Bm.rowN Wd Hi ps j (x + 1)) = Rt.txt S (Bm.rowN Wd Hi ps j x) ++ p) := by
            show _ = _
            rw [Bm.rowN_succ, Rt.txt_snoc, HFL.out x hxl, ← hP, List.getD_eq_getElem?_getD, List.getElem?_eq_getElem hPl, hp]
            show _ ++ Pt.low (ps[P]).toNat S = _
            rw [hz]
            rfl
          obtain ⟨q2, hq2'⟩ : ∃ q2, q2 = q ++ p := ⟨_, rfl⟩
          have Hq2 : Hid (q2 = q ++ p) := hq2'
          have wP1 : IntKind.i64.wrap (P1 : Int) = (P1 : Int) := wrap_i64_nat P1 (by omega)
          have wP : IntKind.i64.wrap (P : Int) = (P : Int) := wrap_i64_nat P (by omega)
          have wS : IntKind.i64.wrap (S : Int) = (S : Int) := wrap_i64_nat S (by omega)
          clear hP hz hz0 hz1 h256 h2564 hp hq2' hzb hPl
          go_wp2_with fail
          clear a0 a1 a2 a3 a4 a5 hBl
          refine wp_region_told (S := (fun wz => BxS w wz (.int .i64 k) (.int .i64 (D : Int)) (.int .i64 (Wd : Int)) (.int .i64 (Hi : Int)) (.slice ca cn cc) (.slice (some ⟨b, off, none⟩) pn pc))) 16 44 [.is (.string ⟨q.toArray⟩), .is (.pointer (some ⟨w.heap.size, 5, none⟩)), .is (.slice (some ⟨b, off, none⟩) pn pc), .is (.int .i64 (Y : Int)), .is (.pointer (some ⟨w.heap.size, 2, none⟩)), .is (.int .i64 (Wd : Int)), .is (.int .i64 (P1 : Int)), .is (.int .i64 (x : Int)), .is (.int .i64 (P : Int)), .is (.pointer (some ⟨b, off + P, none⟩)), .is (.int .i64 (z : Int)), .is (.pointer (some ⟨w.heap.size, 1, none⟩)), .is (.int .i64 (D : Int)), .is (.int .i64 (S : Int)), .is (.string ⟨p.toArray⟩), .is (.string ⟨q2.toArray⟩)] (by kernel_rfl) (by kernel_rfl) (by rfl) (fun _ _ _ _ hd h => ⟨hd.trans h.1, h.2⟩) (fun vs => by simp only [puts, List.getElem?_toArray, List.getElem?_cons_succ, List.getElem?_cons_zero, Option.bind_some, Act.put, List.setIfInBounds_toArray, List.set_cons_zero, List.set_cons_succ]; exact rfl) (HSX.out.kept (Below.refl _ _).drew) ?_ ?_
          · refine TellsFrom.cons rfl (fun vs wz hS hd K hK => ?_) ?_
            · try dsimp only at hK ⊢
              try simp only [List.getElem_toArray, List.getElem_cons_succ, List.getElem_cons_zero, Act.put, List.setIfInBounds_toArray, List.set_cons_zero, List.set_cons_succ]
              obtain ⟨⟨_, s0, s1, s2, s3, s4, s5⟩, hBl⟩ := id hS
              have hzc := (hBl.cell (p := ⟨b, off + P, none⟩) hbw).trans HZ.out
              go_simp
              exact hK.out _ _ hS (Below.refl _ _) rfl
            refine TellsFrom.cons rfl (fun vs wz hS hd K hK => ?_) ?_
            · try dsimp only at hK ⊢
              try simp only [List.getElem_toArray, List.getElem_cons_succ, List.getElem_cons_zero, Act.put, List.setIfInBounds_toArray, List.set_cons_zero, List.set_cons_succ]
              obtain ⟨⟨_, s0, s1, s2, s3, s4, s5⟩, hBl⟩ := id hS
              have hzc := (hBl.cell (p := ⟨b, off + P, none⟩) hbw).trans HZ.out
              go_simp
              exact hK.out _ _ hS (Below.refl _ _) rfl
            refine TellsFrom.cons rfl (fun vs wz hS hd K hK => ?_) ?_
            · try dsimp only at hK ⊢
              have h1 : vs 1 = (.pointer (some ⟨w.heap.size, 5, none⟩)) := hd 1 (by kernel_rfl)
              generalize vs 1 = x1 at *
              subst h1
              try simp only [List.getElem_toArray, List.getElem_cons_succ, List.getElem_cons_zero, Act.put, List.setIfInBounds_toArray, List.set_cons_zero, List.set_cons_succ]
              obtain ⟨⟨_, s0, s1, s2, s3, s4, s5⟩, hBl⟩ := id hS
              have hzc := (hBl.cell (p := ⟨b, off + P, none⟩) hbw).trans HZ.out
              go_simp
              exact hK.out _ _ hS (Below.refl _ _) rfl
            refine TellsFrom.cons rfl (fun vs wz hS hd K hK => ?_) ?_
            · try dsimp only at hK ⊢
              try simp only [List.getElem_toArray, List.getElem_cons_succ, List.getElem_cons_zero, Act.put, List.setIfInBounds_toArray, List.set_cons_zero, List.set_cons_succ]
              obtain ⟨⟨_, s0, s1, s2, s3, s4, s5⟩, hBl⟩ := id hS
              have hzc := (hBl.cell (p := ⟨b, off + P, none⟩) hbw).trans HZ.out
              go_simp
              exact hK.out _ _ hS (Below.refl _ _) rfl
            refine TellsFrom.cons rfl (fun vs wz hS hd K hK => ?_) ?_
            · try dsimp only at hK ⊢
              try simp only [List.getElem_toArray, List.getElem_cons_succ, List.getElem_cons_zero, Act.put, List.setIfInBounds_toArray, List.set_cons_zero, List.set_cons_succ]
              obtain ⟨⟨_, s0, s1, s2, s3, s4, s5⟩, hBl⟩ := id hS
              have hzc := (hBl.cell (p := ⟨b, off + P, none⟩) hbw).trans HZ.out
              go_simp
              exact hK.out _ _ hS (Below.refl _ _) rfl
            refine TellsFrom.cons rfl (fun vs wz hS hd K hK => ?_) ?_
            · try dsimp only at hK ⊢
              have h4 : vs 4 = (.pointer (some ⟨w.heap.size, 2, none⟩)) := hd 4 (by kernel_rfl)
              generalize vs 4 = x4 at *
              subst h4
              try simp only [List.getElem_toArray, List.getElem_cons_succ, List.getElem_cons_zero, Act.put, List.setIfInBounds_toArray, List.set_cons_zero, List.set_cons_succ]
              obtain ⟨⟨_, s0, s1, s2, s3, s4, s5⟩, hBl⟩ := id hS
              have hzc := (hBl.cell (p := ⟨b, off + P, none⟩) hbw).trans HZ.out
              go_simp
              exact hK.out _ _ hS (Below.refl _ _) rfl
            refine TellsFrom.cons rfl (fun vs wz hS hd K hK => ?_) ?_
            · try dsimp only at hK ⊢
              have h3 : vs 3 = (.int .i64 (Y : Int)) := hd 3 (by kernel_rfl)
              generalize vs 3 = x3 at *
              subst h3
              have h5 : vs 5 = (.int .i64 (Wd : Int)) := hd 5 (by kernel_rfl)
              generalize vs 5 = x5 at *
              subst h5
              try simp only [List.getElem_toArray, List.getElem_cons_succ, List.getElem_cons_zero, Act.put, List.setIfInBounds_toArray, List.set_cons_zero, List.set_cons_succ]
              obtain ⟨⟨_, s0, s1, s2, s3, s4, s5⟩, hBl⟩ := id hS
              have hzc := (hBl.cell (p := ⟨b, off + P, none⟩) hbw).trans HZ.out
              go_simp
              exact hK.out _ _ hS (Below.refl _ _) rfl
            refine TellsFrom.cons rfl (fun vs wz hS hd K hK => ?_) ?_
            · try dsimp only at hK ⊢
              try simp only [List.getElem_toArray, List.getElem_cons_succ, List.getElem_cons_zero, Act.put, List.setIfInBounds_toArray, List.set_cons_zero, List.set_cons_succ]
              obtain ⟨⟨_, s0, s1, s2, s3, s4, s5⟩, hBl⟩ := id hS
              have hzc := (hBl.cell (p := ⟨b, off + P, none⟩) hbw).trans HZ.out
              go_simp
              exact hK.out _ _ hS (Below.refl _ _) rfl
            refine TellsFrom.cons rfl (fun vs wz hS hd K hK => ?_) ?_
            · try dsimp only at hK ⊢
              have h6 : vs 6 = (.int .i64 (P1 : Int)) := hd 6 (by kernel_rfl)
              generalize vs 6 = x6 at *
              subst h6
              have h7 : vs 7 = (.int .i64 (x : Int)) := hd 7 (by kernel_rfl)
              generalize vs 7 = x7 at *
              subst h7
              try simp only [List.getElem_toArray, List.getElem_cons_succ, List.getElem_cons_zero, Act.put, List.setIfInBounds_toArray, List.set_cons_zero, List.set_cons_succ]
              obtain ⟨⟨_, s0, s1, s2, s3, s4, s5⟩, hBl⟩ := id hS
              have hzc := (hBl.cell (p := ⟨b, off + P, none⟩) hbw).trans HZ.out
              go_simp
              exact hK.out _ _ hS (Below.refl _ _) rfl
            refine TellsFrom.cons rfl (fun vs wz hS hd K hK => ?_) ?_
            · try dsimp only at hK ⊢
              have h2 : vs 2 = (.slice (some ⟨b, off, none⟩) pn pc) := hd 2 (by kernel_rfl)
              generalize vs 2 = x2 at *
              subst h2
              have h8 : vs 8 = (.int .i64 (P : Int)) := hd 8 (by kernel_rfl)
              generalize vs 8 = x8 at *
              subst h8
              try simp only [List.getElem_toArray, List.getElem_cons_succ, List.getElem_cons_zero, Act.put, List.setIfInBounds_toArray, List.set_cons_zero, List.set_cons_succ]
              obtain ⟨⟨_, s0, s1, s2, s3, s4, s5⟩, hBl⟩ := id hS
              have hzc := (hBl.cell (p := ⟨b, off + P, none⟩) hbw).trans HZ.out
              go_simp
              exact hK.out _ _ hS (Below.refl _ _) rfl
            refine TellsFrom.cons rfl (fun vs wz hS hd K hK => ?_) ?_
            · try dsimp only at hK ⊢
              have h9 : vs 9 = (.pointer (some ⟨b, off + P, none⟩)) := hd 9 (by kernel_rfl)
              generalize vs 9 = x9 at *
              subst h9
              try simp only [List.getElem_toArray, List.getElem_cons_succ, List.getElem_cons_zero, Act.put, List.setIfInBounds_toArray, List.set_cons_zero, List.set_cons_succ]
              obtain ⟨⟨_, s0, s1, s2, s3, s4, s5⟩, hBl⟩ := id hS
              have hzc := (hBl.cell (p := ⟨b, off + P, none⟩) hbw).trans HZ.out
              go_simp
              exact hK.out _ _ hS (Below.refl _ _) rfl
            refine TellsFrom.cons rfl (fun vs wz hS hd K hK => ?_) ?_
            · try dsimp only at hK ⊢
              try simp only [List.getElem_toArray, List.getElem_cons_succ, List.getElem_cons_zero, Act.put, List.setIfInBounds_toArray, List.set_cons_zero, List.set_cons_succ]
              obtain ⟨⟨_, s0, s1, s2, s3, s4, s5⟩, hBl⟩ := id hS
              have hzc := (hBl.cell (p := ⟨b, off + P, none⟩) hbw).trans HZ.out
              go_simp
              exact hK.out _ _ hS (Below.refl _ _) rfl
            refine TellsFrom.cons rfl (fun vs wz hS hd K hK => ?_) ?_
            · try dsimp only at hK ⊢
              have h11 : vs 11 = (.pointer (some ⟨w.heap.size, 1, none⟩)) := hd 11 (by kernel_rfl)
              generalize vs 11 = x11 at *
              subst h11
              try simp only [List.getElem_toArray, List.getElem_cons_succ, List.getElem_cons_zero, Act.put, List.setIfInBounds_toArray, List.set_cons_zero, List.set_cons_succ]
              obtain ⟨⟨_, s0, s1, s2, s3, s4, s5⟩, hBl⟩ := id hS
              have hzc := (hBl.cell (p := ⟨b, off + P, none⟩) hbw).trans HZ.out
              go_simp
              exact hK.out _ _ hS (Below.refl _ _) rfl
            refine TellsFrom.cons rfl (fun vs wz hS hd K hK => ?_) ?_
            · try dsimp only at hK ⊢
              have h12 : vs 12 = (.int .i64 (D : Int)) := hd 12 (by kernel_rfl)
              generalize vs 12 = x12 at *
              subst h12
              try simp only [List.getElem_toArray, List.getElem_cons_succ, List.getElem_cons_zero, Act.put, List.setIfInBounds_toArray, List.set_cons_zero, List.set_cons_succ]
              obtain ⟨⟨_, s0, s1, s2, s3, s4, s5⟩, hBl⟩ := id hS
              have hzc := (hBl.cell (p := ⟨b, off + P, none⟩) hbw).trans HZ.out
              go_simp
              exact hK.out _ _ hS (Below.refl _ _) rfl
            refine TellsFrom.cons rfl (fun vs wz hS hd K hK => ?_) ?_
            · try dsimp only at hK ⊢
              have h10 : vs 10 = (.int .i64 (z : Int)) := hd 10 (by kernel_rfl)
              generalize vs 10 = x10 at *
              subst h10
              have h13 : vs 13 = (.int .i64 (S : Int)) := hd 13 (by kernel_rfl)
              generalize vs 13 = x13 at *
              subst h13
              try simp only [List.getElem_toArray, List.getElem_cons_succ, List.getElem_cons_zero, Act.put, List.setIfInBounds_toArray, List.set_cons_zero, List.set_cons_succ]
              go_simp
              refine (HNM.out _).mono ?_
              rintro e v1 ⟨rfl, b1⟩
              exact hK.out _ _ (hS.kept b1) b1 rfl
            refine TellsFrom.cons rfl (fun vs wz hS hd K hK => ?_) ?_
            · try dsimp only at hK ⊢
              have h0 : vs 0 = (.string ⟨q.toArray⟩) := hd 0 (by kernel_rfl)
              generalize vs 0 = x0 at *
              subst h0
              have h14 : vs 14 = (.string ⟨p.toArray⟩) := hd 14 (by kernel_rfl)
              generalize vs 14 = x14 at *
              subst h14
              try simp only [List.getElem_toArray, List.getElem_cons_succ, List.getElem_cons_zero, Act.put, List.setIfInBounds_toArray, List.set_cons_zero, List.set_cons_succ]
              have hlen : ¬ 9223372036854775807 < q.length + p.length := by omega
              go_simp
              exact hK.out _ _ hS (Below.refl _ _) (by first | (show Value.string ⟨(q ++ p).toArray⟩ = .string ⟨q2.toArray⟩; rw [Hq2.out]) | (show Value.string (⟨q.toArray⟩ ++ ⟨p.toArray⟩) = .string ⟨q2.toArray⟩; rw [Hq2.out, ByteArray.mk_append_mk]))
            exact TellsFrom.nil
          · intro vs wz hS hd
            try dsimp only
            have h15 : vs 15 = .string ⟨q2.toArray⟩ := hd 15 (by omega)
            clear hd
            generalize vs 0 = y0 at *
            generalize vs 1 = y1 at *
            generalize vs 2 = y2 at *
            generalize vs 3 = y3 at *
            generalize vs 4 = y4 at *
            generalize vs 5 = y5 at *
            generalize vs 6 = y6 at *
            generalize vs 7 = y7 at *
            generalize vs 8 = y8 at *
            generalize vs 9 = y9 at *
            generalize vs 10 = y10 at *
            generalize vs 11 = y11 at *
            generalize vs 12 = y12 at *
            generalize vs 13 = y13 at *
            generalize vs 14 = y14 at *
            generalize vs 15 = y15 at *
            subst h15
            refine wpAnyH_take (i := 16) (v := .string ⟨q2.toArray⟩) rfl (by kernel_rfl) (by kernel_rfl) (by kernel_rfl) (fun _ _ _ h => h) (Or.inl ⟨by rfl, ?_⟩) trivial ?_
            · intro wy _
              go_simp
            refine wpAnyH_done (by kernel_rfl) ?_ _
            try simp only [List.getElem_toArray, List.getElem_cons_succ, List.getElem_cons_zero, Act.put, List.setIfInBounds_toArray, List.set_cons_zero, List.set_cons_succ]
            have HS2 : Hid (BxS w wz (.int .i64 k) (.int .i64 (D : Int)) (.int .i64 (Wd : Int)) (.int .i64 (Hi : Int)) (.slice ca cn cc) (.slice (some ⟨b, off, none⟩) pn pc)) := hS
            clear hS
            go_wp2_with fail
            go_roundw
            case rel => exact ⟨x + 1, q2, by omega, by go_num, rfl, by show _ = _; rw [Hq2.out, HQX.out, HTX.out], by rw [Hq2.out, List.length_append]; have := HPL.out; omega, HS2⟩
            case measure => simp [intOf]; omega
        · have hxe : Wd = x := by omega
          subst hxe
          obtain ⟨F, hF⟩ : ∃ F, F = List.replicate (Bm.fill q.length) (0 : UInt8) := ⟨_, rfl⟩
          have hlq : q.length ≤ 80 := by omega
          have HPD : Hid (∀ w' : World, Calls Try.prog 67 #[.int .i64 (q.length : Int)] w' fun e w'' => e = .returned (.string ⟨F.toArray⟩) ∧ Below w'.heap.size w' w'') := fun w' => by rw [hF]; exact l11Pad_any _ (by omega) w'
          have hFl : F.length ≤ 3 := by rw [hF, List.length_replicate]; exact Bm.fill_le _
          have HLN : Hid (Bm.lines S ((Bm.rows Wd Hi ps).take (j + 1)) = Q ++ q ++ F) := by
            show _ = _
            rw [Bm.rows_take Wd Hi ps j hlt, Bm.lines_snoc, ← HQ.out, List.append_assoc]
            unfold Bm.line
            rw [← HQX.out, hF, HQX.out, Rt.txt_len]
          have hs1 : (ByteArray.mk Q.toArray ++ ByteArray.mk q.toArray) = ByteArray.mk (Q ++ q).toArray := ByteArray.mk_append_mk _ _
          have hs2 : (ByteArray.mk (Q ++ q).toArray ++ ByteArray.mk F.toArray) = ByteArray.mk (Q ++ q ++ F).toArray := ByteArray.mk_append_mk _ _
          obtain ⟨R, hR⟩ : ∃ R, R = Q ++ q ++ F := ⟨_, rfl⟩
          have HR : Hid (ByteArray.mk Q.toArray ++ ByteArray.mk q.toArray ++ ByteArray.mk F.toArray = ByteArray.mk R.toArray) := by show _ = _; rw [hs1, hs2, hR]
          have hRl : R.length ≤ 83 * (j + 1) := by rw [hR, List.length_append, List.length_append]; omega
          have HLR : Hid (R = Bm.lines S ((Bm.rows Wd Hi ps).take (j + 1))) := by show _ = _; rw [HLN.out, hR]
          have hl1 : ¬ 9223372036854775807 < Q.length + q.length := by omega
          clear hs1 hs2 hR hF HLN HQX
          go_wp2_with fail
          refine (HPD.out _).mono ?_
          rintro e w1 ⟨rfl, b1⟩
          have HS1 : Hid (BxS w w1 (.int .i64 k) (.int .i64 (D : Int)) (.int .i64 (Wd : Int)) (.int .i64 (Hi : Int)) (.slice ca cn cc) (.slice (some ⟨b, off, none⟩) pn pc)) := HSX.out.kept b1
          clear b1 HPD a0 a1 a2 a3 a4 a5 hBl
          have hl2 : ¬ 9223372036854775807 < Q.length + q.length + F.length := by omega
          go_wp2_with fail
          exact ⟨⟨j + 1, R, by omega, by go_num, by rw [← HR.out], HLR, hRl, HS1⟩, by simp [intOf] <;> omega⟩
    · obtain rfl : j = Hi := by omega
      have HE : Hid (Q = Bm.lines S (Bm.rows Wd j ps)) := by
        show _ = _
        rw [HQ.out, List.take_of_length_le (by rw [Bm.rows_len]; exact Nat.le_refl _)]
      have hneg : ¬ (0 : Int) ≤ (j : Int) - 1 - (j : Int) := by omega
      clear HQ
      go_wp2_with fail
      go_ret
      exact ⟨by rw [← HE.out]; rfl, hBl⟩
end Go.Proofs.Ytcgmmpfckmhahaa

/- The rows of a view, collected. -/
namespace Go.Proofs.Ytcgmmpfckmhahaa
open Go.RowKit Go.Shelf

attribute [local go_sem] Oper.semAt_some

theorem info_rows : (Try.prog.info? 22).map (fun i => (i.zero, i.size, i.bytes)) = some (some (.slice none 0 0), 1, 24) := by kernel_rfl
def rowsV (wd : Nat) (xs : List (Nat × List Int)) : List Value := xs.map fun x => .slice (some ⟨x.1, 0, none⟩) wd wd
/-- the rows so far, in a box -/
def RcI (w : World) (wd : Nat) (pre : List (Nat × List Int)) (W : World) : Prop :=
  (∃ v, Boxed W w.heap.size 67 v ∧ W.ownsRow w.heap.size 22 1 v pre.length (rowsV wd pre) ∧ (v = .slice none 0 0 ↔ pre = [])) ∧ (∀ x ∈ pre, RowAt W x.1 x.2 ∧ x.2.length = wd) ∧ Below w.heap.size w W
theorem rowAt_grown {W W' : World} {row : Option Nat} {b : Nat} {l : List Int} (h : RowAt W b l) (hg : W.grownBy W' row) (hr : ∀ r, row = some r → ∃ o : Obj, W.heap[r]? = some o ∧ o.isCells = false) : RowAt W' b l := by
  refine h.kept (hg.block b h.lt (fun e => ?_))
  obtain ⟨o, ho, hc⟩ := hr b e.symm
  rw [show W.heap[b]? = _ from h] at ho
  cases ho
  cases hc
theorem rcI_own (w : World) (wd B : Nat) (hB : w.heap.size + 1 ≤ B) : OwnFrom B (RcI w wd) := by
  rintro pre X Y row ⟨⟨v, hv, ho, hn⟩, hr, hb⟩ hg hrow
  refine ⟨⟨v, hv.kept hg (fun e => by have := (hrow _ e.symm).1; omega), World.ownsRow.kept ho hg ?_, hn⟩, fun x hx => ⟨rowAt_grown (hr x hx).1 hg (fun r e => (hrow r e).2), (hr x hx).2⟩, hb.grown hg hb.size (fun r e => by have := (hrow r e).1; omega)⟩
  cases hv' : v.ownBlock with
  | none => exact .inl rfl
  | some j =>
    refine .inr (fun e => ?_)
    obtain ⟨_, o, ho', hcells⟩ := hrow j e.symm
    rcases ho.2 with ⟨rfl, _⟩ | ⟨g, cap, cur, rfl, _, hgb, _⟩
    · simp [Value.ownBlock] at hv'
    · obtain rfl : g = j := by simpa [Value.ownBlock] using hv'
      rw [hgb] at ho'; cases ho'; cases hcells
theorem rows2_of {W : World} {base n wd : Nat} {v : Value} {xs : List (Nat × List Int)} (h : W.ownsRow base 22 1 v n (rowsV wd xs)) (hr : ∀ x ∈ xs, RowAt W x.1 x.2 ∧ x.2.length = wd) (hn : xs.length = n) : ∃ a cap, v = .slice a n cap ∧ Rows2 W a (xs.map (·.2)) := by
  have hh := h
  rcases h.2 with ⟨rfl, h0⟩ | ⟨g, cap, cur, rfl, hg, hgb, hnc, _⟩
  · have : xs = [] := List.eq_nil_of_length_eq_zero (by omega)
    subst this
    exact ⟨none, 0, by rw [h0], .inl rfl⟩
  · refine ⟨some ⟨g, 0, none⟩, cap, rfl, .inr ⟨g, 0, rfl, (Array.getElem?_eq_some_iff.1 hgb).1, fun i hi => ?_⟩⟩
    rw [List.length_map] at hi
    have hx := hr xs[i] (List.getElem_mem hi)
    have hc := World.ownsRow.cells hh (g := g) rfl i (.slice (some ⟨(xs[i]).1, 0, none⟩) wd wd) (by simp [rowsV, hi])
    refine ⟨some ⟨(xs[i]).1, 0, none⟩, wd, ?_, ?_, ?_⟩
    · rw [List.getElem_map, hx.2, Nat.zero_add]
      have e : (Addr.mk g 0 none).add i = ⟨g, i, none⟩ := by unfold Addr.add; split <;> simp_all
      rw [e] at hc
      exact hc
    · rw [List.getElem_map]
      exact .inr ⟨_, 0, rfl, hx.1.lt, fun j hj => by rw [Nat.zero_add]; exact hx.1.cell j hj⟩
    · rw [List.getElem_map, hx.2]; exact Nat.le_refl _

set_option maxRecDepth 100000 in
set_option maxHeartbeats 4000000 in
theorem appendRows_in (T : TypeId) (V : Value) (fs : Nat) (rs : Value) (fa : Nat) (ra : Value) (wd hi : Nat) (f : Nat → Nat → Int) (hwd : wd ≤ 20) (hhi : hi ≤ 20) (w0 : World) (S : Seen T V fs rs fa ra wd hi f w0.heap.size w0) :
    CallsIn Fence.wide 2 Try.prog 77 #[.slice none 0 0, .func (.func 74) #[] #[.pointer (some ⟨w0.heap.size, 0, none⟩)]] (w0.alloc (.cells #[.iface T V] 77)) fun e W' => (∃ a cap, e = .returned (.slice a hi cap) ∧ Rows2 W' a (rowsF wd hi f)) ∧ Below w0.heap.size w0 W' := by
  have hro : Fence.wide.round = none := rfl
  have hseq := rows1_brings 1 (Nat.le_refl _) T V fs rs fa ra wd hi f hwd hhi w0 S
  have hbw : Below w0.heap.size w0 (w0.alloc (.cells #[.iface T V] 77)) := (Below.refl _ _).alloc (Nat.le_refl _) _
  have hsw : (w0.alloc (.cells #[.iface T V] 77)).heap.size = w0.heap.size + 1 := by simp
  generalize w0.alloc (.cells #[.iface T V] 77) = w at *
  rw [← hsw] at hseq
  have hle : w0.heap.size ≤ w.heap.size := by omega
  clear hsw S
  obtain ⟨i0, hi0, hz0, hz1, hz2⟩ := info_parts info_rows
  refine callsIn_of_wp_marks Try.func77 rfl trivial ?_ hro
  simp only [Try.ntmps77, List.size_toArray, List.length_cons, List.length_nil, Nat.reduceAdd, Nat.reduceSub, Array.replicate_succ, Array.replicate_zero, List.push_toArray, List.append_toArray, List.nil_append, List.cons_append]
  gi_wp2
  have bO := Boxed.new w 67 (.slice none 0 0)
  have hB0 : Below w.heap.size w (w.alloc (.cells #[.slice none 0 0] 67)) := (Below.refl _ w).alloc (Nat.le_refl _) _
  refine rangeMem (n := 2) (by omega) (gf := 74) (lb := #[.pointer (some ⟨w0.heap.size, 0, none⟩)]) rfl (enters_of Try.func74 (by kernel_rfl) rfl) hseq hB0 (by simp) (fun _ => rfl) ?_
    (RcI w wd) (rcI_own w wd _ (by simp)) ⟨⟨_, bO, World.ownsRow_nil _ _ _ _, by simp⟩, fun x hx => by simp at hx, hB0⟩
    (fun x => { tmps := #[.slice none 0 0, .func (.func 74) #[] #[.pointer (some ⟨w0.heap.size, 0, none⟩)], .pointer (some ⟨w.heap.size, 0, none⟩), undef, .slice none 0 0, .slice (some ⟨x.1, 0, none⟩) wd wd, .func (.func 74) #[] #[.pointer (some ⟨w0.heap.size, 0, none⟩)], .slice (some ⟨x.1, 0, none⟩) wd wd, undef, undef, undef, undef, undef], defers := [] }) ?assign ?body ?done
  · rintro x W l o o' ⟨⟨h1, h2, h3⟩, h4⟩ ho hoc
    exact ⟨⟨rowAt_grown h1 (grownBy_putObj' W l o') (fun r e => by cases e; exact ⟨o, ho, hoc⟩), h2, h3⟩, h4⟩
  case assign =>
    intro l x W K hK
    dsimp only [rowV] at hK ⊢
    gi_wp2
    exact hK
  case body =>
    rintro l pre ⟨b, row⟩ W ⟨⟨v, hv, ho, hnil⟩, hrs, hB⟩ ⟨⟨hrow, hrl, hb0⟩, _⟩ hsW hlen
    dsimp only at hrow hrl hb0 ⊢
    have hbc := hv.cell
    have hWs : w.heap.size ≤ W.heap.size := hB.size
    have hone : ∀ u ∈ [Value.slice (some ⟨b, 0, none⟩) wd wd], u.oneCell' = true := by intro u hu; simp at hu; subst hu; rfl
    have h63 : pre.length + 1 ≤ maxLen := by unfold maxLen; omega
    gi_wp2_with (gi_at_builtin; refine wpListIn_append_own _ rfl _ _ 67 rfl w.heap.size 22 i0 (.slice none 0 0) 1 24 Try.underlying67 hi0 hz0 hz1 hz2 rfl (by decide) _ _ _ rfl (World.ownsRow.alloc ho _) ⟨W.heap.size, 0, none⟩ 1 1 [.slice (some ⟨b, 0, none⟩) wd wd] rfl rfl (cell_one_new _ _ _) hone h63 (by omega) (by simp; omega) ?_; intro v' wB hown' hgrow hnil'; obtain ⟨g', cap', rfl⟩ := ownsRow_succ hown'; have hvA := (hv.alloc (.cells #[.slice (some ⟨b, 0, none⟩) wd wd] 22)).kept hgrow (hv.not_row (by decide) ho); have hcA := hvA.cell; have hfA := hvA.frozen)
    obtain ⟨_, hv2, hr2, hk2, hb2⟩ := hv.appended (by decide) ho hWs (Nat.le_refl _) hown' hgrow
    obtain ⟨W', hW'⟩ : ∃ W', W' = wB.setCell ⟨w.heap.size, 0, none⟩ (.slice (some ⟨g', 0, none⟩) (pre.length + 1) cap') := ⟨_, rfl⟩
    have hoth : ∀ k, k < W.heap.size → k ≠ w.heap.size → some k ≠ v.ownBlock → W'.heap[k]? = W.heap[k]? := fun k h1 h2 h3 => by
      rw [hW']
      exact ((Below.heap_setCell wB ⟨w.heap.size, 0, none⟩ _ k h2).trans (hgrow.block k (by simp; omega) h3)).trans (Below.heap_alloc _ _ _ h1)
    have hrk : ∀ (c : Nat) (r : List Int), RowAt W c r → RowAt W' c r := fun c r h => by
      refine h.kept (hoth c h.lt (fun e => ?_) (fun e => ?_))
      · rw [e] at h
        have := (show W.heap[w.heap.size]? = _ from h).symm.trans hv
        simp only [Option.some.injEq, Obj.cells.injEq] at this
        exact absurd this.2.1 (by decide)
      · rcases ho.2 with ⟨rfl, _⟩ | ⟨g, cap, cur, rfl, _, hgb, _⟩
        · simp [Value.ownBlock] at e
        · obtain rfl : g = c := by simpa [Value.ownBlock] using e.symm
          have := (show W.heap[g]? = _ from h).symm.trans hgb
          simp only [Option.some.injEq, Obj.cells.injEq] at this
          exact absurd this.2.1 (by decide)
    rw [← hW'] at hv2 hr2 hk2 hb2 ⊢
    refine ⟨hk2.from _, hb2, ⟨⟨_, hv2, ?_, by simp⟩, fun x hx => ?_, hB.trans hb2⟩⟩
    · rw [List.length_append]
      unfold rowsV at hr2 ⊢
      rw [List.map_append]
      exact hr2
    · rcases List.mem_append.1 hx with hx | hx
      · exact ⟨hrk _ _ (hrs x hx).1, (hrs x hx).2⟩
      · obtain rfl := List.mem_singleton.1 hx
        exact ⟨hrk _ _ hrow, hrl⟩
  case done =>
    rintro D xs W hD hxs ⟨⟨v, hv, ho, hnil⟩, hrs, hB⟩ hK
    have hbc := hv.cell
    have hl : xs.length = hi := by
      have := congrArg List.length hxs
      rw [List.length_map, rowsF_len] at this
      exact this
    gi_wp2
    refine ⟨by simp, .inl ⟨_, _, rfl, run_takeDeferred hK, ?_⟩⟩
    have ho2 := ownsRow_putObj ho (.deferred none) hK rfl
    rw [hl] at ho2
    obtain ⟨a, cap, rfl, h2⟩ := rows2_of ho2 (fun x hx => ⟨rowAt_grown (hrs x hx).1 (grownBy_putObj' W D (.deferred none)) (fun r e => by cases e; exact ⟨_, hK, rfl⟩), (hrs x hx).2⟩) hl
    rw [hxs] at h2
    exact ⟨_, results_tmp rfl _ _ _, ⟨a, cap, rfl, h2⟩, hbw.trans ((hB.trans (belowK_b (w := w) (Nat.le_refl _) W D _ _ (by simp at hD; omega) hK rfl rfl)).mono hle)⟩

set_option maxHeartbeats 1000000 in
theorem collectRows (T : TypeId) (V : Value) (fs : Nat) (rs : Value) (fa : Nat) (ra : Value) (wd hi : Nat) (f : Nat → Nat → Int) (hwd : wd ≤ 20) (hhi : hi ≤ 20) (w : World) (S : Seen T V fs rs fa ra wd hi f w.heap.size w) :
    Calls Try.prog 44 #[.func (.func 74) #[] #[.pointer (some ⟨w.heap.size, 0, none⟩)]] (w.alloc (.cells #[.iface T V] 77)) fun e W' => (∃ a cap, e = .returned (.slice a hi cap) ∧ Rows2 W' a (rowsF wd hi f)) ∧ Below w.heap.size w W' := by
  have HA : Hid (Calls Try.prog 77 #[.slice none 0 0, .func (.func 74) #[] #[.pointer (some ⟨w.heap.size, 0, none⟩)]] (w.alloc (.cells #[.iface T V] 77)) fun e W' => (∃ a cap, e = .returned (.slice a hi cap) ∧ Rows2 W' a (rowsF wd hi f)) ∧ Below w.heap.size w W') := callsIn_wide.1 (appendRows_in T V fs rs fa ra wd hi f hwd hhi w S)
  clear S
  generalize w.alloc (.cells #[.iface T V] 77) = w1 at *
  go_enter Try.func44, Try.ntmps44
  go_wp2_with fail
  refine HA.out.mono ?_
  rintro e w' ⟨⟨a, cap, rfl, h2⟩, hb⟩
  go_wp2_with fail
  go_ret
  exact ⟨⟨a, cap, rfl, h2⟩, hb⟩
end Go.Proofs.Ytcgmmpfckmhahaa

/- The rows of a picture from below, as the specification has them. -/
namespace Go.Proofs.Ytcgmmpfckmhahaa
open Go.RowKit

def Bm.cuts (b off Wd Hi pc j : Nat) : List Value := (List.range j).map fun t => .slice (some ⟨b, off + (Hi - 1 - t) * Wd, none⟩) Wd (pc - (Hi - 1 - t) * Wd)
theorem Bm.cuts_succ (b off Wd Hi pc j : Nat) : Bm.cuts b off Wd Hi pc (j + 1) = Bm.cuts b off Wd Hi pc j ++ [.slice (some ⟨b, off + (Hi - 1 - j) * Wd, none⟩) Wd (pc - (Hi - 1 - j) * Wd)] := by
  unfold Bm.cuts; rw [List.range_succ, List.map_append]; rfl
theorem Bm.cuts_rows {W w : World} {base n b off Wd Hi pn pc : Nat} {v : Value} {ps : List Int} (h : W.ownsRow base 22 1 v n (Bm.cuts b off Wd Hi pc Hi)) (hp : LiesI w b off ps) (hb : Below w.heap.size w W) (hn : n = Hi) (hpn : ps.length = pn) (hm : pn = Wd * Hi) (hpc : pn ≤ pc) : ∃ a cap, v = .slice a Hi cap ∧ Rows2 W a (Bm.rows Wd Hi ps) := by
  subst hn
  have hh := h
  rcases h.2 with ⟨rfl, h0⟩ | ⟨g, cap, cur, rfl, hg, hgb, hnc, _⟩
  · exact ⟨none, 0, by rw [h0], .inl (List.eq_nil_of_length_eq_zero (by rw [Bm.rows_len]; exact h0))⟩
  · refine ⟨some ⟨g, 0, none⟩, cap, rfl, .inr ⟨g, 0, rfl, (Array.getElem?_eq_some_iff.1 hgb).1, fun i hi => ?_⟩⟩
    have hi' : i < n := by rw [Bm.rows_len] at hi; exact hi
    have hrl : ((Bm.rows Wd n ps)[i]).length = Wd := Bm.rows_each (List.getElem_mem hi)
    have hc := World.ownsRow.cells hh (g := g) rfl i (.slice (some ⟨b, off + (n - 1 - i) * Wd, none⟩) Wd (pc - (n - 1 - i) * Wd)) (by simp [Bm.cuts, hi'])
    have h1 : (n - 1 - i + 1) * Wd ≤ n * Wd := Nat.mul_le_mul_right _ (by omega)
    rw [Nat.add_mul, Nat.one_mul, Nat.mul_comm n Wd] at h1
    refine ⟨some ⟨b, off + (n - 1 - i) * Wd, none⟩, pc - (n - 1 - i) * Wd, ?_, ?_, ?_⟩
    · rw [hrl, Nat.zero_add]
      have e : (Addr.mk g 0 none).add i = ⟨g, i, none⟩ := by unfold Addr.add; split <;> simp_all
      rw [e] at hc
      exact hc
    · refine .inr ⟨b, _, rfl, Nat.lt_of_lt_of_le hp.1 hb.size, fun x hx => ?_⟩
      rw [hrl] at hx
      have hP : (n - 1 - i) * Wd + x < ps.length := by omega
      rw [hb.cell (p := ⟨b, off + (n - 1 - i) * Wd + x, none⟩) hp.1, Nat.add_assoc, hp.2 _ hP]
      simp only [Bm.rows, rowsF, flipF, List.getElem_map, List.getElem_range]
      rw [List.getD_eq_getElem?_getD, List.getElem?_eq_getElem hP]
      rfl
    · rw [hrl]; omega

theorem own_none_rows (w : World) : (w.alloc (.cells #[] 22)).ownsRow w.heap.size 22 1 (.slice (some ⟨w.heap.size, 0, none⟩) 0 0) 0 [] :=
  ⟨rfl, .inr ⟨w.heap.size, 0, #[], rfl, Nat.le_refl _, heap_alloc_new _ _, Nat.le_refl _, by unfold maxLen; omega, rfl, rfl⟩⟩
/-- a row more -/
theorem wpList_appR {ops : Array Oper} {rest : List Oper} {o : Oper} {a : Act} {Q : Exit → Act → World → Prop} (w0 : World) (hgd : o.guard = none) (s x : Operand)
    (ho : o.op = .call { callee := .builtin .append, args := #[s, x], argTypes := #[67, 67] })
    (base : Nat) (v : Value) (n : Nat) (l : List Value) (u : Value) (hu : u.oneCell' = true) (hs : a.eval s = v) (hown : w0.ownsRow base 22 1 v n l) (hx : a.eval x = .slice (some ⟨w0.heap.size, 0, none⟩) 1 1) (hn : n ≤ 2000000) (hb : base ≤ w0.heap.size)
    (h : ∀ g cap w', w'.ownsRow base 22 1 (.slice (some ⟨g, 0, none⟩) (n + 1) cap) (n + 1) (l ++ [u]) → Below base w0 w' → wpList Try.prog ops Q rest (a.put o.dst (.slice (some ⟨g, 0, none⟩) (n + 1) cap)) w') :
    wpList Try.prog ops Q (o :: rest) a (w0.alloc (.cells #[u] 22)) := by
  obtain ⟨i0, hi0, hz0, hz1, hz2⟩ := info_parts info_rows
  refine wpList_append_lies _ hgd s x _ ho base 22 i0 (.slice none 0 0) 1 24 Try.underlying67 hi0 hz0 hz1 hz2 rfl (by decide) v n l hs (World.ownsRow.alloc hown _) ⟨w0.heap.size, 0, none⟩ 1 1 [u] hx rfl (World.news_of_block (heap_alloc_new _ _)) (fun y hy => by simp at hy; subst hy; exact hu) (by decide) (by unfold maxLen; omega) (by omega) (by rw [World.size_alloc]; omega) _ rfl ?_
  intro g cap w' hown' hg _ _
  exact h g cap w' hown' (((Below.refl base w0).alloc hb _).grown hg (by rw [World.size_alloc]; omega) (fun k hk => (World.ownsRow.lt hown k hk).1))
theorem bx_low {W W' : World} {B : Nat} {v0 v1 v2 v3 v4 v5 : Value} (h : Bx W B v0 v1 v2 v3 v4 v5) (b : Below (B + 1) W W') : Bx W' B v0 v1 v2 v3 v4 v5 := by
  obtain ⟨h0, a0, a1, a2, a3, a4, a5⟩ := h
  exact ⟨Nat.lt_of_lt_of_le h0 b.size, (b.cell (p := ⟨B, 0, none⟩) (Nat.lt_succ_self _)).trans a0, (b.cell (p := ⟨B, 1, none⟩) (Nat.lt_succ_self _)).trans a1, (b.cell (p := ⟨B, 2, none⟩) (Nat.lt_succ_self _)).trans a2, (b.cell (p := ⟨B, 3, none⟩) (Nat.lt_succ_self _)).trans a3, (b.cell (p := ⟨B, 4, none⟩) (Nat.lt_succ_self _)).trans a4, (b.cell (p := ⟨B, 5, none⟩) (Nat.lt_succ_self _)).trans a5⟩

set_option maxHeartbeats 2000000 in
set_option maxRecDepth 20000 in
theorem l11Below_any (k : Int) (D Wd Hi : Nat) (ca : Option Addr) (cn cc b off : Nat) (pn pc : Nat) (ps : List Int) (w : World) (hp : LiesI w b off ps) (hpn : ps.length = pn) (hW : Wd ≤ 20) (hH : Hi ≤ 20) (hm : pn = Wd * Hi) (hpc : pn ≤ pc) (hpl : pc ≤ 2000000) (hWd1 : 1 ≤ Wd) :
    Calls Try.prog 37 #[.agg #[.int .i64 k, .int .i64 (D : Int), .int .i64 (Wd : Int), .int .i64 (Hi : Int), .slice ca cn cc, .slice (some ⟨b, off, none⟩) pn pc]] w fun e w' => (∃ a cap, e = .returned (.slice a Hi cap) ∧ Rows2 w' a (Bm.rows Wd Hi ps)) ∧ Below w.heap.size w w' := by
  have hB0 : Below w.heap.size w (w.alloc (.cells #[.int .i64 k, .int .i64 (D : Int), .int .i64 (Wd : Int), .int .i64 (Hi : Int), .slice ca cn cc, .slice (some ⟨b, off, none⟩) pn pc] 27)) := (Below.refl _ _).alloc (Nat.le_refl _) _
  have HS0 : Hid (BxS w (w.alloc (.cells #[.int .i64 k, .int .i64 (D : Int), .int .i64 (Wd : Int), .int .i64 (Hi : Int), .slice ca cn cc, .slice (some ⟨b, off, none⟩) pn pc] 27)) (.int .i64 k) (.int .i64 (D : Int)) (.int .i64 (Wd : Int)) (.int .i64 (Hi : Int)) (.slice ca cn cc) (.slice (some ⟨b, off, none⟩) pn pc)) := ⟨bx_new w _ _ _ _ _ _ 27, hB0⟩
  have HP : Hid (LiesI w b off ps) := hp
  have HN : Hid (ps.length = pn ∧ pn = Wd * Hi) := ⟨hpn, hm⟩
  obtain ⟨a0', a0, a1, a2, a3, a4, a5⟩ := HS0.out.1
  have HO0 : Hid (((w.alloc (.cells #[.int .i64 k, .int .i64 (D : Int), .int .i64 (Wd : Int), .int .i64 (Hi : Int), .slice ca cn cc, .slice (some ⟨b, off, none⟩) pn pc] 27)).alloc (.cells #[] 22)).ownsRow (w.heap.size + 1) 22 1 (.slice (some ⟨w.heap.size + 1, 0, none⟩) 0 0) 0 (Bm.cuts b off Wd Hi pc 0) ∧ BxS w ((w.alloc (.cells #[.int .i64 k, .int .i64 (D : Int), .int .i64 (Wd : Int), .int .i64 (Hi : Int), .slice ca cn cc, .slice (some ⟨b, off, none⟩) pn pc] 27)).alloc (.cells #[] 22)) (.int .i64 k) (.int .i64 (D : Int)) (.int .i64 (Wd : Int)) (.int .i64 (Hi : Int)) (.slice ca cn cc) (.slice (some ⟨b, off, none⟩) pn pc)) := by
    refine ⟨?_, HS0.out.kept ((Below.refl _ _).alloc (Nat.le_refl _) _)⟩
    have h := own_none_rows (w.alloc (.cells #[.int .i64 k, .int .i64 (D : Int), .int .i64 (Wd : Int), .int .i64 (Hi : Int), .slice ca cn cc, .slice (some ⟨b, off, none⟩) pn pc] 27))
    rw [World.size_alloc] at h
    exact h
  have hpnb : pn ≤ 400 := by rw [hm]; exact Nat.mul_le_mul hW hH
  clear hp hpn hm hB0 a0' HS0
  go_enter Try.func37, Try.ntmps37
  go_wp2_with fail
  clear a0 a1 a2 a3 a4 a5
  go_loopw [3, 4] (fun o i wr => ∃ (j : Nat) (ao : Option Addr) (cap : Nat), j ≤ Hi ∧ i = .int .i64 ((Hi : Int) - 1 - (j : Int)) ∧ o = .slice ao j cap ∧ Hid (wr.ownsRow (w.heap.size + 1) 22 1 (.slice ao j cap) j (Bm.cuts b off Wd Hi pc j) ∧ BxS w wr (.int .i64 k) (.int .i64 (D : Int)) (.int .i64 (Wd : Int)) (.int .i64 (Hi : Int)) (.slice ca cn cc) (.slice (some ⟨b, off, none⟩) pn pc))) (fun _ i _ => ((intOf i) + 1).toNat)
  case atStart => exact ⟨0, _, _, Nat.zero_le _, by simp, rfl, HO0⟩
  case round =>
    obtain ⟨j, ao, cap, hj, rfl, rfl, HR⟩ := hrel
    obtain ⟨⟨hsz, a0, a1, a2, a3, a4, a5⟩, hBl⟩ := HR.out.2
    by_cases hlt : j < Hi
    · obtain ⟨Y, hY⟩ : ∃ Y, Y = Hi - 1 - j := ⟨_, rfl⟩
      have hYi : (Hi : Int) - 1 - (j : Int) = (Y : Int) := by omega
      have hge : (0 : Int) ≤ (Y : Int) := by omega
      obtain ⟨Y1, hY1⟩ : ∃ Y1, Y1 = Y + 1 := ⟨_, rfl⟩
      have eY1 : (Y : Int) + 1 = (Y1 : Int) := by omega
      obtain ⟨P1, hP1⟩ : ∃ P1, P1 = Y * Wd := ⟨_, rfl⟩
      have eP1 : (Y : Int) * (Wd : Int) = (P1 : Int) := by rw [hP1]; simp
      obtain ⟨P2, hP2⟩ : ∃ P2, P2 = P1 + Wd := ⟨_, rfl⟩
      have eP2 : (Y1 : Int) * (Wd : Int) = (P2 : Int) := by rw [hP2, hP1, hY1]; simp [Int.add_mul]
      have hPW : P2 ≤ pn := by
        have h1 : (Y + 1) * Wd ≤ Hi * Wd := Nat.mul_le_mul_right _ (by omega)
        rw [Nat.add_mul, Nat.one_mul, Nat.mul_comm Hi Wd] at h1
        rw [HN.out.2]; omega
      have hPP : P1 ≤ P2 := by omega
      have hPc : P2 ≤ pc := by omega
      have hne1 : ¬ pc = P1 := by omega
      have hne2 : ¬ P1 = pc := by omega
      have hne3 : P1 < pc := by omega
      have hsub : P2 - P1 = Wd := by omega
      have hsubI : (P2 : Int) - (P1 : Int) = (Wd : Int) := by omega
      have hcap : (pc : Int) - (P1 : Int) = ((pc - P1 : Nat) : Int) := by omega
      have HCU : Hid (Bm.cuts b off Wd Hi pc (j + 1) = Bm.cuts b off Wd Hi pc j ++ [.slice (some ⟨b, off + P1, none⟩) Wd (pc - P1)]) := by
        show _ = _
        rw [Bm.cuts_succ, ← hY, ← hP1]
      have HRO := HR.out.1
      have hbs : w.heap.size + 1 ≤ wr.heap.size := hsz
      have hjb : j ≤ 2000000 := by omega
      rw [hYi]
      clear hY hP1 hP2 hY1
      go_wp2_with (at_builtin; refine wpList_appR wr (by rfl) _ _ (by rfl) (w.heap.size + 1) _ j _ (.slice (some ⟨b, off + P1, none⟩) Wd (pc - P1)) (by rfl) (by rfl) HRO (by rfl) hjb hbs ?_)
      intro g cap2 w2 hown2 hb2
      have HR2 : Hid (w2.ownsRow (w.heap.size + 1) 22 1 (.slice (some ⟨g, 0, none⟩) (j + 1) cap2) (j + 1) (Bm.cuts b off Wd Hi pc (j + 1)) ∧ BxS w w2 (.int .i64 k) (.int .i64 (D : Int)) (.int .i64 (Wd : Int)) (.int .i64 (Hi : Int)) (.slice ca cn cc) (.slice (some ⟨b, off, none⟩) pn pc)) := ⟨by rw [HCU.out]; exact hown2, bx_low HR.out.2.1 hb2, hBl.trans (hb2.mono (Nat.le_succ _))⟩
      clear hown2 hb2 HRO HR HCU a0 a1 a2 a3 a4 a5
      go_wp2_with fail
      go_roundw
      case rel => exact ⟨j + 1, _, _, by omega, by go_num, rfl, HR2⟩
      case measure => simp [intOf] <;> omega
    · have hje : Hi = j := by omega
      subst hje
      have hneg : ¬ (0 : Int) ≤ (Hi : Int) - 1 - (Hi : Int) := by omega
      obtain ⟨a, c, he, hr2⟩ := Bm.cuts_rows HR.out.1 HP.out hBl rfl HN.out.1 HN.out.2 hpc
      have HE : Hid (Rows2 wr a (Bm.rows Wd Hi ps)) := hr2
      have HEE : Hid (Value.slice ao Hi cap = .slice a Hi c) := he
      clear hr2 he HR
      go_wp2_with fail
      go_ret
      exact ⟨⟨a, ⟨c, by rw [← HEE.out]; rfl⟩, HE.out⟩, hBl⟩
end Go.Proofs.Ytcgmmpfckmhahaa

/- Noughts behind a row of bytes; a text behind a row of bytes within a round. -/
namespace Go.Proofs.Ytcgmmpfckmhahaa
open Go.RowKit

theorem zeros_u8 (k : Nat) : Builtin.zeroCells (Value.int .u8 0).cells k = (List.replicate k (Value.int .u8 0)).toArray := by
  have h1 : (Value.int .u8 0).cells = #[Value.int .u8 0] := rfl
  rw [h1]
  apply Array.ext
  · simp [Builtin.zeroCells]
  · intro i h2 h3
    simp [Builtin.zeroCells, Nat.mod_one]
set_option maxHeartbeats 1000000 in
theorem run_append_own_zeros {P : Program} (w : World) (base : Nat) (t tn ty e : TypeId) (i : TypeInfo) (kn kq : IntKind) (ht : P.underlying t = some (.slice e)) (htn : P.underlying tn = some (.int kn)) (hi : P.info? e = some i) (hz : i.zero = some (.int .u8 0))
    (hsize : i.size = 1) (hby : i.bytes = 1) (v : Value) (n : Nat) (xs : List Value) (hown : w.ownsRow base e 1 v n xs) (k : Nat) (h63 : n + k ≤ 2000000) (hbase : base ≤ w.heap.size) :
    ∃ v' w', (Builtin.append_ #[t, tn] ty #[v, .int kq k]).run P w = .ok v' w' ∧ w'.ownsRow base e 1 v' (n + k) (xs ++ List.replicate k (.int .u8 0)) ∧ w.grownBy w' v.ownBlock := by
  have hxl : xs.length = n := by simpa using hown.1
  have hlen : (xs ++ List.replicate k (Value.int .u8 0)).length = (n + k) * 1 := by rw [List.length_append, hxl, List.length_replicate, Nat.mul_one]
  have hw : IntKind.i64.wrap (k : Int) = k := by rw [IntKind.wrap_i64]; omega
  have hw0 : IntKind.i64.wrap 0 = 0 := by decide
  have hneg : ¬ ((k : Int) < 0) := by omega
  have h48 : ¬ (281474976710656 < (k : Int)) := by omega
  have h63m : n + k ≤ maxLen := by unfold maxLen; omega
  have grown : ∀ (old : Nat), ∀ (row : Option Nat),
      (w.drew.alloc (.cells (xs.toArray ++ Builtin.zeroCells (Value.int .u8 0).cells k ++ Builtin.zeroCells (Value.int .u8 0).cells (grownCap w (n + k) old e - (n + k))) e)).ownsRow base e 1
        (.slice (some ⟨w.heap.size, 0, none⟩) (n + k) (grownCap w (n + k) old e)) (n + k) (xs ++ List.replicate k (.int .u8 0)) ∧
      w.grownBy (w.drew.alloc (.cells (xs.toArray ++ Builtin.zeroCells (Value.int .u8 0).cells k ++ Builtin.zeroCells (Value.int .u8 0).cells (grownCap w (n + k) old e - (n + k))) e)) row := by
    intro old row
    have hge := grownCap_ge w (n + k) old e
    have hcm : grownCap w (n + k) old e ≤ maxLen := grownCap_le_maxLen w (n + k) old e h63m
    refine ⟨⟨hlen, .inr ⟨w.heap.size, _, _, rfl, hbase, heap_alloc_new w.drew _, hge, hcm, ?_, ?_⟩⟩, ⟨rfl, rfl, rfl, by simp, fun k hk _ => Below.heap_alloc w.drew _ k hk⟩⟩
    · have hz1 : (Value.int IntKind.u8 0).cells.size = 1 := rfl
      simp only [Array.size_append, List.size_toArray, size_zeroCells, hz1, hxl]
      omega
    · rw [zeros_u8 k]
      simp only [Array.toList_append, List.append_assoc]
      rw [← List.append_assoc, ← hlen]
      exact List.take_left
  rcases hown.2 with ⟨rfl, rfl⟩ | ⟨g, cap, cur, rfl, hbg, hg, hnc, hcm, hcs, htake⟩
  · have hx : xs = [] := List.eq_nil_of_length_eq_zero hxl
    subst hx
    by_cases hm : k = 0
    · subst hm
      refine ⟨.slice none 0 0, w, ?_, World.ownsRow_nil w base e 1, ⟨rfl, rfl, rfl, Nat.le_refl _, fun _ _ _ => rfl⟩⟩
      simp [Builtin.append_, run_underlying ht, run_underlying htn, sizeOf, typeInfo, hi, asInt, asIntOf, hby, hw0]
    · have hr := Go.Lib.run_append_nil_zeros (P := P) w t tn ty e i (.int .u8 0) kq kn ht htn hi hz k (by omega) (by omega) (by omega) (by rw [hby]; omega)
      have hgr := grown 0 (Value.ownBlock (.slice none 0 0))
      simp only [Nat.zero_add, Array.empty_append] at hgr ⊢
      exact ⟨_, _, hr, hgr.1, hgr.2⟩
  · by_cases hroom : n + k ≤ cap
    · have hcs' : cur.size = cap := by simpa using hcs
      have hst := run_storeCells_at P g n e (List.replicate k (Value.int .u8 0)) 0 cur w hg (by rw [List.length_replicate, hcs']; omega) (fun v hv => by rw [List.eq_of_mem_replicate hv]; rfl)
      have hz2 : (if k = 0 then (pure #[] : Sem (Array Value)) else do pure (Builtin.zeroCells (← zeroValue e).cells k)).run P w = .ok (List.replicate k (Value.int .u8 0)).toArray w := by
        by_cases h0 : k = 0
        · subst h0; simp
        · rw [if_neg h0]
          simp [zeroValue, typeInfo, hi, hz, zeros_u8 k]
      have hr : (Builtin.append_ #[t, tn] ty #[.slice (some ⟨g, 0, none⟩) n cap, .int kq k]).run P w = .ok (.slice (some ⟨g, 0, none⟩) (n + k) cap) (w.setRow g (cur.toList.take n ++ List.replicate k (Value.int .u8 0) ++ cur.toList.drop (n + k)).toArray) := by
        simp only [Nat.add_zero, List.length_replicate] at hst
        by_cases h0 : k = 0
        · subst h0
          simp only [List.replicate_zero] at hst
          simp [Builtin.append_, run_underlying ht, run_underlying htn, sizeOf, typeInfo, hi, hsize, asInt, asIntOf, hby, hw0, hnc, Addr.add_lit, hst]
        · simp [Builtin.append_, run_underlying ht, run_underlying htn, sizeOf, typeInfo, zeroValue, hi, hz, hsize, asInt, asIntOf, hby, hw, hneg, h48, h0, hroom, zeros_u8, Addr.add_lit, hst]
      refine ⟨_, _, hr, ⟨hlen, .inr ⟨g, cap, _, rfl, hbg, setRow_heap w g cur _ e _ hg, hroom, hcm, ?_, ?_⟩⟩, ⟨rfl, rfl, rfl, by simp, fun k _ hk => setRow_other w g k _ (fun e => hk (by simp [Value.ownBlock, e]))⟩⟩
      · simp only [List.size_toArray, List.length_append, List.length_take, List.length_drop, Array.length_toList, List.length_replicate]
        omega
      · have ht' : cur.toList.take n = xs := by simpa using htake
        rw [ht', ← hlen]
        exact List.take_left
    · have holds : ∀ j u, xs[j]? = some u → w.cell? ((⟨g, 0, none⟩ : Addr).add j) = some u := World.ownsRow.cells hown (g := g) rfl
      have hf := run_firstCells_some (P := P) w.drew i.size n ⟨g, 0, none⟩ n cap xs (by rw [hsize]; simpa using hxl) holds
      have hr := Go.Lib.run_append_grow_zeros (P := P) w t tn ty e i (.int .u8 0) kq kn ht htn hi hz (some ⟨g, 0, none⟩) n cap xs hf k (by omega) (by omega) (by omega) (by omega) (by rw [hby]; omega) (by rw [hby]; exact growslice_fits (by omega) (by omega))
      have hgr := grown cap (Value.ownBlock (.slice (some ⟨g, 0, none⟩) n cap))
      exact ⟨_, _, hr, hgr.1, hgr.2⟩

theorem u8V_zeros (k : Nat) : List.replicate k (Value.int .u8 0) = u8V (List.replicate k 0) := by
  unfold u8V
  rw [List.map_replicate]
  rfl
/-- noughts behind a row of bytes, at a step of a region that draws its order -/
theorem step_zeros {ops : Array Oper} {o : Oper} {a : Act} {K : Act → World → Prop} {Q : Exit → Act → World → Prop} {E : Prop} (w0 : World) (hgd : o.guard = none) (s x : Operand)
    (ho : o.op = .call { callee := .builtin .append, args := #[s, x], argTypes := #[81, 3] })
    (base : Nat) (v : Value) (n : Nat) (l : List UInt8) (k : Nat) (hs : a.eval s = v) (hown : OwnT w0 base v n l) (hx : a.eval x = .int .i64 (k : Int)) (hn : n + k ≤ 2000000) (hb : base ≤ w0.heap.size)
    (h : ∀ v' w', OwnT w' base v' (n + k) (l ++ List.replicate k 0) → w0.grownBy w' v.ownBlock → K (a.put o.dst v') w') :
    if Region.wanted o (yielded ops a.tmps) = true then Oper.wp Try.prog o a w0 K Q else E := by
  obtain ⟨i0, hi0, hz0, hz1, hz2⟩ := info_parts info_u8t
  have hw : Region.wanted o (yielded ops a.tmps) = true := by simp [Region.wanted, hgd]
  rw [if_pos hw]
  obtain ⟨v', w', hr, hown', hg⟩ := run_append_own_zeros (P := Try.prog) w0 base 81 3 o.type 5 i0 .i64 .i64 Try.underlying81 Try.underlying3 hi0 hz0 hz1 hz2 v n (u8V l) hown k hn hb
  rw [u8V_zeros, u8V_append] at hown'
  have hk := h v' w' hown' hg
  unfold Oper.wp
  simp only [execOp, ho, resolve, invoke, builtin, Sem.run_bind, Sem.run_pure, Result.andThen_ok, List.map_toArray, List.map_cons, List.map_nil, hs, hx, hr]
  exact hk
/-- a text more, within a round -/
theorem wpListIn_appTs {F : Fence} {z : Nat} {ops : Array Oper} {rest : List Oper} {o : Oper} {a : Act} {Q : Exit → Act → World → Prop} (w0 : World) (hgd : o.guard = none) (s x : Operand)
    (ho : o.op = .call { callee := .builtin .append, args := #[s, x], argTypes := #[81, 9] })
    (base : Nat) (v : Value) (n : Nat) (l p : List UInt8) (hs : a.eval s = v) (hown : OwnT w0 base v n l) (hx : a.eval x = .string ⟨p.toArray⟩) (hn : n + p.length ≤ 2000000) (hb : base ≤ w0.heap.size)
    (h : ∀ v' w', OwnT w' base v' (n + p.length) (l ++ p) → w0.grownBy w' v.ownBlock → wpListIn F z Try.prog ops Q rest (a.put o.dst v') w') :
    wpListIn F z Try.prog ops Q (o :: rest) a w0 := by
  obtain ⟨i0, hi0, hz0, hz1, hz2⟩ := info_parts info_u8t
  have hsz : (ByteArray.mk p.toArray).size = p.length := by simp [ByteArray.size]
  refine wpListIn_plain hgd fun K hK' => ?_
  obtain ⟨v', w', hr, hown', hg, _⟩ := Go.Lib.run_append_own_string (P := Try.prog) w0 base 81 9 o.type 5 i0 Try.underlying81 Try.underlying9 hi0 hz0 hz1 hz2 v n (u8V l) hown ⟨p.toArray⟩ (by rw [hsz]; unfold maxLen; omega) (by rw [hsz]; omega) hb
  rw [hsz, u8V_str, u8V_append] at hown'
  unfold Oper.wpIn
  refine ⟨?_, ?_⟩
  · simp [Oper.about, ho, resolve, Target.leads, Sem.run_pure]
  · rw [Oper.semAt_plain F _ _ (by rw [ho]; intro c hc'; cases hc')]
    simp [execOp, ho, resolve, invoke, builtin, hs, hx, hr, Result.andThen]
    exact hK' _ _ (h v' w' hown' hg)

/-- what a round keeps -/
structure Bk (B : Nat) (W W' : World) : Prop where
  keeps : KeepsOthers W W'
  below : Below B W W'
theorem Bk.refl (B : Nat) (W : World) : Bk B W W := ⟨KeepsOthers.refl _, Below.refl _ _⟩
theorem Bk.call {B : Nat} {W X Y : World} (h : Bk B W X) (b : Below X.heap.size X Y) (hB : B ≤ X.heap.size) : Bk B W Y :=
  ⟨h.keeps.trans ⟨b.size, fun k _ hk _ => (b.block k (Array.getElem?_eq_some_iff.1 hk).1).trans hk⟩, h.below.trans (b.mono hB)⟩
theorem Bk.drew {B : Nat} {W X : World} (h : Bk B W X) : Bk B W X.drew := ⟨h.keeps.trans (KeepsOthers.drew X), h.below.drew⟩
theorem Bk.own {B base e size n : Nat} {W X Y : World} {v : Value} {xs : List Value} (h : Bk B W X) (hrow : X.ownsRow base e size v n xs) (hg : X.grownBy Y v.ownBlock) (hB : B ≤ base) (hX : B ≤ X.heap.size) : Bk B W Y :=
  ⟨h.keeps.trans (KeepsOthers.of_grownBy hg (fun j o hj ho => by
    rcases hrow.2 with ⟨rfl, _⟩ | ⟨g, cap, cur, rfl, _, hgb, _⟩
    · simp [Value.ownBlock] at hj
    · obtain rfl : g = j := by simpa [Value.ownBlock] using hj
      rw [hgb] at ho; cases ho; rfl)), h.below.grown hg hX (fun k hk => Nat.le_trans hB (World.ownsRow.lt hrow k hk).1)⟩
theorem Bk.store {B : Nat} {W X : World} (h : Bk B W X) (A : Nat) (hA : B ≤ A) (v : Value) : Bk B W (X.setCell ⟨A, 0, none⟩ v) :=
  ⟨h.keeps.trans (KeepsOthers.setCell _ _ _), h.below.setCell (p := ⟨A, 0, none⟩) hA _⟩
end Go.Proofs.Ytcgmmpfckmhahaa
