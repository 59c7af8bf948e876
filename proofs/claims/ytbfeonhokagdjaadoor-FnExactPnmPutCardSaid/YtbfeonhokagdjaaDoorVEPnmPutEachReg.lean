/- A region that draws its order, told operation by operation: what each one's answer is like (R), kept by whatever else is carried out (E): then the order does not matter, and each operation is walked once. -/
import Derived.Deep.RegionHeld
import Derived.Test.YtbfeonhokagdjaaDoorKEPnmPutx0
namespace Go.Proofs.YtbfeonhokagdjaaDoor
open Go.RowKit

section
variable {P : Program} {ops : Array Oper} {Q : Exit → Act → World → Prop} {md : Region.Mode}

/-- The state in which the first m operations have left their answers. -/
def puts (ops : Array Oper) (vs : Nat → Value) (a : Act) : Nat → Act
  | 0 => a
  | m + 1 => (puts ops vs a m).put ((ops[m]?).bind (·.dst)) (vs m)

/-- The same, of those alone that are listed. -/
def putsL (ops : Array Oper) (vs : Nat → Value) (a : Act) (listed : Array Bool) : Nat → Act
  | 0 => a
  | m + 1 => if listed.getD m false then (putsL ops vs a listed m).put ((ops[m]?).bind (·.dst)) (vs m) else putsL ops vs a listed m

def upd (vs : Nat → Value) (i : Nat) (v : Value) : Nat → Value := fun j => if j = i then v else vs j

/-- The operation o waits for number j. -/
def Oper.waits (md : Region.Mode) (o : Oper) (j : Nat) : Bool := o.after.any fun e => e.on == j && Region.binds md e

/-- number i waits for number j, or for one that waits for it, .. -/
def reaches (md : Region.Mode) (ops : Array Oper) : Nat → Nat → Nat → Bool
  | 0, _, _ => false
  | f + 1, i, j => match ops[i]? with
    | none => false
    | some o => Oper.waits md o j || o.after.any (fun e => Region.binds md e && reaches md ops f e.on j)

/-- what is listed stands behind all that it waits for -/
def ClosedL (md : Region.Mode) (ops : Array Oper) (l : Array Bool) : Prop :=
  ∀ (j : Nat) (o : Oper), ops[j]? = some o → l.getD j false = true → ∀ e ∈ o.after, Region.binds md e = true → l.getD e.on false = true

theorem waits_listed {o : Oper} {l : Array Bool} {j : Nat} (h : Oper.waits md o j = true) (hw : ∀ e ∈ o.after, Region.binds md e = true → l.getD e.on false = true) : l.getD j false = true := by
  unfold Oper.waits at h
  rw [Array.any_eq_true'] at h
  obtain ⟨e, he, he2⟩ := h
  rw [Bool.and_eq_true] at he2
  have hon : e.on = j := by simpa using he2.1
  have := hw e he he2.2
  rw [hon] at this
  exact this

theorem reaches_listed {l : Array Bool} (hc : ClosedL md ops l) : ∀ (f i j : Nat) (o : Oper), ops[i]? = some o → (∀ e ∈ o.after, Region.binds md e = true → l.getD e.on false = true) → reaches md ops f i j = true → l.getD j false = true
  | 0, _, _, _, _, _, h => by cases h
  | f + 1, i, j, o, ho, hw, h => by
    unfold reaches at h
    simp only [ho, Bool.or_eq_true] at h
    rcases h with h | h
    · exact waits_listed h hw
    · rw [Array.any_eq_true'] at h
      obtain ⟨e, he, he2⟩ := h
      rw [Bool.and_eq_true] at he2
      have hl := hw e he he2.1
      cases ho2 : ops[e.on]? with
      | none =>
        cases f with
        | zero => exact absurd he2.2 (by simp [reaches])
        | succ f => exact absurd he2.2 (by simp [reaches, ho2])
      | some o2 => exact reaches_listed hc f e.on j o2 ho2 (hc e.on o2 ho2 hl) he2.2

def notSelect : Op → Bool
  | .select _ _ => false
  | _ => true

/-- The first m operations: without guards, each with a temporary of its own, and each waits for those whose answers it looks at; the others wait for all of these. -/
def tidyAt (md : Region.Mode) (ops : Array Oper) (pre : List Nat) (m n i : Nat) (o : Oper) : Bool :=
  if i < m then
    o.guard.isNone && notSelect o.op && o.after.all (fun e => !Region.binds md e || Nat.blt e.on i) && (match o.dst with | some d => Nat.blt d n | none => true) &&
    (List.range m).all (fun j => match (ops[j]?).bind (·.dst) with
      | none => true
      | some d => (!(o.looksAt ops).contains d || Oper.waits md o j) && (j == i || o.dst != some d))
  else (List.range m).all (fun j => pre.contains j || reaches md ops 30 i j)
def tidy (md : Region.Mode) (ops : Array Oper) (pre : List Nat) (m n : Nat) : Bool :=
  Nat.ble m ops.size && (List.range ops.size).all fun i => match ops[i]? with | none => true | some o => tidyAt md ops pre m n i o

theorem tidy_at {pre : List Nat} {m n : Nat} (h : tidy md ops pre m n = true) {i : Nat} {o : Oper} (ho : ops[i]? = some o) : tidyAt md ops pre m n i o = true := by
  unfold tidy at h
  rw [Bool.and_eq_true, List.all_eq_true] at h
  have hi : i < ops.size := by
    rcases Nat.lt_or_ge i ops.size with h' | h'
    · exact h'
    · rw [Array.getElem?_eq_none h'] at ho; cases ho
  have := h.2 i (List.mem_range.2 hi)
  simp only [ho] at this
  exact this

theorem puts_size (vs : Nat → Value) (a : Act) : ∀ m, (puts ops vs a m).tmps.size = a.tmps.size
  | 0 => rfl
  | m + 1 => by
    unfold puts Act.put
    split
    · simp [puts_size vs a m]
    · exact puts_size vs a m
theorem puts_defers (vs : Nat → Value) (a : Act) : ∀ m, (puts ops vs a m).defers = a.defers
  | 0 => rfl
  | m + 1 => by
    unfold puts Act.put
    split
    · exact puts_defers vs a m
    · exact puts_defers vs a m
theorem putsL_size (vs : Nat → Value) (a : Act) (l : Array Bool) : ∀ m, (putsL ops vs a l m).tmps.size = a.tmps.size
  | 0 => rfl
  | m + 1 => by
    unfold putsL
    split
    · unfold Act.put
      split
      · simp [putsL_size vs a l m]
      · exact putsL_size vs a l m
    · exact putsL_size vs a l m

theorem putsL_defers (vs : Nat → Value) (a : Act) (l : Array Bool) : ∀ m, (putsL ops vs a l m).defers = a.defers
  | 0 => rfl
  | m + 1 => by
    unfold putsL
    split
    · unfold Act.put
      split
      · exact putsL_defers vs a l m
      · exact putsL_defers vs a l m
    · exact putsL_defers vs a l m

theorem putsL_all (vs : Nat → Value) (a : Act) (l : Array Bool) : ∀ m, (∀ j, j < m → l.getD j false = true) → putsL ops vs a l m = puts ops vs a m
  | 0, _ => rfl
  | m + 1, h => by
    unfold putsL puts
    rw [if_pos (h m (Nat.lt_succ_self m)), putsL_all vs a l m (fun j hj => h j (Nat.lt_succ_of_lt hj))]
theorem putsL_none (vs : Nat → Value) (a : Act) (l : Array Bool) : ∀ m, (∀ j, j < m → l.getD j false = false) → putsL ops vs a l m = a
  | 0, _ => rfl
  | m + 1, h => by
    unfold putsL
    rw [if_neg (by rw [h m (Nat.lt_succ_self m)]; decide), putsL_none vs a l m (fun j hj => h j (Nat.lt_succ_of_lt hj))]

theorem getD_set_eq {l : Array Bool} {i : Nat} (h : i < l.size) : (l.setIfInBounds i true).getD i false = true := by simp [h]
theorem getD_set_other {l : Array Bool} {i j : Nat} (h : j ≠ i) (b : Bool) : (l.setIfInBounds i true).getD j b = l.getD j b := by
  simp [Array.getD_eq_getD_getElem?, Array.getElem?_setIfInBounds_ne (Ne.symm h)]

theorem putsL_before (vs : Nat → Value) (a : Act) (l : Array Bool) (i : Nat) (v : Value) : ∀ k, k ≤ i → putsL ops (upd vs i v) a (l.setIfInBounds i true) k = putsL ops vs a l k
  | 0, _ => rfl
  | k + 1, h => by
    unfold putsL
    rw [getD_set_other (by omega), putsL_before vs a l i v k (by omega)]
    have : upd vs i v k = vs k := if_neg (by omega)
    rw [this]

theorem putsL_set (vs : Nat → Value) (a : Act) (l : Array Bool) (i : Nat) (v : Value) (hl : i < l.size) (hi : l.getD i true = false) :
    ∀ k, i < k → (∀ j, j < k → j ≠ i → ∀ d, (ops[i]?).bind (·.dst) = some d → (ops[j]?).bind (·.dst) ≠ some d) →
      putsL ops (upd vs i v) a (l.setIfInBounds i true) k = (putsL ops vs a l k).put ((ops[i]?).bind (·.dst)) v
  | 0, h, _ => absurd h (Nat.not_lt_zero _)
  | k + 1, h, hd => by
    by_cases hk : k = i
    · subst hk
      have hf : l.getD k false = false := by
        simp only [Array.getD_eq_getD_getElem?, Array.getElem?_eq_getElem hl, Option.getD_some] at hi ⊢; exact hi
      unfold putsL
      rw [if_pos (getD_set_eq hl), hf, putsL_before vs a l k v k (Nat.le_refl _)]
      have : upd vs k v k = v := if_pos rfl
      rw [this]
      rfl
    · have ih := putsL_set vs a l i v hl hi k (by omega) (fun j hj => hd j (by omega))
      unfold putsL
      rw [getD_set_other hk, ih]
      have hv : upd vs i v k = vs k := if_neg hk
      rw [hv]
      by_cases hlk : l.getD k false = true
      · rw [if_pos hlk, if_pos hlk]
        exact Act.put_comm _ v (vs k) (fun d h1 => hd k (Nat.lt_succ_self k) hk d h1)
      · rw [if_neg hlk, if_neg hlk]

theorem eval_put_same {a b : Act} {dst : Option Tmp} {v : Value} {x : Operand} (hs : a.tmps.size = b.tmps.size) (h : a.eval x = b.eval x) : (a.put dst v).eval x = (b.put dst v).eval x := by
  cases dst with
  | none => exact h
  | some d =>
    cases x with
    | tmp t =>
      simp only [Act.eval, Act.put, Array.getD_eq_getD_getElem?, Array.getElem?_setIfInBounds] at h ⊢
      rw [hs]
      split
      · rfl
      · exact h
    | _ => rfl

theorem eval_putsL (vs : Nat → Value) (a : Act) (l : Array Bool) (x : Operand) : ∀ k, (∀ j d, j < k → (ops[j]?).bind (·.dst) = some d → x = .tmp d → l.getD j false = true) →
    (putsL ops vs a l k).eval x = (puts ops vs a k).eval x
  | 0, _ => rfl
  | k + 1, h => by
    have ih := eval_putsL vs a l x k (fun j d hj => h j d (by omega))
    unfold putsL puts
    by_cases hk : l.getD k false = true
    · rw [if_pos hk]
      exact eval_put_same (by rw [putsL_size, puts_size]) ih
    · rw [if_neg hk, ih]
      refine (Act.eval_put fun d hd hx => ?_).symm
      exact hk (h k d (Nat.lt_succ_self k) hd hx)

/-- What is to be shown of one operation: wherever it comes up, it answers as R says, and leaves all else as E says. -/
def EachStep (P : Program) (md : Region.Mode) (ops : Array Oper) (Q : Exit → Act → World → Prop) (R : Nat → Value → World → Prop) (S : World → Prop) (E : World → World → Prop) (a : Act) (m i : Nat) (o : Oper) : Prop :=
  ∀ (vs : Nat → Value) (w : World), S w → (∀ j, Oper.waits md o j = true → R j (vs j) w) →
    ∀ K : Act → World → Prop, Shut (∀ v w', S w' → E w w' → R i v w' → K ((puts ops vs a m).put o.dst v) w') → Oper.wp P o (puts ops vs a m) w K Q

def EachFrom (P : Program) (md : Region.Mode) (ops : Array Oper) (Q : Exit → Act → World → Prop) (R : Nat → Value → World → Prop) (S : World → Prop) (E : World → World → Prop) (a : Act) (m k : Nat) : Prop :=
  ∀ i o, k ≤ i → i < m → ops[i]? = some o → EachStep P md ops Q R S E a m i o

theorem EachFrom.nil {R : Nat → Value → World → Prop} {S : World → Prop} {E : World → World → Prop} {a : Act} {m : Nat} : EachFrom P md ops Q R S E a m m :=
  fun _ _ h h' => absurd h' (Nat.not_lt.2 h)
theorem EachFrom.cons {R : Nat → Value → World → Prop} {S : World → Prop} {E : World → World → Prop} {a : Act} {m k : Nat} {o : Oper} (ho : ops[k]? = some o)
    (h : EachStep P md ops Q R S E a m k o) (hs : EachFrom P md ops Q R S E a m (k + 1)) : EachFrom P md ops Q R S E a m k := fun i o' h1 h2 h3 => by
  by_cases hk : i = k
  · subst hk; rw [ho] at h3; cases h3; exact h
  · exact hs i o' (by omega) h2 h3

/-- From the state of what is listed to the state in which all stand. -/
theorem wp_of_step {o : Oper} {a b : Act} {w : World} {C : Value → World → Prop} (hde : a.defers = b.defers) (he : execOp a.eval o = execOp b.eval o) (hd : ∀ d, o.dst = some d → d < b.tmps.size)
    (hQ : ∀ c (a b : Act) w, a.defers = b.defers → Q (.panic c) b w → Q (.panic c) a w)
    (h : ∀ K : Act → World → Prop, (∀ v w', C v w' → K (b.put o.dst v) w') → Oper.wp P o b w K Q)
    {K : Act → World → Prop} (hK : ∀ v w', C v w' → K (a.put o.dst v) w') : Oper.wp P o a w K Q := by
  have key : ∀ v w', (∃ v', b.put o.dst v = b.put o.dst v' ∧ C v' w') → K (a.put o.dst v) w' := by
    rintro v w' ⟨v', h1, h2⟩
    cases hdst : o.dst with
    | none => rw [hdst] at hK; have := hK v' w' h2; exact this
    | some d =>
      rw [hdst] at h1
      have h3 := congrArg (fun x : Act => x.tmps[d]?) h1
      simp only [Act.put, Array.getElem?_setIfInBounds_self_of_lt (hd d hdst), Option.some.injEq] at h3
      subst h3
      rw [hdst] at hK
      exact hK v w' h2
  have h1 := h (fun a' w' => ∃ v', a' = b.put o.dst v' ∧ C v' w') (fun v w' hC => ⟨v, rfl, hC⟩)
  unfold Oper.wp at h1 ⊢
  rw [he]
  generalize (execOp b.eval o).run P w = r at h1 ⊢
  match r, h1 with
  | .ok (.value v) w', h1 => exact key v w' h1
  | .ok .skip w', h1 => exact key _ w' h1
  | .ok (.defer d) w', h1 =>
    obtain ⟨v', h2, _⟩ := h1
    have h3 := congrArg (fun x : Act => x.defers.length) h2
    have h4 : ∀ (x : Act) u, (x.put o.dst u).defers = x.defers := fun x u => by unfold Act.put; split <;> rfl
    simp only [h4, List.length_cons] at h3
    omega
  | .ok (.enter f args) w', h1 =>
    refine Calls.mono h1 fun e w'' he => ?_
    cases e with
    | returned u => exact key u w'' he
    | panicked c => exact hQ _ _ _ _ hde he
    | outgrown => exact he
  | .ok (.row row args) w', h1 => exact Rows.mono h1 fun u w'' he => key u w'' he
  | .halt (.panic v) w', h1 => exact hQ _ _ _ _ hde h1

/-- While one of the first m is left, one may come up. -/
theorem ready_some {pre : List Nat} {m n : Nat} (ht : tidy md ops pre m n = true) (hm : m ≤ ops.size) {listed : Array Bool} (hz : listed.size = ops.size) (h0 : Region.ready md ops listed = []) :
    ∀ j, j < m → listed.getD j false = true := by
  intro j
  induction j using Nat.strongRecOn with
  | _ j ih =>
    intro hj
    have hjs : j < ops.size := Nat.lt_of_lt_of_le hj hm
    cases hl : listed.getD j false with
    | true => rfl
    | false =>
      exfalso
      have ho : ops[j]? = some ops[j] := Array.getElem?_eq_getElem hjs
      have ht' := tidy_at ht ho
      unfold tidyAt at ht'
      rw [if_pos hj] at ht'
      simp only [Bool.and_eq_true] at ht'
      have hedge := ht'.1.1.2
      rw [Array.all_eq_true'] at hedge
      have hmem : j ∈ Region.ready md ops listed := by
        rw [mem_ready]
        refine ⟨?_, ops[j], ho, fun e he hb => ?_⟩
        · simp only [Array.getD_eq_getD_getElem?, Array.getElem?_eq_getElem (hz ▸ hjs : j < listed.size), Option.getD_some] at hl ⊢
          exact hl
        · have := hedge e he
          rw [hb] at this
          have hlt : e.on < j := by
            have h1 : Nat.blt e.on j = true := by simpa using this
            exact Nat.le_of_ble_eq_true h1
          exact ih e.on hlt (by omega)
      rw [h0] at hmem
      cases hmem

theorem count_less {l : Array Bool} (i : Nat) (hl : i < l.size) (hi : l.getD i false = false) :
    ∀ m, i < m → ((List.range m).filter (fun j => !l.getD j false)).length = ((List.range m).filter (fun j => !(l.setIfInBounds i true).getD j false)).length + 1
  | 0, h => absurd h (Nat.not_lt_zero _)
  | m + 1, h => by
    rw [List.range_succ, List.filter_append, List.filter_append, List.length_append, List.length_append]
    by_cases hm : m = i
    · subst hm
      have e1 : (List.range m).filter (fun j => !(l.setIfInBounds m true).getD j false) = (List.range m).filter (fun j => !l.getD j false) := by
        apply List.filter_congr
        intro j hj
        rw [getD_set_other (Nat.ne_of_lt (List.mem_range.1 hj))]
      rw [e1]
      have e2 : List.filter (fun j => !l.getD j false) [m] = [m] := by rw [List.filter_cons, hi]; rfl
      have e3 : List.filter (fun j => !(l.setIfInBounds m true).getD j false) [m] = [] := by rw [List.filter_cons, getD_set_eq hl]; rfl
      rw [e2, e3]
      rfl
    · have ih := count_less i hl hi m (by omega)
      rw [ih]
      have e2 : List.filter (fun j => !(l.setIfInBounds i true).getD j false) [m] = List.filter (fun j => !l.getD j false) [m] := by
        rw [List.filter_cons, List.filter_cons, getD_set_other hm]
        rfl
      rw [e2]
      omega

/-- Which ones have come up when the first m have. -/
def firstM (n m : Nat) : Array Bool := ((List.range n).map fun i => Nat.blt i m).toArray

theorem wpAny_each {R : Nat → Value → World → Prop} {S : World → Prop} {E : World → World → Prop} {a : Act} {pre : List Nat} {m n : Nat}
    (ht : tidy md ops pre m n = true) (hn : a.tmps.size = n) (hQ : ∀ c (a b : Act) w, a.defers = b.defers → Q (.panic c) b w → Q (.panic c) a w)
    (hE : ∀ j v w w', E w w' → R j v w → R j v w') (hs : EachFrom P md ops Q R S E a m 0)
    (hend : ∀ vs w, S w → (∀ j, j < m → R j (vs j) w) → wpAny P md ops Q (ops.size - m) (firstM ops.size m) (puts ops vs a m) w) :
    ∀ (fuel : Nat) (listed : Array Bool) (vs : Nat → Value) (w : World), listed.size = ops.size → S w →
      (∀ j, j < m → listed.getD j false = true → R j (vs j) w) → (∀ j, m ≤ j → listed.getD j false = false) →
      ((List.range m).filter (fun j => !listed.getD j false)).length + (ops.size - m) = fuel → ClosedL md ops listed → (∀ j ∈ pre, listed.getD j false = true) →
      wpAny P md ops Q fuel listed (putsL ops vs a listed m) w := by
  have hm : m ≤ ops.size := by
    unfold tidy at ht
    rw [Bool.and_eq_true] at ht
    exact Nat.le_of_ble_eq_true ht.1
  have allDone : ∀ (listed : Array Bool) (vs : Nat → Value) (w : World), listed.size = ops.size → S w →
      (∀ j, j < m → listed.getD j false = true → R j (vs j) w) → (∀ j, m ≤ j → listed.getD j false = false) →
      (∀ j, j < m → listed.getD j false = true) → wpAny P md ops Q (ops.size - m) listed (putsL ops vs a listed m) w := by
    intro listed vs w h1 h2 h3 h4 h5
    rw [putsL_all _ _ _ _ h5]
    have : listed = firstM ops.size m := by
      apply Array.ext
      · simp [firstM, h1]
      · intro i hi1 hi2
        simp only [firstM, List.getElem_toArray, List.getElem_map, List.getElem_range]
        by_cases hi : i < m
        · have := h5 i hi
          simp only [Array.getD_eq_getD_getElem?, Array.getElem?_eq_getElem hi1, Option.getD_some] at this
          rw [this]; exact (Nat.ble_eq_true_of_le hi).symm
        · have := h4 i (by omega)
          simp only [Array.getD_eq_getD_getElem?, Array.getElem?_eq_getElem hi1, Option.getD_some] at this
          rw [this]
          cases hb : Nat.blt i m with
          | false => rfl
          | true => exact absurd (Nat.le_of_ble_eq_true hb) (by omega)
    rw [this]
    exact hend vs w h2 (fun j hj => h3 j hj (h5 j hj))
  intro fuel
  induction fuel with
  | zero =>
    intro listed vs w h1 h2 h3 h4 h5 _ _
    have h6 : ((List.range m).filter (fun j => !listed.getD j false)) = [] := List.eq_nil_of_length_eq_zero (by omega)
    have h7 : ∀ j, j < m → listed.getD j false = true := fun j hj => by
      have := (List.filter_eq_nil_iff.1 h6) j (List.mem_range.2 hj)
      simpa using this
    have h8 : ops.size - m = 0 := by omega
    have := allDone listed vs w h1 h2 h3 h4 h7
    rw [h8] at this
    exact this
  | succ fuel ih =>
    intro listed vs w h1 h2 h3 h4 h5 hcl hpre
    by_cases hall : ((List.range m).filter (fun j => !listed.getD j false)) = []
    · have h7 : ∀ j, j < m → listed.getD j false = true := fun j hj => by
        have := (List.filter_eq_nil_iff.1 hall) j (List.mem_range.2 hj)
        simpa using this
      have h8 : ops.size - m = fuel + 1 := by rw [hall] at h5; simpa using h5
      have := allDone listed vs w h1 h2 h3 h4 h7
      rw [h8] at this
      exact this
    · -- some of the first m have not come up: one of them is the next
      obtain ⟨j0, hj0⟩ := List.exists_mem_of_ne_nil _ hall
      have hj0m : j0 < m := List.mem_range.1 (List.mem_filter.1 hj0).1
      have hj0l : listed.getD j0 false = false := by simpa using (List.mem_filter.1 hj0).2
      have hlt : ∀ i ∈ Region.ready md ops listed, i < m := fun i hi => by
        obtain ⟨hun, o, ho, hw⟩ := mem_ready.1 hi
        rcases Nat.lt_or_ge i m with h | h
        · exact h
        · exfalso
          have ht' := tidy_at ht ho
          unfold tidyAt at ht'
          rw [if_neg (by omega), List.all_eq_true] at ht'
          have := ht' j0 (List.mem_range.2 hj0m)
          rw [Bool.or_eq_true] at this
          have := this.elim (fun h => hpre j0 (by simpa using h)) (fun h => reaches_listed hcl 30 i j0 o ho hw h)
          rw [hj0l] at this
          cases this
      refine ⟨fun h0 => ?_, fun i hi => ?_⟩
      · -- never empty while one is left
        exact absurd (ready_some ht hm h1 h0 j0 hj0m) (by rw [hj0l]; decide)
      · have him := hlt i hi
        obtain ⟨hun, o, ho, hw⟩ := mem_ready.1 hi
        have ht' := tidy_at ht ho
        unfold tidyAt at ht'
        rw [if_pos him] at ht'
        simp only [Bool.and_eq_true] at ht'
        obtain ⟨⟨⟨⟨hg, hns⟩, hedge⟩, hdn⟩, hall2⟩ := ht'
        rw [List.all_eq_true] at hall2
        have hil : i < listed.size := by
          rcases Nat.lt_or_ge i listed.size with h | h
          · exact h
          · exfalso; omega
        have hguard : o.guard = none := by cases hgd : o.guard with | none => rfl | some x => rw [hgd] at hg; cases hg
        have hsel : ∀ cs b, o.op ≠ .select cs b := fun cs b he => by rw [he] at hns; cases hns
        have hbind : (ops[i]?).bind (·.dst) = o.dst := by rw [ho]; rfl
        have hdist : ∀ j, j < m → j ≠ i → ∀ d, (ops[i]?).bind (·.dst) = some d → (ops[j]?).bind (·.dst) ≠ some d := fun j hj hji d hd hd2 => by
          have := hall2 j (List.mem_range.2 hj)
          simp only [hd2, Bool.and_eq_true, Bool.or_eq_true] at this
          rcases this.2 with h | h
          · exact hji (by simpa using h)
          · rw [hbind] at hd; rw [hd] at h; simp at h
        have hsee : ∀ x ∈ o.op.operands, (putsL ops vs a listed m).eval x = (puts ops vs a m).eval x := fun x hx => by
          refine eval_putsL vs a listed x m (fun j d hj hd hxd => ?_)
          have := hall2 j (List.mem_range.2 hj)
          simp only [hd, Bool.and_eq_true, Bool.or_eq_true] at this
          have hlook : d ∈ o.looksAt ops := by
            subst hxd
            exact List.mem_append_left _ (List.mem_filterMap.2 ⟨.tmp d, by simpa using hx, rfl⟩)
          rcases this.1 with h | h
          · exact absurd hlook (by simpa using h)
          · unfold Oper.waits at h
            rw [Array.any_eq_true'] at h
            obtain ⟨e, he, he2⟩ := h
            rw [Bool.and_eq_true] at he2
            have hon : e.on = j := by simpa using he2.1
            have := hw e he he2.2
            rw [hon] at this
            exact this
        refine wpOp_step ho (fun K' hK' => ?_)
        rw [if_pos (by unfold Region.wanted; rw [hguard])]
        refine wp_of_step (b := puts ops vs a m) (C := fun v w' => S w' ∧ E w w' ∧ R i v w') (by rw [putsL_defers, puts_defers]) (execOp_congr o hsel hsee) (fun d hd => ?_) hQ (fun K hK => ?_) (fun v w' hC => ?_)
        · rw [hd] at hdn
          rw [puts_size, hn]
          exact Nat.le_of_ble_eq_true hdn
        · refine hs i o (Nat.zero_le _) him ho vs w h2 (fun j hj => ?_) K (fun v w' h1 h2 h3 => hK v w' ⟨h1, h2, h3⟩)
          unfold Oper.waits at hj
          rw [Array.any_eq_true'] at hj
          obtain ⟨e, he, he2⟩ := hj
          rw [Bool.and_eq_true] at he2
          have hon : e.on = j := by simpa using he2.1
          have h6 := hw e he he2.2
          rw [Array.all_eq_true'] at hedge
          have h7 := hedge e he
          rw [he2.2] at h7
          have h8 : e.on < i := by
            have h1 : Nat.blt e.on i = true := by simpa using h7
            exact Nat.le_of_ble_eq_true h1
          rw [hon] at h6 h8
          exact h3 j (by omega) h6
        · apply hK'
          have h7 := putsL_set vs a listed i v hil hun m him hdist
          rw [hbind] at h7
          rw [← h7]
          refine ih _ (upd vs i v) w' (by simp [h1]) hC.1 (fun j hj hl => ?_) (fun j hj => ?_) ?_ (fun j o' ho' hl e he hb => ?_) (fun j hj => getD_set_true (hpre j hj))
          · by_cases hji : j = i
            · subst hji
              have : upd vs j v j = v := if_pos rfl
              rw [this]; exact hC.2.2
            · have : upd vs i v j = vs j := if_neg hji
              rw [this]
              rw [getD_set_other hji] at hl
              exact hE _ _ _ _ hC.2.1 (h3 j hj hl)
          · rw [getD_set_other (by omega)]
            exact h4 j hj
          · have hcnt : ((List.range m).filter (fun j => !listed.getD j false)).length = ((List.range m).filter (fun j => !(listed.setIfInBounds i true).getD j false)).length + 1 := by
              refine count_less i hil ?_ m him
              simp only [Array.getD_eq_getD_getElem?, Array.getElem?_eq_getElem hil, Option.getD_some] at hun ⊢
              exact hun
            omega
          · have hold : listed.getD e.on false = true := by
              by_cases hji : j = i
              · subst hji
                rw [ho] at ho'
                cases ho'
                exact hw e he hb
              · rw [getD_set_other hji] at hl
                exact hcl j o' ho' hl e he hb
            exact getD_set_true hold

/-- THE LAW: a region that draws its order; each of its first m operations is walked once, wherever it comes up; behind them the rest. -/
theorem wp_region_each {R : Nat → Value → World → Prop} {S : World → Prop} {E : World → World → Prop} {a : Act} {w : World} {id : Nat} (m n : Nat)
    (hm : P.follows .mixedOrders = true) (ht : tidy .any ops [] m n = true) (hn : a.tmps.size = n) (hQ : ∀ c (a b : Act) w, a.defers = b.defers → Q (.panic c) b w → Q (.panic c) a w)
    (hE : ∀ j v w w', E w w' → R j v w → R j v w') (hS : S w.drew) (hs : EachFrom P .any ops Q R S E a m 0)
    (hend : ∀ vs w, S w → (∀ j, j < m → R j (vs j) w) → wpAnyH P .any ops Q (fun _ => True) (ops.size - m) (firstM ops.size m) (puts ops vs a m) w) :
    (Code.region id ops true).wp P Q a w := by
  refine wp_region_any hm ?_
  have hnone : ∀ j, (Array.replicate ops.size false).getD j false = false := fun j => by
    rw [Array.getD_eq_getD_getElem?, Array.getElem?_replicate]
    split <;> rfl
  have h := wpAny_each (md := .any) ht hn hQ hE hs (fun vs w h1 h2 => wpAny_of_held _ _ _ _ (hend vs w h1 h2)) ops.size (Array.replicate ops.size false) (fun _ => undef) w.drew (by simp) hS
    (fun j _ h => by rw [hnone] at h; cases h) (fun j _ => hnone j) ?_ (fun j o _ h => by rw [hnone] at h; cases h) (fun _ h => by cases h)
  · rw [putsL_none _ _ _ _ (fun j _ => hnone j)] at h
    exact h
  · have h1 : m ≤ ops.size := by
      unfold tidy at ht
      rw [Bool.and_eq_true] at ht
      exact Nat.le_of_ble_eq_true ht.1
    have h2 : (List.range m).filter (fun j => !(Array.replicate ops.size false).getD j false) = List.range m := List.filter_eq_self.2 (fun j _ => by rw [hnone]; rfl)
    rw [h2, List.length_range]
    omega

/-- Bytes in a block of their own. -/
def Lay (v : Value) (w : World) (ns : List Nat) : Prop := ∃ b : Nat, v = .slice (some ⟨b, 0, none⟩) ns.length ns.length ∧ b < w.heap.size ∧ ∀ j (h : j < ns.length), w.cell? ⟨b, j, none⟩ = some (.int .u8 (ns[j] : Int))
theorem Lay.kept {v : Value} {w w' : World} {ns : List Nat} (h : Lay v w ns) (b : Below w.heap.size w w') : Lay v w' ns := by
  obtain ⟨p, h1, h2, h3⟩ := h
  exact ⟨p, h1, Nat.lt_of_lt_of_le h2 b.size, fun j hj => (b.cell (p := ⟨p, j, none⟩) h2).trans (h3 j hj)⟩

/-- What is told of an operation's answer: which value it is; which bytes lie there; what else holds of it and stays. -/
inductive What where
  | is (u : Value)
  | lay (ns : List Nat)
  | own (p : Value → World → Prop) (h : ∀ v w w', Below w.heap.size w w' → p v w → p v w')
  | any
def What.holds : What → Value → World → Prop
  | .is u, v, _ => v = u
  | .lay ns, v, w => Lay v w ns
  | .own p _, v, w => p v w
  | .any, _, _ => True
theorem What.kept : ∀ (x : What) {v : Value} {w w' : World}, Below w.heap.size w w' → x.holds v w → x.holds v w'
  | .is _, _, _, _, _, h => h
  | .lay _, _, _, _, b, h => Lay.kept h b
  | .own _ k, _, _, _, b, h => k _ _ _ b h
  | .any, _, _, _, _, _ => trivial

/-- One operation, the state written out. -/
def TellsOp (P : Program) (Q : Exit → Act → World → Prop) (S : World → Prop) (whats : List What) (b : (Nat → Value) → Act) (i : Nat) (o : Oper) : Prop :=
  ∀ (vs : Nat → Value) (w : World), S w → (∀ j, Oper.waits .any o j = true → (whats.getD j .any).holds (vs j) w) →
    ∀ K : Act → World → Prop, Shut (∀ v w', S w' → Below w.heap.size w w' → (whats.getD i .any).holds v w' → K ((b vs).put o.dst v) w') → Oper.wp P o (b vs) w K Q
def TellsFrom (P : Program) (ops : Array Oper) (Q : Exit → Act → World → Prop) (S : World → Prop) (whats : List What) (b : (Nat → Value) → Act) (m k : Nat) : Prop :=
  ∀ i o, k ≤ i → i < m → ops[i]? = some o → TellsOp P Q S whats b i o
theorem TellsFrom.nil {S : World → Prop} {whats : List What} {b : (Nat → Value) → Act} {m : Nat} : TellsFrom P ops Q S whats b m m :=
  fun _ _ h h' => absurd h' (Nat.not_lt.2 h)
theorem TellsFrom.cons {S : World → Prop} {whats : List What} {b : (Nat → Value) → Act} {m k : Nat} {o : Oper} (ho : ops[k]? = some o)
    (h : TellsOp P Q S whats b k o) (hs : TellsFrom P ops Q S whats b m (k + 1)) : TellsFrom P ops Q S whats b m k := fun i o' h1 h2 h3 => by
  by_cases hk : i = k
  · subst hk; rw [ho] at h3; cases h3; exact h
  · exact hs i o' (by omega) h2 h3

/-- THE LAW, the state written out, each answer told. -/
theorem wp_region_told {S : World → Prop} {a : Act} {w : World} {id : Nat} (m n : Nat) (whats : List What) {b : (Nat → Value) → Act}
    (hm : P.follows .mixedOrders = true) (ht : tidy .any ops [] m n = true) (hn : a.tmps.size = n) (hQ : ∀ c (a b : Act) w, a.defers = b.defers → Q (.panic c) b w → Q (.panic c) a w)
    (hb : ∀ vs, puts ops vs a m = b vs) (hS : S w.drew) (hs : TellsFrom P ops Q S whats b m 0)
    (hend : ∀ vs w, S w → (∀ j, j < m → (whats.getD j .any).holds (vs j) w) → wpAnyH P .any ops Q (fun _ => True) (ops.size - m) (firstM ops.size m) (b vs) w) :
    (Code.region id ops true).wp P Q a w := by
  refine wp_region_each (R := fun j v w => (whats.getD j .any).holds v w) (S := S) (E := fun w w' => Below w.heap.size w w') m n hm ht hn hQ (fun j v w w' he h => What.kept _ he h) hS ?_ ?_
  · intro i o h1 h2 h3 vs w' h4 h5 K hK
    rw [hb vs] at hK ⊢
    exact hs i o h1 h2 h3 vs w' h4 h5 K hK
  · intro vs w' h1 h2
    rw [hb vs]
    exact hend vs w' h1 h2

end
end Go.Proofs.YtbfeonhokagdjaaDoor
