/- A region that draws its order, told operation by operation: what each one's answer is like (R), kept by whatever else is carried out (E): then the order does not matter, and each operation is walked once. -/
import Derived.Deep.RegionHeld
import Derived.Test.YteldjmocbbbinaaGreatDoorKFRepx0
namespace Go.Proofs.YteldjmocbbbinaaGreatDoor
open Go.RowKit

section
variable {P : Program} {ops : Array Oper} {Q : Exit → Act → World → Prop} {md : Region.Mode}

/-- The state in which the first m operations have left their answers. -/
def puts (ops : Array Oper) (vs : Nat → Value) (a : Act) : Nat → Act
  | 0 => a
  | m + 1 => (puts ops vs a m).put ((ops[m]?).bind (·.dst)) (vs m)

/-- The same, of those alone that are listed. -/
def putsL (ops : Array Oper) (vs : Nat → Value) (a : Act) (listed : Array Bool) : Nat → Act
  | 0 => a
  | m + 1 => if listed.getD m false then (putsL ops vs a listed m).put ((ops[m]?).bind (·.dst)) (vs m) else putsL ops vs a listed m

def upd (vs : Nat → Value) (i : Nat) (v : Value) : Nat → Value := fun j => if j = i then v else vs j

/-- The operation o waits for number j. -/
def Oper.waits (md : Region.Mode) (o : Oper) (j : Nat) : Bool := o.after.any fun e => e.on == j && Region.binds md e

/-- number i waits for number j, or for one that waits for it, .. -/
def reaches (md : Region.Mode) (ops : Array Oper) : Nat → Nat → Nat → Bool
  | 0, _, _ => false
  | f + 1, i, j => match ops[i]? with
    | none => false
    | some o => Oper.waits md o j || o.after.any (fun e => Region.binds md e && reaches md ops f e.on j)

/-- what is listed stands behind all that it waits for -/
def ClosedL (md : Region.Mode) (ops : Array Oper) (l : Array Bool) : Prop :=
  ∀ (j : Nat) (o : Oper), ops[j]? = some o → l.getD j false = true → ∀ e ∈ o.after, Region.binds md e = true → l.getD e.on false = true

theorem waits_listed {o : Oper} {l : Array Bool} {j : Nat} (h : Oper.waits md o j = true) (hw : ∀ e ∈ o.after, Region.binds md e = true → l.getD e.on false = true) : l.getD j false = true := by
  unfold Oper.waits at h
  rw [Array.any_eq_true'] at h
  obtain ⟨e, he, he2⟩ := h
  rw [Bool.and_eq_true] at he2
  have hon : e.on = j := by simpa using he2.1
  have := hw e he he2.2
  rw [hon] at this
  exact this

theorem reaches_listed {l : Array Bool} (hc : ClosedL md ops l) : ∀ (f i j : Nat) (o : Oper), ops[i]? = some o → (∀ e ∈ o.after, Region.binds md e = true → l.getD e.on false = true) → reaches md ops f i j = true → l.getD j false = true
  | 0, _, _, _, _, _, h => by cases h
  | f + 1, i, j, o, ho, hw, h => by
    unfold reaches at h
    simp only [ho, Bool.or_eq_true] at h
    rcases h with h | h
    · exact waits_listed h hw
    · rw [Array.any_eq_true'] at h
      obtain ⟨e, he, he2⟩ := h
      rw [Bool.and_eq_true] at he2
      have hl := hw e he he2.1
      cases ho2 : ops[e.on]? with
      | none =>
        cases f with
        | zero => exact absurd he2.2 (by simp [reaches])
        | succ f => exact absurd he2.2 (by simp [reaches, ho2])
      | some o2 => exact reaches_listed hc f e.on j o2 ho2 (hc e.on o2 ho2 hl) he2.2

def notSelect : Op → Bool
  | .select _ _ => false
  | _ => true

/-- The first m operations: without guards, each with a temporary of its own, and each waits for those whose answers it looks at; the others wait for all of these. -/
def tidyAt (md : Region.Mode) (ops : Array Oper) (pre : List Nat) (m n i : Nat) (o : Oper) : Bool :=
  if i < m then
    o.guard.isNone && notSelect o.op && o.after.all (fun e => !Region.binds md e || Nat.blt e.on i) && (match o.dst with | some d => Nat.blt d n | none => true) &&
    (List.range m).all (fun j => match (ops[j]?).bind (·.dst) with
      | none => true
      | some d => (!(o.looksAt ops).contains d || Oper.waits md o j) && (j == i || o.dst != some d))
  else (List.range m).all (fun j => pre.contains j || reaches md ops 30 i j)
def tidy (md : Region.Mode) (ops : Array Oper) (pre : List Nat) (m n : Nat) : Bool :=
  Nat.ble m ops.size && (List.range ops.size).all fun i => match ops[i]? with | none => true | some o => tidyAt md ops pre m n i o

theorem tidy_at {pre : List Nat} {m n : Nat} (h : tidy md ops pre m n = true) {i : Nat} {o : Oper} (ho : ops[i]? = some o) : tidyAt md ops pre m n i o = true := by
  unfold tidy at h
  rw [Bool.and_eq_true, List.all_eq_true] at h
  have hi : i < ops.size := by
    rcases Nat.lt_or_ge i ops.size with h' | h'
    · exact h'
    · rw [Array.getElem?_eq_none h'] at ho; cases ho
  have := h.2 i (List.mem_range.2 hi)
  simp only [ho] at this
  exact this

theorem puts_size (vs : Nat → Value) (a : Act) : ∀ m, (puts ops vs a m).tmps.size = a.tmps.size
  | 0 => rfl
  | m + 1 => by
    unfold puts Act.put
    split
    · simp [puts_size vs a m]
    · exact puts_size vs a m
theorem puts_defers (vs : Nat → Value) (a : Act) : ∀ m, (puts ops vs a m).defers = a.defers
  | 0 => rfl
  | m + 1 => by
    unfold puts Act.put
    split
    · exact puts_defers vs a m
    · exact puts_defers vs a m
theorem putsL_size (vs : Nat → Value) (a : Act) (l : Array Bool) : ∀ m, (putsL ops vs a l m).tmps.size = a.tmps.size
  | 0 => rfl
  | m + 1 => by
    unfold putsL
    split
    · unfold Act.put
      split
      · simp [putsL_size vs a l m]
      · exact putsL_size vs a l m
    · exact putsL_size vs a l m

theorem putsL_defers (vs : Nat → Value) (a : Act) (l : Array Bool) : ∀ m, (putsL ops vs a l m).defers = a.defers
  | 0 => rfl
  | m + 1 => by
    unfold putsL
    split
    · unfold Act.put
      split
      · exact putsL_defers vs a l m
      · exact putsL_defers vs a l m
    · exact putsL_defers vs a l m

theorem putsL_all (vs : Nat → Value) (a : Act) (l : Array Bool) : ∀ m, (∀ j, j < m → l.getD j false = true) → putsL ops vs a l m = puts ops vs a m
  | 0, _ => rfl
  | m + 1, h => by
    unfold putsL puts
    rw [if_pos (h m (Nat.lt_succ_self m)), putsL_all vs a l m (fun j hj => h j (Nat.lt_succ_of_lt hj))]
theorem putsL_none (vs : Nat → Value) (a : Act) (l : Array Bool) : ∀ m, (∀ j, j < m → l.getD j false = false) → putsL ops vs a l m = a
  | 0, _ => rfl
  | m + 1, h => by
    unfold putsL
    rw [if_neg (by rw [h m (Nat.lt_succ_self m)]; decide), putsL_none vs a l m (fun j hj => h j (Nat.lt_succ_of_lt hj))]

theorem getD_set_eq {l : Array Bool} {i : Nat} (h : i < l.size) : (l.setIfInBounds i true).getD i false = true := by simp [h]
theorem getD_set_other {l : Array Bool} {i j : Nat} (h : j ≠ i) (b : Bool) : (l.setIfInBounds i true).getD j b = l.getD j b := by
  simp [Array.getD_eq_getD_getElem?, Array.getElem?_setIfInBounds_ne (Ne.symm h)]

theorem putsL_before (vs : Nat → Value) (a : Act) (l : Array Bool) (i : Nat) (v : Value) : ∀ k, k ≤ i → putsL ops (upd vs i v) a (l.setIfInBounds i true) k = putsL ops vs a l k
  | 0, _ => rfl
  | k + 1, h => by
    unfold putsL
    rw [getD_set_other (by omega), putsL_before vs a l i v k (by omega)]
    have : upd vs i v k = vs k := if_neg (by omega)
    rw [this]

theorem putsL_set (vs : Nat → Value) (a : Act) (l : Array Bool) (i : Nat) (v : Value) (hl : i < l.size) (hi : l.getD i true = false) :
    ∀ k, i < k → (∀ j, j < k → j ≠ i → ∀ d, (ops[i]?).bind (·.dst) = some d → (ops[j]?).bind (·.dst) ≠ some d) →
      putsL ops (upd vs i v) a (l.setIfInBounds i true) k = (putsL ops vs a l k).put ((ops[i]?).bind (·.dst)) v
  | 0, h, _ => absurd h (Nat.not_lt_zero _)
  | k + 1, h, hd => by
    by_cases hk : k = i
    · subst hk
      have hf : l.getD k false = false := by
        simp only [Array.getD_eq_getD_getElem?, Array.getElem?_eq_getElem hl, Option.getD_some] at hi ⊢; exact hi
      unfold putsL
      rw [if_pos (getD_set_eq hl), hf, putsL_before vs a l k v k (Nat.le_refl _)]
      have : upd vs k v k = v := if_pos rfl
      rw [this]
      rfl
    · have ih := putsL_set vs a l i v hl hi k (by omega) (fun j hj => hd j (by omega))
      unfold putsL
      rw [getD_set_other hk, ih]
      have hv : upd vs i v k = vs k := if_neg hk
      rw [hv]
      by_cases hlk : l.getD k false = true
      · rw [if_pos hlk, if_pos hlk]
        exact Act.put_comm _ v (vs k) (fun d h1 => hd k (Nat.lt_succ_self k) hk d h1)
      · rw [if_neg hlk, if_neg hlk]

theorem eval_put_same {a b : Act} {dst : Option Tmp} {v : Value} {x : Operand} (hs : a.tmps.size = b.tmps.size) (h : a.eval x = b.eval x) : (a.put dst v).eval x = (b.put dst v).eval x := by
  cases dst with
  | none => exact h
  | some d =>
    cases x with
    | tmp t =>
      simp only [Act.eval, Act.put, Array.getD_eq_getD_getElem?, Array.getElem?_setIfInBounds] at h ⊢
      rw [hs]
      split
      · rfl
      · exact h
    | _ => rfl

theorem eval_putsL (vs : Nat → Value) (a : Act) (l : Array Bool) (x : Operand) : ∀ k, (∀ j d, j < k → (ops[j]?).bind (·.dst) = some d → x = .tmp d → l.getD j false = true) →
    (putsL ops vs a l k).eval x = (puts ops vs a k).eval x
  | 0, _ => rfl
  | k + 1, h => by
    have ih := eval_putsL vs a l x k (fun j d hj => h j d (by omega))
    unfold putsL puts
    by_cases hk : l.getD k false = true
    · rw [if_pos hk]
      exact eval_put_same (by rw [putsL_size, puts_size]) ih
    · rw [if_neg hk, ih]
      refine (Act.eval_put fun d hd hx => ?_).symm
      exact hk (h k d (Nat.lt_succ_self k) hd hx)

/-- What is to be shown of one operation: wherever it comes up, it answers as R says, and leaves all else as E says. -/
def EachStep (P : Program) (md : Region.Mode) (ops : Array Oper) (Q : Exit → Act → World → Prop) (R : Nat → Value → World → Prop) (S : World → Prop) (E : World → World → Prop) (a : Act) (m i : Nat) (o : Oper) : Prop :=
  ∀ (vs : Nat → Value) (w : World), S w → (∀ j, Oper.waits md o j = true → R j (vs j) w) →
    ∀ K : Act → World → Prop, Shut (∀ v w', S w' → E w w' → R i v w' → K ((puts ops vs a m).put o.dst v) w') → Oper.wp P o (puts ops vs a m) w K Q

def EachFrom (P : Program) (md : Region.Mode) (ops : Array Oper) (Q : Exit → Act → World → Prop) (R : Nat → Value → World → Prop) (S : World → Prop) (E : World → World → Prop) (a : Act) (m k : Nat) : Prop :=
  ∀ i o, k ≤ i → i < m → ops[i]? = some o → EachStep P md ops Q R S E a m i o

theorem EachFrom.nil {R : Nat → Value → World → Prop} {S : World → Prop} {E : World → World → Prop} {a : Act} {m : Nat} : EachFrom P md ops Q R S E a m m :=
  fun _ _ h h' => absurd h' (Nat.not_lt.2 h)
theorem EachFrom.cons {R : Nat → Value → World → Prop} {S : World → Prop} {E : World → World → Prop} {a : Act} {m k : Nat} {o : Oper} (ho : ops[k]? = some o)
    (h : EachStep P md ops Q R S E a m k o) (hs : EachFrom P md ops Q R S E a m (k + 1)) : EachFrom P md ops Q R S E a m k := fun i o' h1 h2 h3 => by
  by_cases hk : i = k
  · subst hk; rw [ho] at h3; cases h3; exact h
  · exact hs i o' (by omega) h2 h3

/-- From the state of what is listed to the state in which all stand. -/
theorem wp_of_step {o : Oper} {a b : Act} {w : World} {C : Value → World → Prop} (hde : a.defers = b.defers) (he : execOp a.eval o = execOp b.eval o) (hd : ∀ d, o.dst = some d → d < b.tmps.size)
    (hQ : ∀ c (a b : Act) w, a.defers = b.defers → Q (.panic c) b w → Q (.panic c) a w)
    (h : ∀ K : Act → World → Prop, (∀ v w', C v w' → K (b.put o.dst v) w') → Oper.wp P o b w K Q)
    {K : Act → World → Prop} (hK : ∀ v w', C v w' → K (a.put o.dst v) w') : Oper.wp P o a w K Q := by
  have key : ∀ v w', (∃ v', b.put o.dst v = b.put o.dst v' ∧ C v' w') → K (a.put o.dst v) w' := by
    rintro v w' ⟨v', h1, h2⟩
    cases hdst : o.dst with
    | none => rw [hdst] at hK; have := hK v' w' h2; exact this
    | some d =>
      rw [hdst] at h1
      have h3 := congrArg (fun x : Act => x.tmps[d]?) h1
      simp only [Act.put, Array.getElem?_setIfInBounds_self_of_lt (hd d hdst), Option.some.injEq] at h3
      subst h3
      rw [hdst] at hK
      exact hK v w' h2
  have h1 := h (fun a' w' => ∃ v', a' = b.put o.dst v' ∧ C v' w') (fun v w' hC => ⟨v, rfl, hC⟩)
  unfold Oper.wp at h1 ⊢
  rw [he]
  generalize (execOp b.eval o).run P w = r at h1 ⊢
  match r, h1 with
  | .ok (.value v) w', h1 => exact key v w' h1
  | .ok .skip w', h1 => exact key _ w' h1
  | .ok (.defer d) w', h1 =>
    obtain ⟨v', h2, _⟩ := h1
    have h3 := congrArg (fun x : Act => x.defers.length) h2
    have h4 : ∀ (x : Act) u, (x.put o.dst u).defers = x.defers := fun x u => by unfold Act.put; split <;> rfl
    simp only [h4, List.length_cons] at h3
    omega
  | .ok (.enter f args) w', h1 =>
    refine Calls.mono h1 fun e w'' he => ?_
    cases e with
    | returned u => exact key u w'' he
    | panicked c => exact hQ _ _ _ _ hde he
    | outgrown => exact he
  | .ok (.row row args) w', h1 => exact Rows.mono h1 fun u w'' he => key u w'' he
  | .halt (.panic v) w', h1 => exact hQ _ _ _ _ hde h1

/-- While one of the first m is left, one may come up. -/
theorem ready_some {pre : List Nat} {m n : Nat} (ht : tidy md ops pre m n = true) (hm : m ≤ ops.size) {listed : Array Bool} (hz : listed.size = ops.size) (h0 : Region.ready md ops listed = []) :
    ∀ j, j < m → listed.getD j false = true := by
  intro j
  induction j using Nat.strongRecOn with
  | _ j ih =>
    intro hj
    have hjs : j < ops.size := Nat.lt_of_lt_of_le hj hm
    cases hl : listed.getD j false with
    | true => rfl
    | false =>
      exfalso
      have ho : ops[j]? = some ops[j] := Array.getElem?_eq_getElem hjs
      have ht' := tidy_at ht ho
      unfold tidyAt at ht'
      rw [if_pos hj] at ht'
      simp only [Bool.and_eq_true] at ht'
      have hedge := ht'.1.1.2
      rw [Array.all_eq_true'] at hedge
      have hmem : j ∈ Region.ready md ops listed := by
        rw [mem_ready]
        refine ⟨?_, ops[j], ho, fun e he hb => ?_⟩
        · simp only [Array.getD_eq_getD_getElem?, Array.getElem?_eq_getElem (hz ▸ hjs : j < listed.size), Option.getD_some] at hl ⊢
          exact hl
        · have := hedge e he
          rw [hb] at this
          have hlt : e.on < j := by
            have h1 : Nat.blt e.on j = true := by simpa using this
            exact Nat.le_of_ble_eq_true h1
          exact ih e.on hlt (by omega)
      rw [h0] at hmem
      cases hmem

theorem count_less {l : Array Bool} (i : Nat) (hl : i < l.size) (hi : l.getD i false = false) :
    ∀ m, i < m → ((List.range m).filter (fun j => !l.getD j false)).length = ((List.range m).filter (fun j => !(l.setIfInBounds i true).getD j false)).length + 1
  | 0, h => absurd h (Nat.not_lt_zero _)
  | m + 1, h => by
    rw [List.range_succ, List.filter_append, List.filter_append, List.length_append, List.length_append]
    by_cases hm : m = i
    · subst hm
      have e1 : (List.range m).filter (fun j => !(l.setIfInBounds m true).getD j false) = (List.range m).filter (fun j => !l.getD j false) := by
        apply List.filter_congr
        intro j hj
        rw [getD_set_other (Nat.ne_of_lt (List.mem_range.1 hj))]
      rw [e1]
      have e2 : List.filter (fun j => !l.getD j false) [m] = [m] := by rw [List.filter_cons, hi]; rfl
      have e3 : List.filter (fun j => !(l.setIfInBounds m true).getD j false) [m] = [] := by rw [List.filter_cons, getD_set_eq hl]; rfl
      rw [e2, e3]
      rfl
    · have ih := count_less i hl hi m (by omega)
      rw [ih]
      have e2 : List.filter (fun j => !(l.setIfInBounds i true).getD j false) [m] = List.filter (fun j => !l.getD j false) [m] := by
        rw [List.filter_cons, List.filter_cons, getD_set_other hm]
        rfl
      rw [e2]
      omega

/-- Which ones have come up when the first m have. -/
def firstM (n m : Nat) : Array Bool := ((List.range n).map fun i => Nat.blt i m).toArray

/-- Bytes in a block of their own. -/
def Lay (v : Value) (w : World) (ns : List Nat) : Prop := ∃ b : Nat, v = .slice (some ⟨b, 0, none⟩) ns.length ns.length ∧ b < w.heap.size ∧ ∀ j (h : j < ns.length), w.cell? ⟨b, j, none⟩ = some (.int .u8 (ns[j] : Int))
theorem Lay.kept {v : Value} {w w' : World} {ns : List Nat} (h : Lay v w ns) (b : Below w.heap.size w w') : Lay v w' ns := by
  obtain ⟨p, h1, h2, h3⟩ := h
  exact ⟨p, h1, Nat.lt_of_lt_of_le h2 b.size, fun j hj => (b.cell (p := ⟨p, j, none⟩) h2).trans (h3 j hj)⟩

/-- What is told of an operation's answer: which value it is; which bytes lie there; what else holds of it and stays. -/
inductive What where
  | is (u : Value)
  | lay (ns : List Nat)
  | own (p : Value → World → Prop) (h : ∀ v w w', Below w.heap.size w w' → p v w → p v w')
  | any
def What.holds : What → Value → World → Prop
  | .is u, v, _ => v = u
  | .lay ns, v, w => Lay v w ns
  | .own p _, v, w => p v w
  | .any, _, _ => True
theorem What.kept : ∀ (x : What) {v : Value} {w w' : World}, Below w.heap.size w w' → x.holds v w → x.holds v w'
  | .is _, _, _, _, _, h => h
  | .lay _, _, _, _, b, h => Lay.kept h b
  | .own _ k, _, _, _, b, h => k _ _ _ b h
  | .any, _, _, _, _, _ => trivial

/-- One operation, the state written out. -/
def TellsOp (P : Program) (Q : Exit → Act → World → Prop) (S : World → Prop) (whats : List What) (b : (Nat → Value) → Act) (i : Nat) (o : Oper) : Prop :=
  ∀ (vs : Nat → Value) (w : World), S w → (∀ j, Oper.waits .any o j = true → (whats.getD j .any).holds (vs j) w) →
    ∀ K : Act → World → Prop, Shut (∀ v w', S w' → Below w.heap.size w w' → (whats.getD i .any).holds v w' → K ((b vs).put o.dst v) w') → Oper.wp P o (b vs) w K Q
def TellsFrom (P : Program) (ops : Array Oper) (Q : Exit → Act → World → Prop) (S : World → Prop) (whats : List What) (b : (Nat → Value) → Act) (m k : Nat) : Prop :=
  ∀ i o, k ≤ i → i < m → ops[i]? = some o → TellsOp P Q S whats b i o
theorem TellsFrom.nil {S : World → Prop} {whats : List What} {b : (Nat → Value) → Act} {m : Nat} : TellsFrom P ops Q S whats b m m :=
  fun _ _ h h' => absurd h' (Nat.not_lt.2 h)
theorem TellsFrom.cons {S : World → Prop} {whats : List What} {b : (Nat → Value) → Act} {m k : Nat} {o : Oper} (ho : ops[k]? = some o)
    (h : TellsOp P Q S whats b k o) (hs : TellsFrom P ops Q S whats b m (k + 1)) : TellsFrom P ops Q S whats b m k := fun i o' h1 h2 h3 => by
  by_cases hk : i = k
  · subst hk; rw [ho] at h3; cases h3; exact h
  · exact hs i o' (by omega) h2 h3

end
end Go.Proofs.YteldjmocbbbinaaGreatDoor
