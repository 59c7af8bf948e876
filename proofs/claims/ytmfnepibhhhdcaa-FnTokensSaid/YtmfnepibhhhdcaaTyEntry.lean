/- A map of slices: the entry that is looked up and then stored into. -/
import Derived.Maps.OwnRows
import Derived.Maps.OwnSet
import Derived.Maps.Views
import Derived.WideKeyEntry
import Derived.DeepKeys4
import Derived.Test.YtmfnepibhhhdcaaProg
import Derived.Test.YtmfnepibhhhdcaaBase
namespace Go.Proofs.Ytmfnepibhhhdcaa
open Go.ChangeMaps Go.MapKept Go.ChangeShapes Go.RowKit
open Go.WideElems (Fit rd rg pl rd_val rd_key rg_of elemAt entry_then_store)
open Go.Maps (Keyed fit_rising)
open Go.WideShapes (atKey_sorted)
open Go.WideMaps (KeyLaw)

section
variable {H : Type} {P : Program} {k : TypeId} {w w' : World} {base : Nat} {e : TypeId} {q : IntKind} {b n : Nat} {D : DataW H}

theorem ownsInts_same {v : Value} {zs : List Int} (h : w.ownsInts base e q v zs) (hk : ∀ (j : Nat) (cs : Array Value) (fr : Nat × Nat), w.heap[j]? = some (Obj.cells cs e fr) → w'.heap[j]? = some (Obj.cells cs e fr)) : w'.ownsInts base e q v zs := by
  refine ⟨⟨h.1.1, ?_⟩, h.2⟩
  rcases h.1.2 with h2 | ⟨g, cap, cur, hv, hg, hh, r⟩
  · exact .inl h2
  · exact .inr ⟨g, cap, cur, hv, hg, hk g _ _ hh, r⟩
/-- where the map's block and all rows of that type are as they were -/
theorem ownsGroups_same (h : w.ownsGroups P k base e q b n D) (hb' : w'.heap[b]? = w.heap[b]?) (hk : ∀ (j : Nat) (cs : Array Value) (fr : Nat × Nat), w.heap[j]? = some (Obj.cells cs e fr) → w'.heap[j]? = some (Obj.cells cs e fr)) : w'.ownsGroups P k base e q b n D := by
  obtain ⟨es, clock, hb, F, hs, rfl, hbb, hlen, hap⟩ := h
  have hst : ∀ x ∈ es.toList, ∀ z, rowElem (H := H) w base e q x.val = some z → rowElem w' base e q x.val = some z := fun x hx z hz => by
    obtain ⟨zs, ho, rfl⟩ := rowElem_inv hz
    exact rowElem_mk (ownsInts_same ho hk)
  obtain ⟨F1, hmap, _⟩ := F.stay hst
  refine ⟨es, clock, hb'.trans hb, F1, hs, by rw [hmap], hbb, fun x hx zs ho => ?_, hap⟩
  obtain ⟨y, hy⟩ := F.reads x hx
  obtain ⟨z, hz, _⟩ := rd_val hy
  obtain ⟨zs0, ho0, _⟩ := rowElem_inv hz
  rw [ho.unique (ownsInts_same ho0 hk)]
  exact hlen x hx zs0 ho0

set_option maxHeartbeats 1000000 in
/-- the entry at a key, and the way back -/
theorem groups_entry {t E : TypeId} {key : Value} {kl : Lit} (h : w.ownsGroups P k base e q b n D) (KL : KeyLaw P k) (ht : P.underlying t = some (.map k E)) (hz : ∀ u : World, (zeroValue E).run P u = .ok (.slice none 0 0) u) (hn : n < maxLen) (hkey : keyOf P k key = some kl) :
    ∃ v0 st zs wA, (Instr.mapEntry t (.map (some b)) key).run P w = .ok (.tuple #[v0, goInt (st : Nat)]) wA ∧ D.atKey kl .nil = rowDatum q v0 zs ∧ wA.ownsInts base e q v0 zs ∧ zs.length ≤ n ∧ w.grownBy wA (some b) ∧ v0.ownBlock ≠ some b ∧ (∃ (es1 : Array MapEntry) (clock1 : Nat), wA.heap[b]? = some (.map es1 clock1)) ∧
      ∀ (wB : World) (v' : Value) (zs' : List Int), wA.grownBy wB v0.ownBlock → wB.ownsInts base e q v' zs' → zs'.length ≤ n + 1 → (v'.ownBlock = v0.ownBlock ∨ ∃ g, v'.ownBlock = some g ∧ w.heap.size ≤ g) →
        ∃ wC, (Instr.entryStore t (.map (some b)) (goInt st) v').run P wB = .ok () wC ∧ wC.ownsGroups P k base e q b (n + 1) (D.put kl (rowDatum q v' zs')) ∧ wB.grownBy wC (some b) := by
  have K : Keyed P k := Keyed.of_law KL
  obtain ⟨es, clock, hb, F, hs, rfl, hbb, hlen, hap⟩ := h
  have hblt : b < w.heap.size := (Array.getElem?_eq_some_iff.1 hb).1
  have owned : ∀ x ∈ es.toList, ∃ zs, w.ownsInts base e q x.val zs := fun x hx => by
    obtain ⟨y, hy⟩ := F.reads x hx
    obtain ⟨z, hz, _⟩ := rd_val hy
    obtain ⟨zs, ho, _⟩ := rowElem_inv hz
    exact ⟨zs, ho⟩
  obtain ⟨v0, st, es1, clock1, hrun, hcase, hstore⟩ := entry_then_store KL ht hz hb F hkey
  have hA : w.grownBy (setBlock w b (.map es1 clock1)) (some b) := ⟨rfl, rfl, rfl, by simp [setBlock], fun i _ hi => heap_setBlock_other hb _ (fun e1 => hi (by rw [e1]))⟩
  have hb1 : (setBlock w b (.map es1 clock1)).heap[b]? = some (.map es1 clock1) := heap_setBlock_same hb _
  have hlook := Maps.fit_look false K ht (hz w) hb F hkey
  -- what the entry holds
  have hv : ∃ zs, DataW.atKey (.map ((es.toList.map (rg P k (rowElem (H := H) w base e q))).foldr DataW.insert [])) kl .nil = rowDatum q v0 zs ∧ w.ownsInts base e q v0 zs ∧ zs.length ≤ n ∧ (∀ x ∈ es.toList, x.key ≠ key → x.val.ownBlock = none ∨ x.val.ownBlock ≠ v0.ownBlock) ∧ v0.ownBlock ≠ some b := by
    rcases hcase with ⟨e1, he1, hk1, rfl⟩ | ⟨hno, rfl⟩
    · obtain ⟨y0, hy0⟩ := F.reads e1 he1
      obtain ⟨zv, hzv, hd⟩ := rd_val hy0
      have m0 := rd_key hy0
      rw [hk1, hkey] at m0
      have hat := (atKey_sorted (es.toList.map (rg P k (rowElem (H := H) w base e q))) (fit_rising K F) kl (K.key hkey)).2 (rg P k (rowElem (H := H) w base e q) e1) (List.mem_map.2 ⟨e1, he1, rfl⟩) (by rw [rg_of hy0]; exact (Option.some.inj m0).symm)
      obtain ⟨zs, ho, rfl⟩ := rowElem_inv hzv
      refine ⟨zs, by rw [hat, rg_of hy0, hd], ho, hlen e1 he1 zs ho, fun x hx hne => hap x hx e1 he1 (by rw [hk1]; exact hne), fun e2 => ?_⟩
      have := (ho.1.lt b e2).1
      omega
    · rcases hlook with ⟨_, _, hat⟩ | ⟨e0, y, hm0, h3, _⟩
      · refine ⟨[], hat _, World.ownsInts_nil _ _ _ _, Nat.zero_le _, fun x _ _ => ?_, by simp [Value.ownBlock]⟩
        cases x.val.ownBlock <;> simp [Value.ownBlock]
      · exact absurd h3 (hno e0 hm0)
  obtain ⟨zs, hat, ho, hzl, hvap, hvb⟩ := hv
  refine ⟨v0, st, zs, _, hrun, hat, ho.kept hA (Or.inr hvb), hzl, hA, hvb, ⟨es1, clock1, hb1⟩, ?_⟩
  intro wB v' zs' hg hown' hl' hloc
  have hbB : wB.heap[b]? = some (.map es1 clock1) := (hg.block b (by have := hA.size; omega) (fun e1 => hvb e1.symm)).trans hb1
  have hgw : ∀ i, i < w.heap.size → some i ≠ some b → some i ≠ v0.ownBlock → wB.heap[i]? = w.heap[i]? := fun i hi h1 h2 => (hg.block i (by have := hA.size; omega) h2).trans (hA.block i hi h1)
  obtain ⟨es', clock', hst', hup⟩ := hstore wB v' hbB
  have hs1 : ∀ x ∈ es.toList, x.key ≠ key → ∀ z, rowElem (H := H) w base e q x.val = some z → rowElem wB base e q x.val = some z := by
    intro x hx hne z hz
    obtain ⟨zs, ho, rfl⟩ := rowElem_inv hz
    have hxb : x.val.ownBlock ≠ some b := fun e1 => by have := (ho.1.lt b e1).1; omega
    exact rowElem_mk ((ho.kept hA (Or.inr hxb)).kept hg (hvap x hx hne))
  obtain ⟨es2, clock2, hrun2, F', hput, _, _, hwho⟩ := Maps.fit_store (R' := rowElem wB base e q) K ht hb F (Nat.lt_of_le_of_lt hs hn) hs1 hkey (rowElem_mk hown')
  have heq : es2 = es' ∧ clock2 = clock' := by
    rw [hup] at hrun2
    have e1 : setBlock w b (.map es' clock') = setBlock w b (.map es2 clock2) := by simpa using hrun2
    have e2 := heap_setBlock_same hb (.map es' clock')
    rw [e1, heap_setBlock_same hb] at e2
    simpa using e2
  obtain ⟨rfl, rfl⟩ := heq
  have hg2 : wB.grownBy (setBlock wB b (.map es2 clock2)) (some b) := ⟨rfl, rfl, rfl, by simp [setBlock], fun i _ hi => heap_setBlock_other hbB _ (fun e1 => hi (by rw [e1]))⟩
  have own_ne : ∀ {u : Value} {ys : List Int}, wB.ownsInts base e q u ys → u.ownBlock = none ∨ u.ownBlock ≠ some b := fun {u ys} ho => by
    cases hu : u.ownBlock with
    | none => exact Or.inl rfl
    | some g =>
      refine Or.inr (fun e1 => ?_)
      have := (ho.1.lt g hu).1
      cases e1
      omega
  have hs2 : ∀ x ∈ es2.toList, ∀ z, rowElem (H := H) wB base e q x.val = some z → rowElem (setBlock wB b (.map es2 clock2)) base e q x.val = some z := by
    intro x _ z hz
    obtain ⟨ys, ho, rfl⟩ := rowElem_inv hz
    exact rowElem_mk (ho.kept hg2 (own_ne ho))
  obtain ⟨F2, hmap2, _⟩ := F'.stay hs2
  have old_new : ∀ x ∈ es.toList, x.key ≠ key → x.val.ownBlock = none ∨ x.val.ownBlock ≠ v'.ownBlock := by
    intro x hx hne
    rcases hloc with h1 | ⟨g, h1, h2⟩
    · rw [h1]
      exact hvap x hx hne
    · cases hx' : x.val.ownBlock with
      | none => exact Or.inl rfl
      | some gx =>
        obtain ⟨ys, ho⟩ := owned x hx
        have := (ho.1.lt gx hx').2
        refine Or.inr (fun e1 => ?_)
        rw [h1] at e1
        cases e1
        omega
  have kept : ∀ x ∈ es.toList, x.key ≠ key → ∀ ys, w.ownsInts base e q x.val ys → wB.ownsInts base e q x.val ys := fun x hx hne ys ho => by
    have hxb : x.val.ownBlock ≠ some b := fun e1 => by have := (ho.1.lt b e1).1; omega
    exact (ho.kept hA (Or.inr hxb)).kept hg (hvap x hx hne)
  refine ⟨_, hst', ⟨es2, clock2, heap_setBlock_same hbB _, F2, ?_, ?_, hbb, ?_, ?_⟩, hg2⟩
  · have e1 : es2.size = ((es2.toList.map (rg P k (rowElem (H := H) wB base e q))).foldr DataW.insert []).length := by rw [length_sorted]; simp
    rw [e1, hput]
    unfold putKey
    rw [length_insert]
    have e2 := List.length_filter_le (notKey kl) ((es.toList.map (rg P k (rowElem (H := H) w base e q))).foldr DataW.insert [])
    rw [length_sorted] at e2
    simp at e2
    omega
  · rw [hmap2, DataW.put_eq, hput]
  · intro x hx ys ho
    have back : wB.ownsInts base e q x.val ys := by
      obtain ⟨y, hy⟩ := F'.reads x hx
      obtain ⟨z, hz, _⟩ := rd_val hy
      obtain ⟨ys', ho', _⟩ := rowElem_inv hz
      rw [ho.unique (ho'.kept hg2 (own_ne ho'))]
      exact ho'
    rcases hwho x hx with ⟨hx0, hne⟩ | ⟨_, hval⟩
    · obtain ⟨ys0, ho0⟩ := owned x hx0
      have := hlen x hx0 ys0 ho0
      rw [back.unique (kept x hx0 hne ys0 ho0)]
      omega
    · rw [hval] at back
      rw [back.unique hown']
      exact hl'
  · intro x hx y hy hne
    rcases hwho x hx with ⟨hx0, hxk⟩ | ⟨hxk, hxv⟩ <;> rcases hwho y hy with ⟨hy0, hyk⟩ | ⟨hyk, hyv⟩
    · exact hap x hx0 y hy0 hne
    · rw [hyv]
      exact old_new x hx0 hxk
    · rw [hxv]
      cases hv' : v'.ownBlock with
      | none => exact Or.inl rfl
      | some g =>
        refine Or.inr (fun e1 => ?_)
        rcases old_new y hy0 hyk with h | h
        · rw [h] at e1
          cases e1
        · exact h (by rw [hv', e1])
    · exact absurd (hxk.trans hyk.symm) hne
end
end Go.Proofs.Ytmfnepibhhhdcaa
