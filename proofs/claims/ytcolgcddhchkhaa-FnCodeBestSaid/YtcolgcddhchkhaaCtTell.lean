/- How deep each symbol stands is written down. -/
import Derived.Test.YtcolgcddhchkhaaCtGrow
import Derived.Test.YtcolgcddhchkhaaMarkWalks
namespace Go.Proofs.Ytcolgcddhchkhaa
open Go.RowKit
open Ct (Tr Nt)

/-- what is written down -/
def tell : Tr → Nat → (Nat → Nat) → (Nat → Nat)
  | .leaf s, d, f => fun i => if i = s then d else f i
  | .node l r, d, f => tell r (d + 1) (tell l (d + 1) f)
/-- a row of lengths -/
def OwnL (w : World) (B n : Nat) (f : Nat → Nat) : Prop := Own w B n (fun i => ((f i : Nat) : Int)) ∧ ∃ cs fr, w.heap[B]? = some (.cells cs 3 fr)
theorem OwnL.set {w : World} {B n : Nat} {f : Nat → Nat} (h : OwnL w B n f) {s : Nat} (hs : s < n) (d : Nat) : OwnL (w.setCell ⟨B, s, none⟩ (.int .i64 (d : Int))) B n (fun i => if i = s then d else f i) ∧ Turned B w (w.setCell ⟨B, s, none⟩ (.int .i64 (d : Int))) := by
  obtain ⟨h1, cs, fr, h2⟩ := h
  refine ⟨⟨⟨by rw [World.size_setCell]; exact h1.1, fun i hi => ⟨?_, ?_⟩⟩, ?_⟩, (Turned.refl B w).set s _⟩
  · by_cases e : i = s
    · subst e; rw [World.cell?_setCell_same _ _ _ (h1.2 i hi).1]; simp
    · rw [World.cell?_setCell_other _ _ _ _ (fun q => e (congrArg Addr.off q).symm), (h1.2 i hi).1]; simp [e]
  · rw [World.frozen?_setCell]; exact (h1.2 i hi).2
  · rw [setCell_eq_setRow w B s cs _ fr _ h2]
    exact ⟨_, _, setRow_heap w B cs _ _ _ h2⟩
theorem Turned.nodes {B : Nat} {w w' : World} (h : Turned B w w') (hb : ∃ cs fr, w.heap[B]? = some (.cells cs 3 fr)) : NodesK w w' := fun k cs e => by
  obtain ⟨cs', fr, hb⟩ := hb
  refine (h.rest k (fun ek => ?_)).trans e
  rw [ek, hb] at e
  cases e
theorem Turned.trans {B : Nat} {x y z : World} (h : Turned B x y) (k : Turned B y z) : Turned B x z := ⟨k.os.trans h.os, k.tape.trans h.tape, k.output.trans h.output, k.size.trans h.size, fun i hi => (k.rest i hi).trans (h.rest i hi)⟩
def TellEnd (B n : Nat) (f : Nat → Nat) (w : World) (e : Ending) (w' : World) : Prop := (∃ v, e = .returned v) ∧ OwnL w' B n f ∧ Turned B w w'
set_option maxHeartbeats 2000000 in
set_option maxRecDepth 20000 in
theorem tell_leaf (B n c k s d o p : Nat) (f : Nat → Nat) (w : World) (hs : s < n) (hk : w.heap[k]? = some (nodeC (s : Int) (.pointer none) (.pointer none) o p)) (hL : OwnL w B n f) :
    Calls Try.prog 70 #[.pointer (some ⟨k, 0, none⟩), .int .i64 (d : Int), .slice (some ⟨B, 0, none⟩) n c] w (TellEnd B n (fun i => if i = s then d else f i) w) := by
  have hc : w.cell? ⟨k, 0, none⟩ = some (.int .i64 (s : Int)) := by unfold nodeC at hk; simp [World.cell?, hk]
  obtain ⟨h1, h2⟩ := hL.set hs d
  have HF : Hid (∀ v, TellEnd B n (fun i => if i = s then d else f i) w (.returned v) (w.setCell ⟨B, s, none⟩ (.int .i64 (d : Int)))) := fun v => ⟨⟨v, rfl⟩, h1, h2⟩
  obtain ⟨hcs, hfs⟩ := hL.1.2 s hs
  have hsi : (s : Int) < (n : Int) := by omega
  have dg : decide ((s : Int) ≥ 0) = true := by simp
  generalize ((f s : Nat) : Int) = u at hcs
  clear h1 h2 hL hk
  go_enter Try.func70, Try.ntmps70
  go_wp2_with fail
  refine bodyPost_ret (results_none rfl _ _ _) rfl ?_
  exact HF.out _
set_option maxHeartbeats 2000000 in
set_option maxRecDepth 20000 in
theorem tell_any (B n c : Nat) : ∀ (t : Tr) (k d : Nat) (f : Nat → Nat) (w : World), (∀ s ∈ Ct.syms t, s < n) → TreeAt w k t → OwnL w B n f → d + Ct.hgt t ≤ 1000 →
    Calls Try.prog 70 #[.pointer (some ⟨k, 0, none⟩), .int .i64 (d : Int), .slice (some ⟨B, 0, none⟩) n c] w (TellEnd B n (tell t d f) w)
  | .leaf s, k, d, f, w, hs, ⟨o, p, hk⟩, hL, _ => tell_leaf B n c k s d o p f w (hs s (by simp [Ct.syms])) hk hL
  | .node l r, k, d, f, w, hs, ⟨kl, kr, o, p, hk, hl, hr⟩, hL, hd => by
    have hm : Ct.hgt l ≤ Nat.max (Ct.hgt l) (Ct.hgt r) := Nat.le_max_left _ _
    have hm' : Ct.hgt r ≤ Nat.max (Ct.hgt l) (Ct.hgt r) := Nat.le_max_right _ _
    have hd' : d + (1 + Nat.max (Ct.hgt l) (Ct.hgt r)) ≤ 1000 := hd
    have H1 : Hid (Calls Try.prog 70 #[.pointer (some ⟨kl, 0, none⟩), .int .i64 ((d + 1 : Nat) : Int), .slice (some ⟨B, 0, none⟩) n c] w (TellEnd B n (tell l (d + 1) f) w)) := tell_any B n c l kl (d + 1) f w (fun s h => hs s (by simp [Ct.syms, h])) hl hL (by omega)
    have H2 : Hid (∀ w' : World, TreeAt w' kr r → OwnL w' B n (tell l (d + 1) f) → Calls Try.prog 70 #[.pointer (some ⟨kr, 0, none⟩), .int .i64 ((d + 1 : Nat) : Int), .slice (some ⟨B, 0, none⟩) n c] w' (TellEnd B n (tell r (d + 1) (tell l (d + 1) f)) w')) := fun w' h1 h2 => tell_any B n c r kr (d + 1) _ w' (fun s h => hs s (by simp [Ct.syms, h])) h1 h2 (by omega)
    have HT : Hid (∀ w', Turned B w w' → NodesK w w') := fun w' h => h.nodes hL.2
    have HR : Hid (TreeAt w kr r) := hr
    have HK : Hid (w.heap[k]? = some (nodeC (-1) (ptN kl) (ptN kr) o p)) := hk
    have hc0 : w.cell? ⟨k, 0, none⟩ = some (.int .i64 (-1)) := by unfold nodeC at hk; simp [World.cell?, hk]
    have hc1 : w.cell? ⟨k, 1, none⟩ = some (.pointer (some ⟨kl, 0, none⟩)) := by unfold nodeC ptN at hk; simp [World.cell?, hk]
    have ed : (d : Int) + 1 = ((d + 1 : Nat) : Int) := by omega
    obtain ⟨D, hD⟩ : ∃ D, D = d + 1 := ⟨_, rfl⟩
    have hDb : D ≤ 1001 := by omega
    show Calls Try.prog _ _ _ (TellEnd B n (tell r (d + 1) (tell l (d + 1) f)) w)
    rw [← hD] at ed H1 H2 ⊢
    generalize tell l D f = fl at *
    generalize tell r D fl = fr at *
    clear hd hd' hm hm' hl hr hL hk hD hs
    go_enter Try.func70, Try.ntmps70
    go_wp2_with fail
    refine H1.out.mono ?_
    rintro e w1 ⟨⟨v1, rfl⟩, o1, t1⟩
    have hk1 : w1.heap[k]? = some (nodeC (-1) (ptN kl) (ptN kr) o p) := HT.out w1 t1 k _ HK.out
    have hc2 : w1.cell? ⟨k, 2, none⟩ = some (.pointer (some ⟨kr, 0, none⟩)) := by unfold nodeC ptN at hk1; simp [World.cell?, hk1]
    have H3 : Hid (Calls Try.prog 70 #[.pointer (some ⟨kr, 0, none⟩), .int .i64 (D : Int), .slice (some ⟨B, 0, none⟩) n c] w1 (TellEnd B n fr w1)) := H2.out w1 (HR.out.kept (HT.out w1 t1)) o1
    have HT1 : Hid (Turned B w w1) := t1
    clear hk1 t1 o1 H1 H2 hc0 hc1 HT HR HK
    go_wp2_with fail
    refine H3.out.mono ?_
    rintro e w2 ⟨⟨v2, rfl⟩, o2, t2⟩
    have HF : Hid (∀ v, TellEnd B n fr w (.returned v) w2) := fun v => ⟨⟨v, rfl⟩, o2, HT1.out.trans t2⟩
    clear o2 t2 HT1 H3 hc2
    go_wp2_with fail
    go_end0
    exact HF.out _
end Go.Proofs.Ytcolgcddhchkhaa
