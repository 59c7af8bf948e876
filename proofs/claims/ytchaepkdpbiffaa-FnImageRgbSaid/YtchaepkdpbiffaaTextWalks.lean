/- The drawn text: whatever the code, some text of a bounded size; nothing but the reader turns. -/
import Derived.Test.YtchaepkdpbiffaaRdWalks
import Derived.Test.YtchaepkdpbiffaaStrWalks
namespace Go.Proofs.Ytchaepkdpbiffaa
open Go.RowKit

theorem RdAt.lt {w : World} {B p : Nat} (h : RdAt w B p) : B < w.heap.size := by
  obtain ⟨a, len, cap, h0, _⟩ := h
  exact World.block_lt_of_cell? _ _ h0

theorem RdAt.kept {w w' : World} {B p : Nat} (h : RdAt w B p) (hb : Below (B + 1) w w') : RdAt w' B p := by
  obtain ⟨a, len, cap, h0, h1, hf, hl, hr⟩ := h
  refine ⟨a, len, cap, (hb.cell (p := ⟨B, 0, none⟩) (by show B < B + 1; omega)).trans h0, (hb.cell (p := ⟨B, 1, none⟩) (by show B < B + 1; omega)).trans h1, (hb.frozen (p := ⟨B, 1, none⟩) (by show B < B + 1; omega)).trans hf, hl, ?_⟩
  rcases hr with h | ⟨b, off, rfl, hbB, hc⟩
  · exact .inl h
  · refine .inr ⟨b, off, rfl, hbB, fun i hi => ?_⟩
    obtain ⟨c, hc1, hc2⟩ := hc i hi
    exact ⟨c, hc1, (hb.cell (p := ⟨b, off + i, none⟩) (by show b < B + 1; omega)).trans hc2⟩

theorem RdAt.alloc {w : World} {B p : Nat} (h : RdAt w B p) (o : Obj) : RdAt (w.alloc o) B p :=
  h.kept ((Below.refl _ _).alloc h.lt o)

theorem RdAt.drew {w : World} {B p : Nat} (h : RdAt w B p) : RdAt w.drew B p := h.kept (Below.refl _ _).drew

/-- nothing that was there has turned but block B -/
structure Only (B : Nat) (w w' : World) : Prop where
  below : Below B w w'
  rest : ∀ k, k < w.heap.size → k ≠ B → w'.heap[k]? = w.heap[k]?

theorem Only.refl (B : Nat) (w : World) : Only B w w := ⟨Below.refl _ _, fun _ _ _ => rfl⟩
theorem Only.trans {B : Nat} {a b c : World} (h : Only B a b) (g : Only B b c) : Only B a c :=
  ⟨h.below.trans g.below, fun k hk hB => (g.rest k (Nat.lt_of_lt_of_le hk h.below.size) hB).trans (h.rest k hk hB)⟩
theorem Only.alloc {B : Nat} {a b : World} (h : Only B a b) (hB : B < b.heap.size) (o : Obj) : Only B a (b.alloc o) :=
  ⟨h.below.alloc (Nat.le_of_lt hB) o, fun k hk hkB => (Below.heap_alloc b o k (Nat.lt_of_lt_of_le hk h.below.size)).trans (h.rest k hk hkB)⟩
theorem Only.cell {B : Nat} {w w' : World} (h : Only B w w') : ∀ k o, k < w.heap.size → k ≠ B → w'.cell? ⟨k, o, none⟩ = w.cell? ⟨k, o, none⟩ :=
  fun k o hk hB => World.cell?_of_block (w := w) (a := ⟨k, o, none⟩) (h.rest k hk hB)

/-- what a pick leaves -/
theorem step_only (w : World) (B : Nat) (v : Value) (m : Nat) : Only B w ((w.setCell ⟨B, 1, none⟩ v).drewN m) :=
  ⟨below_drewN ((Below.refl B w).setCell (p := ⟨B, 1, none⟩) (Nat.le_refl _) _) _, fun k _ hk => Below.heap_setCell w ⟨B, 1, none⟩ v k hk⟩

end Go.Proofs.Ytchaepkdpbiffaa
