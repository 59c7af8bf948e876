/- A text out of bytes that lie in memory. -/
import Derived.Test.YtjmeaeimpkijmaaGreatDoorProg
import Derived.Test.YtjmeaeimpkijmaaGreatDoorBase
import Derived.Laws.BytesString
namespace Go.Proofs.YtjmeaeimpkijmaaGreatDoor
open Go.RowKit

theorem push_all (ns : List Nat) : ∀ a : Array UInt8, (ns.map (fun n : Nat => (n : Int))).foldl (fun (r : ByteArray) (n : Int) => r.push (UInt8.ofNat n.toNat)) ⟨a⟩ = ⟨a ++ (ns.map UInt8.ofNat).toArray⟩ := by
  induction ns with
  | nil => intro a; simp
  | cons n ns ih =>
    intro a
    simp only [List.map_cons, List.foldl_cons]
    have e : (ByteArray.mk a).push (UInt8.ofNat (n : Int).toNat) = ⟨a.push (UInt8.ofNat n)⟩ := by rw [Int.toNat_natCast]; rfl
    rw [e, ih]
    simp

/-- the text of the bytes ns, which lie at a place -/
theorem run_text (w : World) (a : Addr) (cap : Nat) (ns : List Nat) (h : ∀ j v, (ns.map (fun n : Nat => Value.int .u8 (n : Int)))[j]? = some v → w.cell? (a.add j) = some v) :
    Sem.run Tryz.prog (convert 51 9 (.slice (some a) ns.length cap)) w = .ok (.string ⟨(ns.map UInt8.ofNat).toArray⟩) w := by
  rw [run_convert_bytes_string w 51 9 5 _ _ _ Tryz.underlying51 Tryz.underlying5 Tryz.underlying9]
  have hl := run_loadCells_list (P := Tryz.prog) w a (ns.map (fun n : Nat => Value.int .u8 (n : Int))) h
  rw [List.length_map] at hl
  rw [run_bytesToString w a ns.length cap (ns.map (fun n : Nat => (n : Int))) (by rw [hl]; congr 2; simp)]
  congr 2
  have h2 := push_all ns #[]
  rw [Array.empty_append] at h2
  exact h2

/-- the text of one byte, just laid -/
theorem run_text1 (w : World) (c : Nat) (b : Nat) (hb : b = w.heap.size) :
    Sem.run Tryz.prog (convert 51 9 (.slice (some ⟨b, 0, none⟩) 1 1)) (w.alloc (.cells #[.int .u8 (c : Int)] 5)) = .ok (.string ⟨#[UInt8.ofNat c]⟩) (w.alloc (.cells #[.int .u8 (c : Int)] 5)) := by
  subst hb
  refine run_text _ ⟨w.heap.size, 0, none⟩ 1 [c] ?_
  intro j v hj
  match j, hj with
  | 0, hj => simp at hj; subst hj; simp [Addr.add]

end Go.Proofs.YtjmeaeimpkijmaaGreatDoor
