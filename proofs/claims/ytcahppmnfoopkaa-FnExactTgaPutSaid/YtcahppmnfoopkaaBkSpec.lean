/- BlocksPut of the specification. -/
import Derived.Test.YtcahppmnfoopkaaBkMath
import Derived.Test.YtcahppmnfoopkaaStrWalks
namespace Go.Proofs.Ytcahppmnfoopkaa
open Go.RowKit

theorem str_mid (q p : List UInt8) (c : UInt8) : (ByteArray.mk q.toArray ++ ByteArray.mk #[c] ++ ByteArray.mk p.toArray) = ByteArray.mk (q ++ c :: p).toArray := by
  rw [show (ByteArray.mk #[c]) = ByteArray.mk [c].toArray from rfl, ByteArray.mk_append_mk, ByteArray.mk_append_mk]
  simp
theorem str_end (q : List UInt8) (c : UInt8) : (ByteArray.mk q.toArray ++ ByteArray.mk #[c]) = ByteArray.mk (q ++ [c]).toArray := by
  rw [show (ByteArray.mk #[c]) = ByteArray.mk [c].toArray from rfl, ByteArray.mk_append_mk]

end Go.Proofs.Ytcahppmnfoopkaa
