/- The exact law of ImageRgb, at every picture. -/
import Derived.Test.YtchaepkdpbiffaaCoreImageRgb
import Derived.Test.YtchaepkdpbiffaaTopRgb
namespace Go.Proofs.Ytchaepkdpbiffaa
open Go.RowKit

set_option maxHeartbeats 1000000 in
theorem exImageRgb (k d wd hi : Int) (ca : Option Addr) (cn cc : Nat) (pa : Option Addr) (pn pc : Nat) (w : World) (hc : Row64 w ca cn cc) (hp : Row64 w pa pn pc) :
    Calls Try.prog 6 #[.agg #[.int .i64 k, .int .i64 d, .int .i64 wd, .int .i64 hi, .slice ca cn cc, .slice pa pn pc]] w fun e w' => e = .returned (.bool true) ∧ Below w.heap.size w w' := by
  obtain ⟨_, hcm, cs, hcn, hIc, _⟩ := hc
  obtain ⟨_, hpm, ps, hpn, hIp, _⟩ := hp
  unfold maxLen at hcm hpm
  have hB0 : Below w.heap.size w (w.alloc (.cells #[.int .i64 k, .int .i64 d, .int .i64 wd, .int .i64 hi, .slice ca cn cc, .slice pa pn pc] 38)) := (Below.refl _ _).alloc (Nat.le_refl _) _
  by_cases hbig : 1048576 < cn + pn
  · have HZ : Hid (Calls Try.prog 23 #[.agg #[.int .i64 k, .int .i64 d, .int .i64 wd, .int .i64 hi, .slice ca cn cc, .slice pa pn pc], .int .i64 1048576] (w.alloc (.cells #[.int .i64 k, .int .i64 d, .int .i64 wd, .int .i64 hi, .slice ca cn cc, .slice pa pn pc] 38)) fun e w' => e = .returned (.int .i64 (-1)) ∧ Below (w.alloc (.cells #[.int .i64 k, .int .i64 d, .int .i64 wd, .int .i64 hi, .slice ca cn cc, .slice pa pn pc] 38)).heap.size (w.alloc (.cells #[.int .i64 k, .int .i64 d, .int .i64 wd, .int .i64 hi, .slice ca cn cc, .slice pa pn pc] 38)) w') := szImage_big k d wd hi ca cn cc pa pn pc _ (by omega) (by omega) hbig
    clear hIc hIp hcn hpn
    go_enter Try.func6, Try.ntmps6
    go_wp2_with fail
    refine HZ.out.mono ?_
    rintro e w1 ⟨rfl, b1⟩
    have bel1 := hB0.trans (b1.mono (by simp))
    clear b1 HZ hB0
    go_wp2_with fail
    go_ret
    exact ⟨rfl, bel1⟩
  · refine exImageRgb_core k d wd hi ca cn cc pa pn pc (rgK k d wd hi cs ps 2) (rgK k d wd hi cs ps 24) (rgK k d wd hi cs ps wd) (rgK k d wd hi cs ps hi) (rgB k d wd hi cs ps) 0 (rgL k d wd hi cs ps).length cs ps [] (rgL k d wd hi cs ps) w hIc hIp hcn hpn (by omega) rfl rfl (by omega) (rgL_len k d wd hi cs ps) ?_ ?_
    · exact fun x y w' h1 h2 => spec_rgb k d wd hi x cn cn y pn pn cs ps w' h1 hcn (by omega) h2 hpn (by omega)
    · exact fun x y w' h1 h2 => impl_rgb k d wd hi x cn cn y pn pn cs ps w' h1 hcn (by omega) h2 hpn (by omega)
end Go.Proofs.Ytchaepkdpbiffaa
