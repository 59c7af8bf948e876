/- A coloured picture, each point of which is told without its density. -/
import Derived.Test.YtchaepkdpbiffaaColSeen
namespace Go.Proofs.Ytchaepkdpbiffaa
open Go.RowKit

set_option maxHeartbeats 400000 in
theorem bare_any (c : Nat) (w : World) (hc : c ≤ 4294967295) :
    Calls Try.prog 32 #[.int .i64 (c : Int)] w fun e w' => e = .returned (.int .i64 ((c : Int) / 256)) ∧ w' = w := by
  go_enter Try.func32, Try.ntmps32
  go_wp2_with fail
  go_ret
  exact ⟨rfl, rfl⟩

theorem nest_ma (V : Value) (w : World) : (method 200 54 (.agg #[.iface 54 V, .func (.func 32) #[] #[]]) "loop.example/intarsia/impl.at").run Try.prog w = .ok (89, (.agg #[.iface 54 V, .func (.func 32) #[] #[]])) w := by kernel_rfl
theorem nest_na (V : Value) (w : World) : (nilAhead 200 54 (.agg #[.iface 54 V, .func (.func 32) #[] #[]]) "loop.example/intarsia/impl.at").run Try.prog w = .ok (some false) w := by kernel_rfl

/-- the size of what is told otherwise is that of what lies beneath -/
def Nest (V : Value) (fs : Nat) (rs : Value) : Prop := (∀ w, (method 200 54 (.agg #[.iface 54 V, .func (.func 32) #[] #[]]) "loop.example/intarsia/impl.size").run Try.prog w = .ok (fs, rs) w) ∧ ∀ w, (nilAhead 200 54 (.agg #[.iface 54 V, .func (.func 32) #[] #[]]) "loop.example/intarsia/impl.size").run Try.prog w = .ok (some false) w

set_option maxHeartbeats 2000000 in
set_option maxRecDepth 20000 in
theorem nest_at (V : Value) (fa : Nat) (ra : Value) (x y : Int) (v : Nat) (w : World) (m1 : ∀ w, (method 200 54 V "loop.example/intarsia/impl.at").run Try.prog w = .ok (fa, ra) w) (_m2 : ∀ w, (nilAhead 200 54 V "loop.example/intarsia/impl.at").run Try.prog w = .ok (some false) w)
    (ea : ∀ args w', (callFunc fa args).run Try.prog w' = .ok (.enter fa args) w') (hv : v ≤ 4294967295)
    (hat : ∀ w', Below w.heap.size w w' → Calls Try.prog fa #[ra, .int .i64 x, .int .i64 y] w' fun e w'' => e = .returned (.int .i64 (v : Int)) ∧ Below w'.heap.size w' w'') :
    Calls Try.prog 89 #[(.agg #[.iface 54 V, .func (.func 32) #[] #[]]), .int .i64 x, .int .i64 y] w fun e w' => e = .returned (.int .i64 ((v : Int) / 256)) ∧ Below w.heap.size w w' := by
  have HAT : Hid (∀ w', Below w.heap.size w w' → Calls Try.prog fa #[ra, .int .i64 x, .int .i64 y] w' fun e w'' => e = .returned (.int .i64 (v : Int)) ∧ Below w'.heap.size w' w'') := hat
  have HFN : Hid (∀ w', Calls Try.prog 32 #[.int .i64 (v : Int)] w' fun e w'' => e = .returned (.int .i64 ((v : Int) / 256)) ∧ w'' = w') := fun w' => bare_any v w' hv
  clear hat hv
  have hB0 : Below w.heap.size w (w.alloc (.cells #[.iface 54 V, .func (.func 32) #[] #[]] 54)) := (Below.refl _ _).alloc (Nat.le_refl _) _
  have b0 : (w.alloc (.cells #[.iface 54 V, .func (.func 32) #[] #[]] 54)).cell? ⟨w.heap.size, 0, none⟩ = some (.iface 54 V) := by rw [World.cell?_alloc_at _ _ _ _ rfl]; rfl
  have b1 : (w.alloc (.cells #[.iface 54 V, .func (.func 32) #[] #[]] 54)).cell? ⟨w.heap.size, 1, none⟩ = some (.func (.func 32) #[] #[]) := by rw [World.cell?_alloc_at _ _ _ _ rfl]; rfl
  generalize hv : (v : Int) / 256 = u at *
  clear hv
  go_enter Try.func89, Try.ntmps89
  go_wp2_with fail
  go_region_held3 (fun w' => w'.cell? ⟨w.heap.size, 0, none⟩ = some (.iface 54 V) ∧ w'.cell? ⟨w.heap.size, 1, none⟩ = some (.func (.func 32) #[] #[])) (go_keep) (first | (go_at_call 32; refine (HFN.out _).mono ?_; rintro e w3 ⟨rfl, rfl⟩) | (refine (HAT.out _ hB0.drew).mono ?_; rintro e w2 ⟨rfl, b2⟩; have bw2 : Below w.heap.size w w2 := hB0.trans ((box_drew b2).mono (by simp)); have hlt : w.heap.size < (w.alloc (.cells #[.iface 54 V, .func (.func 32) #[] #[]] 54)).heap.size := (by simp); have c0 := ((box_drew b2).cell (p := ⟨w.heap.size, 0, none⟩) hlt).trans b0; have c1 := ((box_drew b2).cell (p := ⟨w.heap.size, 1, none⟩) hlt).trans b1))
  all_goals
    clear b2
    go_wp2_with fail
    go_ret
    exact ⟨rfl, bw2⟩

theorem nest_seen (V : Value) (fs : Nat) (rs : Value) (fa : Nat) (ra : Value) (Wd Hi : Nat) (f : Nat → Nat → Int) (w : World) (S : Seen 54 V fs rs fa ra Wd Hi f w.heap.size w) (hN : Nest V fs rs) (hf : ∀ x y, x < Wd → y < Hi → ∃ v : Nat, f x y = (v : Int) ∧ v ≤ 4294967295) :
    Seen 54 (.agg #[.iface 54 V, .func (.func 32) #[] #[]]) fs rs 89 (.agg #[.iface 54 V, .func (.func 32) #[] #[]]) Wd Hi (fun x y => f x y / 256) w.heap.size w where
  ms := hN.1
  ns := hN.2
  ma := nest_ma V
  na := nest_na V
  es := S.es
  ea := enters_of Try.func89 (by kernel_rfl) rfl
  size := S.size
  at' := fun w' x y hx hy b => by
    obtain ⟨v, hv, hvb⟩ := hf x y hx hy
    show Calls _ _ _ _ fun e w'' => e = .returned (.int .i64 (f x y / 256)) ∧ _
    rw [hv]
    refine nest_at V fa ra x y v w' S.ma S.na S.ea hvb (fun w'' b' => ?_)
    have := S.at' w'' x y hx hy (b.trans (b'.mono b.size))
    rw [hv] at this; exact this

theorem gray_nest (A B : Nat) (D Wd Hi : Nat) (ca : Option Addr) (cn cc : Nat) (pa : Option Addr) (pn pc : Nat) : Nest (.agg #[.iface 62 (.agg #[.int .i64 1, .int .i64 (D : Int), .int .i64 (Wd : Int), .int .i64 (Hi : Int), .slice ca cn cc, .slice pa pn pc]), .func (.func 70) #[] #[.pointer (some ⟨A, 0, none⟩), .pointer (some ⟨B, 0, none⟩)]]) 91 (.agg #[.int .i64 1, .int .i64 (D : Int), .int .i64 (Wd : Int), .int .i64 (Hi : Int), .slice ca cn cc, .slice pa pn pc]) :=
  ⟨fun w => by kernel_rfl, fun w => by kernel_rfl⟩
theorem pal_nest (A B : Nat) (D Wd Hi : Nat) (ca : Option Addr) (cn cc : Nat) (pa : Option Addr) (pn pc : Nat) : Nest (.agg #[.iface 62 (.agg #[.int .i64 4, .int .i64 (D : Int), .int .i64 (Wd : Int), .int .i64 (Hi : Int), .slice ca cn cc, .slice pa pn pc]), .func (.func 71) #[] #[.pointer (some ⟨A, 0, none⟩), .pointer (some ⟨B, 0, none⟩)]]) 91 (.agg #[.int .i64 4, .int .i64 (D : Int), .int .i64 (Wd : Int), .int .i64 (Hi : Int), .slice ca cn cc, .slice pa pn pc]) :=
  ⟨fun w => by kernel_rfl, fun w => by kernel_rfl⟩
theorem rgb_nest (D Wd Hi : Nat) (ca : Option Addr) (cn cc : Nat) (pa : Option Addr) (pn pc : Nat) : Nest (.agg #[.iface 62 (.agg #[.int .i64 2, .int .i64 (D : Int), .int .i64 (Wd : Int), .int .i64 (Hi : Int), .slice ca cn cc, .slice pa pn pc]), .func (.func 69) #[] #[]]) 91 (.agg #[.int .i64 2, .int .i64 (D : Int), .int .i64 (Wd : Int), .int .i64 (Hi : Int), .slice ca cn cc, .slice pa pn pc]) :=
  ⟨fun w => by kernel_rfl, fun w => by kernel_rfl⟩
theorem rgba_nest (D Wd Hi : Nat) (ca : Option Addr) (cn cc : Nat) (pa : Option Addr) (pn pc : Nat) : Nest (.agg #[.iface 62 (.agg #[.int .i64 3, .int .i64 (D : Int), .int .i64 (Wd : Int), .int .i64 (Hi : Int), .slice ca cn cc, .slice pa pn pc]), .func (.func 72) #[] #[]]) 91 (.agg #[.int .i64 3, .int .i64 (D : Int), .int .i64 (Wd : Int), .int .i64 (Hi : Int), .slice ca cn cc, .slice pa pn pc]) :=
  ⟨fun w => by kernel_rfl, fun w => by kernel_rfl⟩

theorem colored_nest (k : Int) (D Wd Hi : Nat) (ca : Option Addr) (cn cc : Nat) (pa : Option Addr) (pn pc : Nat) (cs ps : List Int) (w : World) (hok : Im.Ok k (D : Int) (Wd : Int) (Hi : Int) cs ps) (hc : Ints w ca cs) (hcn : cs.length = cn) (hp : Ints w pa ps) (hpn : ps.length = pn) (hW : Wd ≤ 20) (hH : Hi ≤ 20) (hm : pn = Wd * Hi) :
    Calls Try.prog 31 #[.agg #[.int .i64 k, .int .i64 (D : Int), .int .i64 (Wd : Int), .int .i64 (Hi : Int), .slice ca cn cc, .slice pa pn pc]] w fun e w' => (∃ V fs rs fa ra, e = .returned (.iface 54 V) ∧ Nest V fs rs ∧ Seen 54 V fs rs fa ra Wd Hi (colF k D cs Wd ps) w'.heap.size w') ∧ Below w.heap.size w w' := by
  rcases Im.kinds hok.1 with ⟨rfl, hD⟩ | ⟨rfl, hD⟩ | ⟨rfl, hD⟩ | ⟨rfl, hD⟩
  · refine (colored_gray D (Wd : Int) (Hi : Int) ca cn cc pa pn pc w hD).mono ?_
    rintro e w' ⟨⟨A, B, rfl, hA, hB, hA2, hB2⟩, b⟩
    exact ⟨⟨_, _, _, _, _, rfl, gray_nest A B D Wd Hi ca cn cc pa pn pc, gray_cseen A B D Wd Hi ca cn cc pa pn pc cs ps w' hok hA hB hA2 hB2 (hp.kept b) hpn hW hH hm⟩, b⟩
  · refine (colored_rgb (D : Int) (Wd : Int) (Hi : Int) ca cn cc pa pn pc w).mono ?_
    rintro e w' ⟨rfl, b⟩
    exact ⟨⟨_, _, _, _, _, rfl, rgb_nest D Wd Hi ca cn cc pa pn pc, rgb_cseen D Wd Hi ca cn cc pa pn pc cs ps w' hok (hp.kept b) hpn hW hH hm⟩, b⟩
  · refine (colored_rgba (D : Int) (Wd : Int) (Hi : Int) ca cn cc pa pn pc w).mono ?_
    rintro e w' ⟨rfl, b⟩
    exact ⟨⟨_, _, _, _, _, rfl, rgba_nest D Wd Hi ca cn cc pa pn pc, rgba_cseen D Wd Hi ca cn cc pa pn pc cs ps w' hok (hp.kept b) hpn hW hH hm⟩, b⟩
  · refine (colored_pal (D : Int) (Wd : Int) (Hi : Int) ca cn cc pa pn pc w).mono ?_
    rintro e w' ⟨⟨A, B, rfl, hA, hB, hA2, hB2⟩, b⟩
    exact ⟨⟨_, _, _, _, _, rfl, pal_nest A B D Wd Hi ca cn cc pa pn pc, pal_cseen A B D Wd Hi ca cn cc pa pn pc cs ps w' hok hA hB hA2 hB2 (hc.kept b) hcn (hp.kept b) hpn hW hH hm⟩, b⟩
end Go.Proofs.Ytchaepkdpbiffaa
