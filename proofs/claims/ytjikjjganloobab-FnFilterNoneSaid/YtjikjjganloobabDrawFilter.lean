/- A kind, two rows and a step, drawn. -/
import Derived.Test.YtjikjjganloobabDrawWalks
namespace Go.Proofs.Ytjikjjganloobab
open Go.RowKit

theorem duo (w : World) (x y : Int) (v : Nat) (hx1 : -1 ≤ x) (hx2 : x ≤ 5) (hy1 : -1 ≤ y) (hy2 : y ≤ 5) (hv : (v : Int) < 2) : ∃ z : Int, -1 ≤ z ∧ z ≤ 5 ∧ (w.alloc (.cells #[.int .i64 x, .int .i64 y] 3)).cell? ⟨w.heap.size, v, none⟩ = some (.int .i64 z) := by
  have h : v = 0 ∨ v = 1 := by omega
  rcases h with rfl | rfl
  · exact ⟨x, hx1, hx2, by rw [World.cell?_alloc_at _ _ _ _ rfl]; rfl⟩
  · exact ⟨y, hy1, hy2, by rw [World.cell?_alloc_at _ _ _ _ rfl]; rfl⟩

set_option maxHeartbeats 2000000 in
set_option maxRecDepth 20000 in
theorem l14Filter_any (B p : Nat) (w : World) (hr : RdAt w B p) (hp : p ≤ 100) :
    Calls Try.prog 30 #[.pointer (some ⟨B, 0, none⟩)] w fun e w' => (∃ (kind : Int) (s t : ByteArray) (step : Int), e = .returned (.tuple #[.int .i64 kind, .string s, .string t, .int .i64 step]) ∧ s.size ≤ 9001 ∧ t.size ≤ 9002 ∧ -1 ≤ kind ∧ kind ≤ 5 ∧ -1 ≤ step ∧ step ≤ 5) ∧ Only B w w' := by
  go_enter Try.func30, Try.ntmps30
  go_wp2_with fail
  refine (text_any B p w hr (by omega)).mono ?_
  rintro e w1 ⟨⟨s, rfl, hs⟩, ⟨q, hq, hR1⟩, hO1⟩
  clear hr
  go_wp2_with fail
  refine (pick_named B q 3 _ hR1 (by omega) (by omega) (by omega)).mono ?_
  rintro e w2 ⟨v, rfl, hv, hR2, hO2, hs2⟩
  have HR9 : Hid (RdAt w2 B (q + 1)) := hR2
  have HO9 : Hid (Only B w w2) := hO1.trans hO2
  clear hR1 hO1 hR2 hO2 hs2
  by_cases hv0 : v = 0
  · subst hv0
    go_wp2_with fail
    refine (pick_named B (q + 1) 5 _ HR9.out (by omega) (by omega) (by omega)).mono ?_
    rintro e x1 ⟨kd, rfl, hkd, hRa, hOa, hsa⟩
    have HO1 : Hid (Only B w x1) := HO9.out.trans hOa
    have HR1 : Hid (RdAt x1 B _) := hRa
    clear HR9 HO9 hRa hOa hsa
    go_wp2_with fail
    refine (pick_named B _ 4 _ HR1.out (by omega) (by omega) (by omega)).mono ?_
    rintro e x2 ⟨st, rfl, hst, hRb, hOb, hsb⟩
    have HO2 : Hid (Only B w x2) := HO1.out.trans hOb
    have HR2 : Hid (RdAt x2 B _) := hRb
    clear HR1 HO1 hRb hOb hsb
    go_wp2_with fail
    refine (pick_named B _ 16 _ HR2.out (by omega) (by omega) (by omega)).mono ?_
    rintro e x3 ⟨u, rfl, hu, hRc, hOc, hsc⟩
    have HO3 : Hid (Only B w x3) := HO2.out.trans hOc
    have HR3 : Hid (RdAt x3 B _) := hRc
    have hB3 : B < x3.heap.size := hRc.lt
    clear HR2 HO2 hRc hOc hsc
    by_cases hu0 : u = 0
    · subst hu0
      have HR5 : Hid (RdAt _ B _) := HR3.out.alloc (.cells #[.int .i64 (-1), .int .i64 5] 3)
      have HO5 : Hid (Only B w (x3.alloc (.cells #[.int .i64 (-1), .int .i64 5] 3))) := HO3.out.alloc hB3 _
      clear HR3 HO3
      go_wp2_with fail
      refine (pick_named B _ 2 _ HR5.out (by omega) (by omega) (by omega)).mono ?_
      rintro e x6 ⟨v2, rfl, hv2, hR6, hO6, hs6⟩
      obtain ⟨z, hz1, hz2, hcc⟩ := duo x3 (-1) 5 v2 (by omega) (by omega) (by omega) (by omega) hv2
      have hc6 : x6.cell? ⟨x3.heap.size, v2, none⟩ = some (.int .i64 z) := (hO6.cell x3.heap.size v2 (by simp) (by omega)).trans hcc
      have HF : Hid (Only B w x6) := HO5.out.trans hO6
      clear HR5 HO5 hR6 hO6 hs6 hcc
      go_wp2_with fail
      exact bodyPost_ret (v := .tuple #[.int .i64 z, .string s, .string (⟨#[]⟩ : ByteArray), .int .i64 (1 + (st : Int))]) (by simp [results, Try.results30, go_sem]) rfl ⟨⟨z, s, (⟨#[]⟩ : ByteArray), 1 + (st : Int), rfl, hs, (by show 0 ≤ 9002; omega), by omega, by omega, by omega, by omega⟩, HF.out⟩
    · have hui : ((u : Int) == 0) = false := by simp; omega
      by_cases hu1 : u = 1
      · subst hu1
        have HR5 : Hid (RdAt _ B _) := HR3.out.alloc (.cells #[.int .i64 0, .int .i64 5] 3)
        have HO5 : Hid (Only B w (x3.alloc (.cells #[.int .i64 0, .int .i64 5] 3))) := HO3.out.alloc hB3 _
        clear HR3 HO3
        go_wp2_with fail
        refine (pick_named B _ 2 _ HR5.out (by omega) (by omega) (by omega)).mono ?_
        rintro e x6 ⟨v2, rfl, hv2, hR6, hO6, hs6⟩
        obtain ⟨z, hz1, hz2, hcc⟩ := duo x3 0 5 v2 (by omega) (by omega) (by omega) (by omega) hv2
        have hc6 : x6.cell? ⟨x3.heap.size, v2, none⟩ = some (.int .i64 z) := (hO6.cell x3.heap.size v2 (by simp) (by omega)).trans hcc
        have HF : Hid (Only B w x6) := HO5.out.trans hO6
        clear HR5 HO5 hR6 hO6 hs6 hcc
        go_wp2_with fail
        exact bodyPost_ret (v := .tuple #[.int .i64 (kd : Int), .string s, .string (⟨#[]⟩ : ByteArray), .int .i64 z]) (by simp [results, Try.results30, go_sem]) rfl ⟨⟨(kd : Int), s, (⟨#[]⟩ : ByteArray), z, rfl, hs, (by show 0 ≤ 9002; omega), by omega, by omega, by omega, by omega⟩, HF.out⟩
      · have hui1 : ((u : Int) == 1) = false := by simp; omega
        by_cases hu2 : u = 2
        · subst hu2
          go_wp2_with fail
          exact bodyPost_ret (v := .tuple #[.int .i64 (kd : Int), .string s, .string ((⟨#[]⟩ : ByteArray) ++ ⟨#[120]⟩), .int .i64 (1 + (st : Int))]) (by simp [results, Try.results30, go_sem]) rfl ⟨⟨(kd : Int), s, (⟨#[]⟩ : ByteArray) ++ ⟨#[120]⟩, 1 + (st : Int), rfl, hs, by rw [ByteArray.size_append]; have : (⟨#[]⟩ : ByteArray).size ≤ 9001 := (by show 0 ≤ 9001; omega); show (⟨#[]⟩ : ByteArray).size + 1 ≤ 9002; omega, by omega, by omega, by omega, by omega⟩, HO3.out⟩
        · have hui2 : ((u : Int) == 2) = false := by simp; omega
          go_wp2_with fail
          exact bodyPost_ret (v := .tuple #[.int .i64 (kd : Int), .string s, .string (⟨#[]⟩ : ByteArray), .int .i64 (1 + (st : Int))]) (by simp [results, Try.results30, go_sem]) rfl ⟨⟨(kd : Int), s, (⟨#[]⟩ : ByteArray), 1 + (st : Int), rfl, hs, (by show 0 ≤ 9002; omega), by omega, by omega, by omega, by omega⟩, HO3.out⟩
  · have hvn : 0 < v := by omega
    obtain ⟨n, hn⟩ : ∃ n, n = s.size := ⟨_, rfl⟩
    have hni : (s.size : Int) = (n : Int) := by omega
    have hnb : n ≤ 9001 := by omega
    clear hn
    go_wp2_with fail
    go_loopw [7, 8] (fun o i wr => ∃ (k : Nat) (t : ByteArray), k ≤ n ∧ i = .int .i64 k ∧ o = .string t ∧ t.size = k ∧ RdAt wr B (q + 1 + k) ∧ Only B w wr) (fun _ i _ => n - (intOf i).toNat)
    case atStart => exact ⟨0, ⟨#[]⟩, Nat.zero_le _, rfl, rfl, rfl, HR9.out, HO9.out⟩
    case round =>
      obtain ⟨k, t, hk, rfl, rfl, ht, hR, hO⟩ := hrel
      have HT : Hid (t.size = k) := ht
      have htb : t.size ≤ 9001 := by omega
      clear HR9 HO9 ht
      by_cases hlt : k < n
      · have hki : (k : Int) < (n : Int) := by omega
        go_wp2_with fail
        refine (pick_named B (q + 1 + k) 256 _ hR (by omega) (by omega) (by omega)).mono ?_
        rintro e w6 ⟨u, rfl, hu, hR6, hO6, hs6⟩
        have hO7 := hO.trans hO6
        clear hO hO6 hs6 hR
        have htx := run_text1 w6 u w6.heap.size rfl
        go_wp2_with fail
        go_roundw
        case rel => exact ⟨k + 1, _, by omega, by go_num, rfl, by rw [ByteArray.size_append, HT.out]; rfl, hR6.alloc _, hO7.alloc hR6.lt _⟩
        case measure => simp [intOf]; omega
      · have hk' : k = n := by omega
        subst hk'
        have HR9 : Hid (RdAt wr B (q + 1 + k)) := hR
        have HO9 : Hid (Only B w wr) := hO
        have hlt' : ¬ (k : Int) < (k : Int) := by omega
        clear hR hO
        go_wp2_with fail
        refine (pick_named B (q + 1 + k) 5 _ HR9.out (by omega) (by omega) (by omega)).mono ?_
        rintro e x1 ⟨kd, rfl, hkd, hRa, hOa, hsa⟩
        have HO1 : Hid (Only B w x1) := HO9.out.trans hOa
        have HR1 : Hid (RdAt x1 B _) := hRa
        clear HR9 HO9 hRa hOa hsa
        go_wp2_with fail
        refine (pick_named B _ 4 _ HR1.out (by omega) (by omega) (by omega)).mono ?_
        rintro e x2 ⟨st, rfl, hst, hRb, hOb, hsb⟩
        have HO2 : Hid (Only B w x2) := HO1.out.trans hOb
        have HR2 : Hid (RdAt x2 B _) := hRb
        clear HR1 HO1 hRb hOb hsb
        go_wp2_with fail
        refine (pick_named B _ 16 _ HR2.out (by omega) (by omega) (by omega)).mono ?_
        rintro e x3 ⟨u, rfl, hu, hRc, hOc, hsc⟩
        have HO3 : Hid (Only B w x3) := HO2.out.trans hOc
        have HR3 : Hid (RdAt x3 B _) := hRc
        have hB3 : B < x3.heap.size := hRc.lt
        clear HR2 HO2 hRc hOc hsc
        by_cases hu0 : u = 0
        · subst hu0
          have HR5 : Hid (RdAt _ B _) := HR3.out.alloc (.cells #[.int .i64 (-1), .int .i64 5] 3)
          have HO5 : Hid (Only B w (x3.alloc (.cells #[.int .i64 (-1), .int .i64 5] 3))) := HO3.out.alloc hB3 _
          clear HR3 HO3
          go_wp2_with fail
          refine (pick_named B _ 2 _ HR5.out (by omega) (by omega) (by omega)).mono ?_
          rintro e x6 ⟨v2, rfl, hv2, hR6, hO6, hs6⟩
          obtain ⟨z, hz1, hz2, hcc⟩ := duo x3 (-1) 5 v2 (by omega) (by omega) (by omega) (by omega) hv2
          have hc6 : x6.cell? ⟨x3.heap.size, v2, none⟩ = some (.int .i64 z) := (hO6.cell x3.heap.size v2 (by simp) (by omega)).trans hcc
          have HF : Hid (Only B w x6) := HO5.out.trans hO6
          clear HR5 HO5 hR6 hO6 hs6 hcc
          go_wp2_with fail
          exact bodyPost_ret (v := .tuple #[.int .i64 z, .string s, .string t, .int .i64 (1 + (st : Int))]) (by simp [results, Try.results30, go_sem]) rfl ⟨⟨z, s, t, 1 + (st : Int), rfl, hs, (by omega), by omega, by omega, by omega, by omega⟩, HF.out⟩
        · have hui : ((u : Int) == 0) = false := by simp; omega
          by_cases hu1 : u = 1
          · subst hu1
            have HR5 : Hid (RdAt _ B _) := HR3.out.alloc (.cells #[.int .i64 0, .int .i64 5] 3)
            have HO5 : Hid (Only B w (x3.alloc (.cells #[.int .i64 0, .int .i64 5] 3))) := HO3.out.alloc hB3 _
            clear HR3 HO3
            go_wp2_with fail
            refine (pick_named B _ 2 _ HR5.out (by omega) (by omega) (by omega)).mono ?_
            rintro e x6 ⟨v2, rfl, hv2, hR6, hO6, hs6⟩
            obtain ⟨z, hz1, hz2, hcc⟩ := duo x3 0 5 v2 (by omega) (by omega) (by omega) (by omega) hv2
            have hc6 : x6.cell? ⟨x3.heap.size, v2, none⟩ = some (.int .i64 z) := (hO6.cell x3.heap.size v2 (by simp) (by omega)).trans hcc
            have HF : Hid (Only B w x6) := HO5.out.trans hO6
            clear HR5 HO5 hR6 hO6 hs6 hcc
            go_wp2_with fail
            exact bodyPost_ret (v := .tuple #[.int .i64 (kd : Int), .string s, .string t, .int .i64 z]) (by simp [results, Try.results30, go_sem]) rfl ⟨⟨(kd : Int), s, t, z, rfl, hs, (by omega), by omega, by omega, by omega, by omega⟩, HF.out⟩
          · have hui1 : ((u : Int) == 1) = false := by simp; omega
            by_cases hu2 : u = 2
            · subst hu2
              go_wp2_with fail
              exact bodyPost_ret (v := .tuple #[.int .i64 (kd : Int), .string s, .string (t ++ ⟨#[120]⟩), .int .i64 (1 + (st : Int))]) (by simp [results, Try.results30, go_sem]) rfl ⟨⟨(kd : Int), s, t ++ ⟨#[120]⟩, 1 + (st : Int), rfl, hs, by rw [ByteArray.size_append]; have : t.size ≤ 9001 := htb; show t.size + 1 ≤ 9002; omega, by omega, by omega, by omega, by omega⟩, HO3.out⟩
            · have hui2 : ((u : Int) == 2) = false := by simp; omega
              go_wp2_with fail
              exact bodyPost_ret (v := .tuple #[.int .i64 (kd : Int), .string s, .string t, .int .i64 (1 + (st : Int))]) (by simp [results, Try.results30, go_sem]) rfl ⟨⟨(kd : Int), s, t, 1 + (st : Int), rfl, hs, (by omega), by omega, by omega, by omega, by omega⟩, HO3.out⟩

set_option maxHeartbeats 400000 in
theorem drawFilterGet_any (a : Option Addr) (len cap : Nat) (w : World) (h : Code8 w a len cap) :
    Calls Try.prog 9 #[.slice a len cap] w fun e w' => (∃ (kind : Int) (s t : ByteArray) (step : Int), e = .returned (.tuple #[.int .i64 kind, .string s, .string t, .int .i64 step]) ∧ s.size ≤ 9001 ∧ t.size ≤ 9002 ∧ -1 ≤ kind ∧ kind ≤ 5 ∧ -1 ≤ step ∧ step ≤ 5) ∧ Below w.heap.size w w' := by
  go_enter Try.func9, Try.ntmps9
  go_wp2_with fail
  refine (open_any a len cap w h).mono ?_
  rintro e w1 ⟨rfl, hR, bel⟩
  clear h
  go_wp2_with fail
  refine (l14Filter_any w.heap.size 0 w1 hR (by omega)).mono ?_
  rintro e w2 ⟨⟨kind, s, t, step, rfl, hs, ht, h1, h2, h3, h4⟩, hO⟩
  have bel2 := bel.trans hO.below
  clear bel hO hR
  go_wp2_with fail
  exact bodyPost_ret (v := .tuple #[.int .i64 kind, .string s, .string t, .int .i64 step]) (by simp [results, Try.results9, go_sem]) rfl ⟨⟨kind, s, t, step, rfl, hs, ht, h1, h2, h3, h4⟩, bel2⟩
end Go.Proofs.Ytjikjjganloobab
