/- All numbers of a text are read by the specification. -/
import Derived.Test.YtjfihmpnbblomaaLzOne
namespace Go.Proofs.Ytjfihmpnbblomaa
open Go.RowKit

/-- how far it is -/
structure SzGo (w : World) (B b : Nat) (wide : Bool) (s : ByteArray) (limit : Nat) (Rs : Except Int (List (Nat × ByteArray))) (dn : List (Nat × ByteArray)) (p : Nat) (l : List ByteArray) (last : ByteArray) (left f : Nat) (wr : World) : Prop where
  st : SzS w w.heap.size B b wide s limit p l last (textsOf dn) (codesOf dn) 0 wr
  good : Lz.Good b l last
  left_ : (textsOf dn).length + left = limit
  p_ : p ≤ 8 * s.size
  f_ : 8 * s.size + 1 ≤ p + f
  d_ : dn.length ≤ p
  rs : Rs = (Lz.go s b wide f p l last left).map (dn ++ ·)
/-- how it ends -/
def SzFin (w : World) (B b : Nat) (wide : Bool) (s : ByteArray) (limit : Nat) (Rs : Except Int (List (Nat × ByteArray))) (wr : World) : Prop :=
  ∃ p l last o cs c, SzS w w.heap.size B b wide s limit p l last o cs c wr ∧ ((∃ dn, Rs = .ok dn ∧ c = 0 ∧ o = textsOf dn ∧ cs = codesOf dn) ∨ (c ≠ 0 ∧ Rs = .error c))
def SzInv (w : World) (B b : Nat) (wide : Bool) (s : ByteArray) (limit : Nat) (Rs : Except Int (List (Nat × ByteArray))) (e : Value) (wr : World) : Prop :=
  (e = .bool false ∧ SzFin w B b wide s limit Rs wr) ∨ (e = .bool true ∧ ∃ dn p l last left f, SzGo w B b wide s limit Rs dn p l last left f wr)
def szMeas (B z : Nat) (e : Value) (wr : World) : Nat :=
  match e with
  | .bool false => 0
  | _ => match wr.cell? ⟨B, 4, none⟩ with
    | some (.int _ p) => 8 * z + 2 - p.toNat
    | _ => 0
theorem map_push (X : Except Int (List (Nat × ByteArray))) (dn : List (Nat × ByteArray)) (z : Nat × ByteArray) : (X.map (z :: ·)).map (dn ++ ·) = X.map ((dn ++ [z]) ++ ·) := by
  cases X <;> simp [Except.map]

/-- what l6All answers -/
def SzAll (w : World) (b : Nat) (wide : Bool) (s : ByteArray) (limit : Nat) (Rs : Except Int (List (Nat × ByteArray))) (e : Ending) (w' : World) : Prop :=
  ∃ B, e = .returned (.pointer (some ⟨B, 0, none⟩)) ∧ SzFin w B b wide s limit Rs w'

set_option maxHeartbeats 4000000 in
set_option maxRecDepth 20000 in
theorem l6All_any (b limit : Nat) (wide : Bool) (s : ByteArray) (Rs : Except Int (List (Nat × ByteArray))) (w : World) (hb : b ≤ 8) (hsz : s.size ≤ 9000) (hlim : limit ≤ 5000) (hRs : Rs = Lz.go s b wide (8 * s.size + 1) 0 (Lz.start b) ⟨#[]⟩ limit) :
    Calls Try.prog 33 #[.string s, .int .i64 (b : Int), .bool wide, .int .i64 (limit : Int)] w (SzAll w b wide s limit Rs) := by
  have HST : Hid (∀ w', Calls Try.prog 54 #[.int .i64 (b : Int)] w' fun e w'' => ∃ g cap, e = .returned (.slice (some ⟨g, 0, none⟩) (2 ^ b + 2) cap) ∧ OwnL w'' w'.heap.size (.slice (some ⟨g, 0, none⟩) (2 ^ b + 2) cap) (2 ^ b + 2) (Lz.start b) ∧ Below w'.heap.size w' w'') := fun w' => l6Start_any b hb w'
  have HRS : Hid (Rs = Lz.go s b wide (8 * s.size + 1) 0 (Lz.start b) ⟨#[]⟩ limit) := hRs
  clear hRs
  go_enter Try.func33, Try.ntmps33
  go_wp2_with fail
  refine (HST.out _).mono ?_
  rintro e w1 ⟨g, cap, rfl, ho1, b1⟩
  have hw1 := b1.size
  have hP1 := sz_new w w1 w.heap.size b limit wide s g (2 ^ b + 2) cap (Lz.start b) ho1 b1 hw1
  have hgo : SzGo w w1.heap.size b wide s limit Rs [] 0 (Lz.start b) ⟨#[]⟩ limit (8 * s.size + 1) _ :=
    { st := ⟨_, _, _, _, _, hP1⟩, good := Lz.good_start hb, left_ := by simp [textsOf], p_ := by omega, f_ := by omega, d_ := by simp, rs := by rw [HRS.out]; cases Lz.go s b wide (8 * s.size + 1) 0 (Lz.start b) ⟨#[]⟩ limit <;> simp [Except.map] }
  have HGO1 : Hid (SzInv w w1.heap.size b wide s limit Rs (.bool true) (w1.alloc (.cells #[.string s, .int .i64 (b : Int), .bool wide, .int .i64 (limit : Int), .int .i64 0, .slice (some ⟨g, 0, none⟩) (2 ^ b + 2) cap, .string ⟨#[]⟩, .slice none 0 0, .slice none 0 0, .int .i64 0] 55))) := .inr ⟨rfl, [], 0, _, _, _, _, hgo⟩
  clear hP1 hgo ho1 b1 HST HRS
  have HB0 : w.heap.size ≤ w1.heap.size := hw1
  clear hw1
  go_wp2_with fail
  generalize hBB : w1.heap.size = B at *
  clear hBB
  go_loopw [10] (fun e wr => SzInv w B b wide s limit Rs e wr) (fun e wr => szMeas B s.size e wr)
  case atStart => exact HGO1.out
  case round =>
    clear HGO1
    rcases hrel with ⟨rfl, hF⟩ | ⟨rfl, dn, p, l, last, left, f, hG⟩
    · have HF : Hid (SzAll w b wide s limit Rs (.returned (.pointer (some ⟨B, 0, none⟩))) wr) := ⟨B, rfl, hF⟩
      clear hF
      go_wp2_with fail
      go_ret
      exact HF.out
    · have HGO : Hid (SzGo w B b wide s limit Rs dn p l last left f wr) := hG
      obtain ⟨g, cap, ov, cv, hP⟩ := hG.st.len
      have HP : Hid (SzP w w.heap.size B b wide s limit p l last (textsOf dn) (codesOf dn) 0 g l.length cap ov cv wr) := hP
      clear hG
      have hms : szMeas B s.size (.bool true) wr = 8 * s.size + 2 - p := by
        unfold szMeas
        rw [hP.r.cell 4]
        rfl
      have HMS : Hid (szMeas B s.size (.bool true) wr = 8 * s.size + 2 - p) := hms
      have hpb := HGO.out.p_
      have hlen := HGO.out.good.ge
      obtain ⟨N, hN⟩ : ∃ N : Nat, N = Lz.width b wide l.length := ⟨_, rfl⟩
      have hNb := Lz.width_bd hb wide l.length
      rw [← hN] at hNb
      obtain ⟨f', hf'⟩ : ∃ f', f = f' + 1 := ⟨f - 1, by have := HGO.out.f_; omega⟩
      by_cases hno : 8 * s.size < p + N
      · have HNX : Hid (Calls Try.prog 55 #[.pointer (some ⟨B, 0, none⟩)] wr fun e w' => e = .returned (.int .i64 (-1)) ∧ SzFin w B b wide s limit Rs w') := by
          refine (szNext_no B b limit p l.length g cap wide s last ov cv 0 wr hb hsz hlen hpb hP.r (by omega)).mono ?_
          rintro e w' ⟨rfl, -, q, rfl⟩
          refine ⟨rfl, p, l, last, _, _, 2, ⟨_, _, _, _, _, (HP.out.drewN q).set HB0 rfl⟩, .inr ⟨by decide, ?_⟩⟩
          rw [HGO.out.rs, hf', Lz.go_err (c := 2) (by unfold Lz.step; simp only [← hN, if_pos hno])]
          rfl
        clear hP hms
        go_wp2_with fail
        refine HNX.out.mono ?_
        rintro e w2 ⟨rfl, hF⟩
        have HF : Hid (SzAll w b wide s limit Rs (.returned (.pointer (some ⟨B, 0, none⟩))) w2) := ⟨B, rfl, hF⟩
        clear hF
        go_wp2_with fail
        go_ret
        exact HF.out
      · obtain ⟨v, hv⟩ : ∃ v, v = Lz.num s wide p N := ⟨_, rfl⟩
        have hv4 : v ≤ 4096 := by rw [hv]; exact Lz.num_lt s wide p N (by omega)
        have HNX : Hid (Calls Try.prog 55 #[.pointer (some ⟨B, 0, none⟩)] wr fun e w' => e = .returned (.int .i64 (v : Int)) ∧ SzP w w.heap.size B b wide s limit (p + N) l last (textsOf dn) (codesOf dn) 0 g l.length cap ov cv w') := by
          refine (szNext_yes B b limit p l.length g cap v N wide s last ov cv 0 wr hb hsz hlen hP.r hN (by omega) hv).mono ?_
          rintro e w' ⟨rfl, -, q, rfl⟩
          exact ⟨rfl, (HP.out.drewN q).set HB0 rfl⟩
        have HEQ : Hid (N = Lz.width b wide l.length ∧ v = Lz.num s wide p N ∧ f = f' + 1) := ⟨hN, hv, hf'⟩
        clear hP hms hN hv hf'
        go_wp2_with fail
        refine HNX.out.mono ?_
        rintro e w2 ⟨rfl, hP2⟩
        have HP2 : Hid (SzP w w.heap.size B b wide s limit (p + N) l last (textsOf dn) (codesOf dn) 0 g l.length cap ov cv w2) := hP2
        have c8 := hP2.r.cell 8
        simp at c8
        have hbw2 : w.heap.size ≤ w2.heap.size := hP2.bel.size
        have hdn : dn.length ≤ p := HGO.out.d_
        have hcl : (codesOf dn).length ≤ 72000 := by rw [codesOf_len]; omega
        clear hP2 HNX HP
        go_wp2_with (at_builtin; refine wpList_app1 w2 (by rfl) _ _ (by rfl) w.heap.size _ (codesOf dn).length (codesOf dn) (v : Int) (by rfl) HP2.out.oi (by rfl) (Nat.le_trans hcl (by decide)) hbw2 ?_)
        intro g2 cap2 w3 ho3 hg3
        obtain ⟨hr3, hP4⟩ := HP2.out.push HB0 ho3 hg3
        have HP4 : Hid (SzP w w.heap.size B b wide s limit (p + N) l last (textsOf dn) (codesOf dn ++ [(v : Int)]) 0 g l.length cap ov (.slice (some ⟨g2, 0, none⟩) ((codesOf dn).length + 1) cap2) (w3.setCell ⟨B, 8, none⟩ (.slice (some ⟨g2, 0, none⟩) ((codesOf dn).length + 1) cap2))) := hP4
        have k8 := hr3.cell 8
        have kf8 := hr3.free 8
        simp at k8
        clear ho3 hg3 hr3 hP4 c8 HP2
        generalize hL8 : (codesOf dn).length = L8 at *
        go_wp2_with fail
        refine (szStep_any w w.heap.size B b limit (p + N) p v left N wide s last l (textsOf dn) (codesOf dn ++ [(v : Int)]) _ hb HB0 hlim HGO.out.left_ HGO.out.good HEQ.out.1 (by omega) HEQ.out.2.1 hv4 ⟨_, _, _, _, _, HP4.out⟩).mono ?_
        obtain ⟨hN, hv, hf'⟩ := HEQ.out
        rintro e w5 (⟨c, hc0, hst, rfl, hS5⟩ | ⟨v2, t, l2, last2, left2, hst, hgd2, hlf2, rfl, hS5⟩)
        · have HF : Hid (SzInv w B b wide s limit Rs (.bool false) w5) := .inl ⟨rfl, _, _, _, _, _, _, hS5, .inr ⟨hc0, by rw [HGO.out.rs, hf', Lz.go_err hst]; rfl⟩⟩
          clear hst hS5 HP4 HGO k8 kf8 hN hv hf' HEQ
          go_wp2_with fail
          go_roundw
          case rel => exact HF.out
          case measure =>
            have h1 := HMS.out
            have h2 : szMeas B s.size (.bool false) w5 = 0 := rfl
            omega
        · have hvv : v2 = v := by
            unfold Lz.step at hst
            simp only [← hN, ← hv, if_neg hno] at hst
            split at hst
            · cases hst; rfl
            · split at hst
              · cases hst; rfl
              · split at hst
                · cases hst
                · split at hst
                  · cases hst
                  · cases hst; rfl
          subst hvv
          have hcs : codesOf dn ++ [(v2 : Int)] = codesOf (dn ++ [(v2, t)]) := (codesOf_snoc dn v2 t).symm
          have hts : textsOf dn ++ t.data.toList = textsOf (dn ++ [(v2, t)]) := (textsOf_snoc dn v2 t).symm
          rw [hcs, hts] at hS5
          rw [hts] at hlf2
          obtain ⟨g5, cap5, ov5, cv5, hP5⟩ := hS5.len
          by_cases hve : v2 = 2 ^ b + 1
          · have HF : Hid (SzInv w B b wide s limit Rs (.bool false) w5) := .inl ⟨rfl, _, _, _, _, _, _, hS5, .inl ⟨dn ++ [(v2, t)], by rw [HGO.out.rs, hf', Lz.go_end hst hve]; rfl, rfl, rfl, rfl⟩⟩
            rw [decide_eq_false (show ¬ (v2 ≠ 2 ^ b + 1) from fun h => h hve)]
            clear hst hS5 HP4 HGO k8 kf8 hcs hts hP5 hve hv hN hf' HEQ
            go_wp2_with fail
            go_roundw
            case rel => exact HF.out
            case measure =>
              have h1 := HMS.out
              have h2 : szMeas B s.size (.bool false) w5 = 0 := rfl
              omega
          · have hgo : SzGo w B b wide s limit Rs (dn ++ [(v2, t)]) (p + N) l2 last2 left2 f' w5 :=
              { st := hS5, good := hgd2, left_ := hlf2, p_ := by omega, f_ := by have := HGO.out.f_; omega, d_ := by rw [List.length_append]; simp; omega, rs := by rw [HGO.out.rs, hf', Lz.go_on hst hve, map_push, ← hN] }
            have HF : Hid (SzInv w B b wide s limit Rs (.bool true) w5) := .inr ⟨rfl, _, _, _, _, _, _, hgo⟩
            have hm5 : szMeas B s.size (.bool true) w5 = 8 * s.size + 2 - (p + N) := by
              unfold szMeas
              rw [hP5.r.cell 4]
              rfl
            have HM5 : Hid (szMeas B s.size (.bool true) w5 = 8 * s.size + 2 - (p + N)) := hm5
            rw [decide_eq_true (show v2 ≠ 2 ^ b + 1 from hve)]
            clear hst hS5 HP4 HGO k8 kf8 hcs hts hP5 hve hv hm5 hgo hN hf' HEQ
            go_wp2_with fail
            go_roundw
            case rel => exact HF.out
            case measure =>
              have h1 := HMS.out
              have h2 := HM5.out
              omega
end Go.Proofs.Ytjfihmpnbblomaa
