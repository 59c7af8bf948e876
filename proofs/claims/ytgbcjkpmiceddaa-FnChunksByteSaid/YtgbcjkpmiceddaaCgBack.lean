/- What was written of pieces is read again, and what was read is written so (mathematics). -/
import Derived.Test.YtgbcjkpmiceddaaCgMath
import Derived.Test.YtgbcjkpmiceddaaNpMath
import Derived.Test.YtgbcjkpmiceddaaCrMath2
namespace Go.Proofs.Ytgbcjkpmiceddaa
namespace Cg

theorem ext_list (s : ByteArray) (a b : Nat) : (s.extract a b).data.toList = (s.data.toList.drop a).take (b - a) := by
  rw [ByteArray.data_extract, Array.toList_extract]
theorem ba_of {s : ByteArray} {x : List UInt8} (h : s.data.toList = x) : s = ⟨x.toArray⟩ := by
  apply ByteArray.ext; apply Array.toList_inj.1; rw [h]
theorem ba_inj {s t : ByteArray} (h : s.data.toList = t.data.toList) : s = t := ByteArray.ext (Array.toList_inj.1 h)
theorem size_list (s : ByteArray) : s.size = s.data.toList.length := (bytes_len s).symm
theorem part {s : ByteArray} {pre x post : List UInt8} (h : s.data.toList = pre ++ (x ++ post)) (a b : Nat) (ha : pre.length = a) (hb : a + x.length = b) : (s.extract a b).data.toList = x := by
  rw [ext_list, h, List.drop_append_of_le_length (by omega), List.drop_of_length_le (by omega), List.nil_append, ← hb, Nat.add_sub_cancel_left, List.take_append_of_le_length (Nat.le_refl _), List.take_length]
theorem n4_put {s : ByteArray} {pre post : List UInt8} {n A : Nat} (h : s.data.toList = pre ++ ((Pt.low n 4).reverse ++ post)) (hA : pre.length = A) (hn : n < 4294967296) : n4 s A = n := by
  show Nm.num (fun i => byteAt s (A + i)) 4 true = n
  refine Np.get_put n 4 true hn _ (fun i hi => ⟨?_, byteAt_lt _ _⟩)
  show ((Pt.low n 4).reverse)[i]? = _
  have hl : ((Pt.low n 4).reverse).length = 4 := by rw [List.length_reverse, Pt.low_len]
  have e : s.data.toList[A + i]? = ((Pt.low n 4).reverse)[i]? := by
    rw [h, List.getElem?_append_right (by omega), hA, Nat.add_sub_cancel_left, List.getElem?_append_left (by omega)]
  unfold byteAt
  rw [List.getD_eq_getElem?_getD, e, List.getElem?_eq_getElem (by omega)]
  simp
theorem n4_bytes {s : ByteArray} {A : Nat} (h : A + 4 ≤ s.size) : (Pt.low (n4 s A) 4).reverse = (s.data.toList.drop A).take 4 := by
  have e := Np.put_get (fun i => byteAt s (A + i)) (fun _ => byteAt_lt _ _) 4 true
  have hl : s.data.toList.length = s.size := bytes_len s
  refine Eq.trans (show (Pt.low (n4 s A) 4).reverse = _ from e) ?_
  apply List.ext_getElem?
  intro j
  by_cases hj : j < 4
  · rw [List.getElem?_take_of_lt hj, List.getElem?_drop, List.getElem?_map, List.getElem?_range hj]
    show some (UInt8.ofNat (s.data.toList.getD (A + j) 0).toNat) = _
    rw [List.getD_eq_getElem?_getD, List.getElem?_eq_getElem (by omega)]
    simp
  · rw [List.getElem?_eq_none (by simp; omega), List.getElem?_eq_none (by simp; omega)]

theorem piece_split (p : ByteArray × ByteArray) : Ch.piece p = (Pt.low p.2.size 4).reverse ++ (p.1.data.toList ++ (p.2.data.toList ++ (Pt.low (Ch.crc p) 4).reverse)) := by
  unfold Ch.piece; simp [List.append_assoc]
/-- a piece that was written stands there -/
theorem ok_put {s : ByteArray} {pre post : List UInt8} {p : ByteArray × ByteArray} {A : Nat} (h : s.data.toList = pre ++ (Ch.piece p ++ post)) (hA : pre.length = A) (hn : Ch.name p.1 = true) (hz : p.2.size < 4294967296) :
    Ok s A ∧ nm s A = p.1 ∧ bd s A = p.2 ∧ n4 s A = p.2.size := by
  have h4 := Ch.name_size hn
  have l1 : p.1.data.toList.length = 4 := by rw [bytes_len]; exact h4
  have l2 : p.2.data.toList.length = p.2.size := bytes_len _
  have l0 : ((Pt.low p.2.size 4).reverse).length = 4 := by rw [List.length_reverse, Pt.low_len]
  have l3 : ((Pt.low (Ch.crc p) 4).reverse).length = 4 := by rw [List.length_reverse, Pt.low_len]
  rw [piece_split] at h
  have e0 : n4 s A = p.2.size := n4_put (post := p.1.data.toList ++ (p.2.data.toList ++ (Pt.low (Ch.crc p) 4).reverse) ++ post) (by rw [h]; simp [List.append_assoc]) hA hz
  have e1 : nm s A = p.1 := ba_inj (part (pre := pre ++ (Pt.low p.2.size 4).reverse) (post := (p.2.data.toList ++ (Pt.low (Ch.crc p) 4).reverse) ++ post) (by rw [h]; simp [List.append_assoc]) _ _ (by rw [List.length_append, l0, hA]) (by rw [l1]))
  have e2 : bd s A = p.2 := by
    unfold bd
    rw [e0]
    exact ba_inj (part (pre := pre ++ (Pt.low p.2.size 4).reverse ++ p.1.data.toList) (post := (Pt.low (Ch.crc p) 4).reverse ++ post) (by rw [h]; simp [List.append_assoc]) _ _ (by rw [List.length_append, List.length_append, l0, l1, hA]) (by rw [l2]))
  have e3 : n4 s (A + 8 + p.2.size) = Ch.crc p := n4_put (pre := pre ++ (Pt.low p.2.size 4).reverse ++ p.1.data.toList ++ p.2.data.toList) (post := post) (by rw [h]; simp [List.append_assoc]) (by rw [List.length_append, List.length_append, List.length_append, l0, l1, l2, hA]) (Ch.crc_lt p)
  refine ⟨⟨?_, by rw [e1]; exact hn, by rw [e0, e1, e2]; exact e3⟩, e1, e2, e0⟩
  rw [e0, size_list s, h]
  simp only [List.length_append, l0, l1, l2, l3]
  omega

theorem get_put {s : ByteArray} : ∀ (rest : List (ByteArray × ByteArray)) (pre : List UInt8) (A : Nat) (out : List (ByteArray × ByteArray)), s.data.toList = pre ++ rest.flatMap Ch.piece → pre.length = A → Ch.ok A rest = true → get s A out = some (out ++ rest)
  | [], pre, A, out, h, hA, _ => by
    rw [get_end (by rw [size_list, h]; simp; omega)]; simp
  | p :: rest, pre, A, out, h, hA, ho => by
    have ho' : (Ch.name p.1 && (decide (A + 12 + p.2.size ≤ 9000) && Ch.ok (A + 12 + p.2.size) rest)) = true := ho
    simp only [Bool.and_eq_true, decide_eq_true_eq] at ho'
    obtain ⟨hn, hz, hr⟩ := ho'
    have h' : s.data.toList = pre ++ (Ch.piece p ++ rest.flatMap Ch.piece) := by rw [h]; rfl
    obtain ⟨ok, e1, e2, e0⟩ := ok_put h' hA hn (by omega)
    have hl := Ch.piece_len (Ch.name_size hn)
    rw [get_more (by have := ok.1; omega) ok, e1, e2, e0]
    have := get_put rest (pre ++ Ch.piece p) (A + 12 + p.2.size) (out ++ [p]) (by rw [h']; simp [List.append_assoc]) (by rw [List.length_append, hl, hA]; omega) hr
    rw [show out ++ [(p.1, p.2)] = out ++ [p] from rfl, this, List.append_assoc]; rfl

theorem ok_len : ∀ (l : List (ByteArray × ByteArray)) (n : Nat), n ≤ 9000 → Ch.ok n l = true → n + (l.flatMap Ch.piece).length ≤ 9000
  | [], n, h, _ => by simpa using h
  | p :: l, n, h, ho => by
    have ho' : (Ch.name p.1 && (decide (n + 12 + p.2.size ≤ 9000) && Ch.ok (n + 12 + p.2.size) l)) = true := ho
    simp only [Bool.and_eq_true, decide_eq_true_eq] at ho'
    obtain ⟨hn, hz, hr⟩ := ho'
    have := ok_len l _ hz hr
    rw [List.flatMap_cons, List.length_append, Ch.piece_len (Ch.name_size hn)]
    omega

/-- what was written comes out -/
theorem back {l : List (ByteArray × ByteArray)} (h : Ch.ok 8 l = true) : ans ⟨(Ch.ans l).toArray⟩ = some l := by
  have e : Ch.ans l = Ch.out l := by unfold Ch.ans; rw [if_pos h]
  have hs : (⟨(Ch.ans l).toArray⟩ : ByteArray).data.toList = Ch.sign ++ l.flatMap Ch.piece := by rw [e]; rfl
  have hl := ok_len l 8 (by omega) h
  have hv : Valid ⟨(Ch.ans l).toArray⟩ := by
    refine ⟨?_, ?_, ?_⟩
    · rw [size_list, hs, List.length_append]; exact hl
    · rw [size_list, hs, List.length_append]; show 8 ≤ 8 + _; omega
    · exact ba_inj (part (pre := []) (post := l.flatMap Ch.piece) (x := Ch.sign) hs 0 8 rfl rfl)
  rw [ans_ok hv, get_put l Ch.sign 8 [] hs rfl h]; rfl
theorem put_no {l : List (ByteArray × ByteArray)} (h : ¬ Ch.ok 8 l = true) : Ch.ans l = [] := by unfold Ch.ans; rw [if_neg h]
theorem back_no {l : List (ByteArray × ByteArray)} (h : ¬ Ch.ok 8 l = true) : ans ⟨(Ch.ans l).toArray⟩ = none := by
  rw [put_no h]
  exact ans_no (fun hv => by have := hv.2.1; simp [ByteArray.size] at this)

theorem split_at {s : ByteArray} {A : Nat} (h : Ok s A) : s.data.toList.take (A + 12 + n4 s A) = s.data.toList.take A ++ Ch.piece (nm s A, bd s A) := by
  obtain ⟨h1, h2, h3⟩ := h
  have hl := bytes_len s
  have en : (nm s A).data.toList = (s.data.toList.drop (A + 4)).take 4 := by unfold nm; rw [ext_list, show A + 8 - (A + 4) = 4 by omega]
  have eb : (bd s A).data.toList = (s.data.toList.drop (A + 8)).take (n4 s A) := by unfold bd; rw [ext_list, Nat.add_sub_cancel_left]
  have ez : (bd s A).size = n4 s A := by rw [size_list, eb, List.length_take, List.length_drop]; omega
  rw [piece_split]
  show _ = _ ++ ((Pt.low (bd s A).size 4).reverse ++ ((nm s A).data.toList ++ ((bd s A).data.toList ++ (Pt.low (Ch.crc (nm s A, bd s A)) 4).reverse)))
  rw [ez, n4_bytes (by omega), en, eb, ← h3, n4_bytes (by omega)]
  generalize s.data.toList = L
  generalize n4 s A = N
  rw [show A + 12 + N = A + (4 + (4 + (N + 4))) by omega, List.take_add, List.take_add, List.take_add, List.take_add]
  simp only [List.drop_drop]

theorem ok_snoc : ∀ (l : List (ByteArray × ByteArray)) (n : Nat) (p : ByteArray × ByteArray), Ch.ok n l = true → Ch.name p.1 = true → n + (l.flatMap Ch.piece).length + 12 + p.2.size ≤ 9000 → Ch.ok n (l ++ [p]) = true
  | [], n, p, _, hn, hz => by
    show (Ch.name p.1 && (decide (n + 12 + p.2.size ≤ 9000) && true)) = true
    rw [hn, decide_eq_true (by simpa using hz)]; rfl
  | q :: l, n, p, ho, hn, hz => by
    have ho' : (Ch.name q.1 && (decide (n + 12 + q.2.size ≤ 9000) && Ch.ok (n + 12 + q.2.size) l)) = true := ho
    simp only [Bool.and_eq_true, decide_eq_true_eq] at ho'
    obtain ⟨hq, hqz, hr⟩ := ho'
    show (Ch.name q.1 && (decide (n + 12 + q.2.size ≤ 9000) && Ch.ok (n + 12 + q.2.size) (l ++ [p]))) = true
    rw [hq, decide_eq_true hqz, ok_snoc l _ p hr hn (by rw [List.flatMap_cons, List.length_append, Ch.piece_len (Ch.name_size hq)] at hz; omega)]; rfl

/-- what was read is written so -/
theorem forth (s : ByteArray) (hs : s.size ≤ 9000) : ∀ (k A : Nat) (out l : List (ByteArray × ByteArray)), s.size - A ≤ k → A ≤ s.size → Ch.out out = s.data.toList.take A → Ch.ok 8 out = true → get s A out = some l → Ch.ok 8 l = true ∧ Ch.out l = s.data.toList
  | 0, A, out, l, hk, hA, ho, hok, h => by
    rw [get_end (by omega)] at h
    cases h
    exact ⟨hok, by rw [ho, List.take_of_length_le (by rw [bytes_len]; omega)]⟩
  | k + 1, A, out, l, hk, hA, ho, hok, h => by
    by_cases hlt : A < s.size
    · by_cases hO : Ok s A
      · rw [get_more hlt hO] at h
        have e : Ch.out (out ++ [(nm s A, bd s A)]) = Ch.out out ++ Ch.piece (nm s A, bd s A) := by unfold Ch.out; simp [List.append_assoc]
        have hlen : (Ch.out out).length = A := by rw [ho, List.length_take, bytes_len]; omega
        have hbz : (bd s A).size = n4 s A := by unfold bd; rw [ByteArray.size_extract]; have := hO.1; omega
        have hO1 := hO.1
        have h8 : (Ch.out out).length = 8 + (out.flatMap Ch.piece).length := by unfold Ch.out; rw [List.length_append]; rfl
        have ho2 : Ch.out (out ++ [(nm s A, bd s A)]) = s.data.toList.take (A + 12 + n4 s A) := by rw [e, ho, split_at hO]
        have hok2 : Ch.ok 8 (out ++ [(nm s A, bd s A)]) = true := ok_snoc out 8 (nm s A, bd s A) hok hO.2.1 (by show 8 + _ + 12 + (bd s A).size ≤ 9000; rw [hbz]; omega)
        exact forth s hs k (A + 12 + n4 s A) (out ++ [(nm s A, bd s A)]) l (by omega) hO1 ho2 hok2 h
      · rw [get_no hlt hO] at h; cases h
    · rw [get_end hlt] at h
      cases h
      exact ⟨hok, by rw [ho, List.take_of_length_le (by rw [bytes_len]; omega)]⟩
theorem forth_ans {s : ByteArray} {l : List (ByteArray × ByteArray)} (h : ans s = some l) : (⟨(Ch.ans l).toArray⟩ : ByteArray) = s := by
  by_cases hv : Valid s
  · rw [ans_ok hv] at h
    have h0 : Ch.out [] = s.data.toList.take 8 := by
      have := hv.2.2
      have e := ext_list s 0 8
      rw [this] at e
      show Ch.sign ++ [] = _
      rw [List.append_nil]
      exact e
    obtain ⟨h1, h2⟩ := forth s hv.1 _ 8 [] l (Nat.le_refl _) hv.2.1 h0 rfl h
    apply ba_inj
    show Ch.ans l = _
    unfold Ch.ans
    rw [if_pos h1, h2]
  · rw [ans_no hv] at h; cases h

theorem cut_set (X : List UInt8) (j : Nat) (c : UInt8) (h : j < X.length) : X = X.take j ++ X.getD j 0 :: X.drop (j + 1) ∧ X.set j c = X.take j ++ c :: X.drop (j + 1) := by
  refine ⟨?_, ?_⟩
  · rw [List.getD_eq_getElem?_getD, List.getElem?_eq_getElem h, Option.getD_some, ← List.drop_eq_getElem_cons h, List.take_append_drop]
  · rw [List.set_eq_take_append_cons_drop, if_pos h]
/-- one byte behind the size is another one: no piece -/
theorem bent {p : ByteArray × ByteArray} {t : ByteArray} {k : Nat} {c : UInt8} (hok : Ch.ok 8 [p] = true) (hk : 12 ≤ k) (hkl : k < (Ch.out [p]).length) (hc : c.toNat ≠ ((Ch.out [p]).getD k 0).toNat) (ht : t.data.toList = (Ch.out [p]).set k c) : ans t = none := by
  have hok' : (Ch.name p.1 && (decide (8 + 12 + p.2.size ≤ 9000) && Ch.ok (8 + 12 + p.2.size) [])) = true := hok
  simp only [Bool.and_eq_true, decide_eq_true_eq] at hok'
  obtain ⟨hn, hz, _⟩ := hok'
  have h4 := Ch.name_size hn
  obtain ⟨n, hnn⟩ : ∃ n, n = p.2.size := ⟨_, rfl⟩
  have l1 : p.1.data.toList.length = 4 := by rw [bytes_len]; exact h4
  have l2 : p.2.data.toList.length = n := by rw [bytes_len, hnn]
  obtain ⟨H, hH⟩ : ∃ H, H = Ch.sign ++ (Pt.low n 4).reverse := ⟨_, rfl⟩
  obtain ⟨X, hX⟩ : ∃ X, X = p.1.data.toList ++ p.2.data.toList := ⟨_, rfl⟩
  obtain ⟨C, hC⟩ : ∃ C, C = (Pt.low (Ch.crc p) 4).reverse := ⟨_, rfl⟩
  have lH : H.length = 12 := by rw [hH, List.length_append, List.length_reverse, Pt.low_len]; rfl
  have lX : X.length = 4 + n := by rw [hX, List.length_append, l1, l2]
  have lC : C.length = 4 := by rw [hC, List.length_reverse, Pt.low_len]
  have hL : Ch.out [p] = H ++ (X ++ C) := by
    show Ch.sign ++ (Ch.piece p ++ []) = _
    rw [List.append_nil, piece_split, hH, hX, hC, ← hnn]; simp [List.append_assoc]
  rw [hL] at hkl hc ht
  rw [List.length_append, List.length_append, lH, lX, lC] at hkl
  have hset : (H ++ (X ++ C)).set k c = H ++ (X ++ C).set (k - 12) c := by rw [List.set_append_right _ _ (by omega), lH]
  have hget : (H ++ (X ++ C)).getD k 0 = (X ++ C).getD (k - 12) 0 := by
    rw [List.getD_eq_getElem?_getD, List.getD_eq_getElem?_getD, List.getElem?_append_right (by omega), lH]
  rw [hset] at ht
  rw [hget] at hc
  have hsz : t.size = 20 + n := by rw [size_list, ht, List.length_append, List.length_set, List.length_append, lH, lX, lC]; omega
  have e0 : n4 t 8 = n := n4_put (pre := Ch.sign) (post := (X ++ C).set (k - 12) c) (by rw [ht, hH]; simp [List.append_assoc]) rfl (by omega)
  by_cases hv : Valid t
  rotate_left
  · exact ans_no hv
  rw [ans_ok hv]
  refine get_no (by omega) (fun hO => ?_)
  have h3 := hO.2.2
  rw [e0] at h3
  have hXz : X.length ≤ 9000 := by omega
  have hcrc : ((Ch.crc p : Nat) : Int) = Cr.ans 0 X := by
    have := Ch.crc_ans (p := p) (by rw [ByteArray.size_append]; omega)
    rw [← this, ByteArray.toList_data_append, hX]
  by_cases hj : k - 12 < 4 + n
  · have hs2 : (X ++ C).set (k - 12) c = X.set (k - 12) c ++ C := List.set_append_left _ _ (by omega)
    rw [hs2] at ht
    have hg2 : (X ++ C).getD (k - 12) 0 = X.getD (k - 12) 0 := by rw [List.getD_eq_getElem?_getD, List.getD_eq_getElem?_getD, List.getElem?_append_left (by omega)]
    rw [hg2] at hc
    have e3 : n4 t (8 + 8 + n) = Ch.crc p := n4_put (pre := H ++ X.set (k - 12) c) (post := []) (by rw [ht, hC]; simp [List.append_assoc]) (by rw [List.length_append, List.length_set, lH, lX]; omega) (Ch.crc_lt p)
    have ex : (t.extract 12 (16 + n)).data.toList = X.set (k - 12) c := part (pre := H) (post := C) ht 12 (16 + n) lH (by rw [List.length_set, lX]; omega)
    have ecat : nm t 8 ++ bd t 8 = t.extract 12 (16 + n) := by
      unfold nm bd
      rw [e0]
      have : t.extract (8 + 4) (8 + 8) ++ t.extract (8 + 8) (8 + 8 + n) = t.extract (min (8 + 4) (8 + 8)) (max (8 + 8) (8 + 8 + n)) := ByteArray.extract_append_extract
      rw [this]
      congr 1 <;> omega
    have hcz : (nm t 8 ++ bd t 8).size ≤ 9000 := by rw [ecat, ByteArray.size_extract]; omega
    have hcrc2 := Ch.crc_ans (p := (nm t 8, bd t 8)) hcz
    have hd : ((nm t 8, bd t 8).1 ++ (nm t 8, bd t 8).2).data.toList = X.set (k - 12) c := by show (nm t 8 ++ bd t 8).data.toList = _; rw [ecat, ex]
    rw [hd, ← h3, e3, hcrc] at hcrc2
    obtain ⟨c1, c2⟩ := cut_set X (k - 12) c (by omega)
    rw [c2] at hcrc2
    have hne := Cr.ans_other (X.take (k - 12)) (X.drop (k - 12 + 1)) c (X.getD (k - 12) 0) hc (by rw [← c2, List.length_set]; exact hXz)
    rw [← c1] at hne
    exact hne hcrc2
  · have hs2 : (X ++ C).set (k - 12) c = X ++ C.set (k - 16 - n) c := by rw [List.set_append_right _ _ (by omega), lX, show k - 12 - (4 + n) = k - 16 - n by omega]
    rw [hs2] at ht
    have hg2 : (X ++ C).getD (k - 12) 0 = C.getD (k - 16 - n) 0 := by
      rw [List.getD_eq_getElem?_getD, List.getD_eq_getElem?_getD, List.getElem?_append_right (by omega), lX, show k - 12 - (4 + n) = k - 16 - n by omega]
    rw [hg2] at hc
    have en : nm t 8 = p.1 := ba_inj (part (pre := H) (x := p.1.data.toList) (post := p.2.data.toList ++ C.set (k - 16 - n) c) (by rw [ht, hX]; simp [List.append_assoc]) _ _ lH (by rw [l1]))
    have eb : bd t 8 = p.2 := by
      unfold bd
      rw [e0]
      exact ba_inj (part (pre := H ++ p.1.data.toList) (x := p.2.data.toList) (post := C.set (k - 16 - n) c) (by rw [ht, hX]; simp [List.append_assoc]) _ _ (by rw [List.length_append, lH, l1]) (by rw [l2]))
    rw [en, eb] at h3
    have eb4 := n4_bytes (s := t) (A := 8 + 8 + n) (by omega)
    rw [h3, show (Pt.low (Ch.crc (p.1, p.2)) 4).reverse = C from hC.symm, ht, ← List.append_assoc, List.drop_append_of_le_length (by rw [List.length_append, lH, lX]; omega), List.drop_of_length_le (by rw [List.length_append, lH, lX]; omega), List.nil_append, List.take_of_length_le (by rw [List.length_set, lC]; omega)] at eb4
    have hjl : k - 16 - n < C.length := by omega
    have : C.getD (k - 16 - n) 0 = c := by
      rw [List.getD_eq_getElem?_getD, eb4, List.getElem?_set_self hjl]; rfl
    exact hc (by rw [this])
end Cg
end Go.Proofs.Ytgbcjkpmiceddaa
