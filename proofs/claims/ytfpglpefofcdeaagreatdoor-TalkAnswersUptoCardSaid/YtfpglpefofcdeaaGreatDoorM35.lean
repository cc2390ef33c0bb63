/- A file read, by the document's own: plain. -/
import Derived.Test.YtfpglpefofcdeaaGreatDoorM34
import Derived.Test.YtfpglpefofcdeaaGreatDoorM25
import Derived.Test.YtfpglpefofcdeaaGreatDoorM24
import Derived.Test.YtfpglpefofcdeaaGreatDoorM27
namespace Go.Proofs.YtfpglpefofcdeaaGreatDoor
open Go.RowKit
set_option linter.unusedVariables false
set_option linter.unusedSimpArgs false
set_option maxRecDepth 100000

/-- a row taken apart, where every part is there whole -/
def cutG : Nat → ByteArray → Option (List ByteArray)
  | 0, _ => none
  | k + 1, s => if s.size = 0 then some [] else if s.size < 4 then none else
      if ((s.extract 4 s.size).size : Int) < readV (s.extract 0 4) then none else
        (cutG k ((s.extract 4 s.size).extract (readV (s.extract 0 4)).toNat (s.extract 4 s.size).size)).map ((s.extract 4 s.size).extract 0 (readV (s.extract 0 4)).toNat :: ·)
theorem cutG_some {k : Nat} {s : ByteArray} (h0 : s.size ≠ 0) (h4 : ¬ s.size < 4) (hn : ¬ (((s.extract 4 s.size).size : Int) < readV (s.extract 0 4))) : cutG (k + 1) s = (cutG k ((s.extract 4 s.size).extract (readV (s.extract 0 4)).toNat (s.extract 4 s.size).size)).map ((s.extract 4 s.size).extract 0 (readV (s.extract 0 4)).toNat :: ·) := by
  show (if s.size = 0 then some [] else if s.size < 4 then none else if ((s.extract 4 s.size).size : Int) < readV (s.extract 0 4) then none else _) = _
  rw [if_neg h0, if_neg h4, if_neg hn]
theorem cutG_nil {k : Nat} {s : ByteArray} (h0 : s.size = 0) : cutG (k + 1) s = some [] := by
  show (if s.size = 0 then some [] else _) = _
  rw [if_pos h0]
theorem cutG_none {k : Nat} {s : ByteArray} (h0 : s.size ≠ 0) (h : s.size < 4 ∨ ((s.extract 4 s.size).size : Int) < readV (s.extract 0 4)) : cutG (k + 1) s = none := by
  show (if s.size = 0 then some [] else if s.size < 4 then none else if ((s.extract 4 s.size).size : Int) < readV (s.extract 0 4) then none else _) = _
  rw [if_neg h0]
  by_cases h4 : s.size < 4
  · rw [if_pos h4]
  · rw [if_neg h4, if_pos (h.resolve_left h4)]
theorem cutG_cutR (k : Nat) : ∀ (s : ByteArray) (l : List ByteArray), cutG k s = some l → cutR k s = l := by
  induction k with
  | zero => intro s l h; cases h
  | succ k ih =>
    intro s l h
    by_cases h0 : s.size = 0
    · rw [cutG_nil h0] at h
      cases h
      exact cutR_none (.inl (by omega))
    · by_cases hb : s.size < 4 ∨ ((s.extract 4 s.size).size : Int) < readV (s.extract 0 4)
      · rw [cutG_none h0 hb] at h; cases h
      · have h4 : ¬ s.size < 4 := fun h => hb (.inl h)
        have hn : ¬ (((s.extract 4 s.size).size : Int) < readV (s.extract 0 4)) := fun h => hb (.inr h)
        rw [cutG_some h0 h4 hn] at h
        cases hq : cutG k ((s.extract 4 s.size).extract (readV (s.extract 0 4)).toNat (s.extract 4 s.size).size) with
        | none => rw [hq] at h; cases h
        | some m =>
          rw [hq] at h
          cases h
          rw [cutR_some h4 hn, ih _ m hq]
theorem cutG_of (k : Nat) : ∀ (s : ByteArray) (fs : List ByteArray), cutR k s = fs → s = rowS fs → (∀ p ∈ fs, p.size ≤ 65535) → fs.length < k → cutG k s = some fs := by
  induction k with
  | zero => intro s fs _ _ _ h; cases h
  | succ k ih =>
    intro s fs hc hs hp hk
    subst hs
    cases fs with
    | nil => exact cutG_nil rfl
    | cons p r =>
      have hpz := hp p (by simp)
      have hl4 : (bytesOf (bigL p.size 4)).length = 4 := by unfold bytesOf; rw [List.length_map, bigL_length]
      have hL : (rowS (p :: r)).data.toList = bytesOf (bigL p.size 4) ++ (p.data.toList ++ rowL r) := by rw [rowS_data]; simp [rowL, partL]
      have hsz : (rowS (p :: r)).size = 4 + (p.size + (rowL r).length) := by rw [size_list, hL, List.length_append, List.length_append, hl4, ← size_list]
      have e1 : ((rowS (p :: r)).extract 0 4).data.toList = bytesOf (bigL p.size 4) := by
        rw [extract_list, hL, List.drop_zero, List.take_append_of_le_length (by rw [hl4]; exact Nat.le_refl _)]
        exact List.take_of_length_le (by rw [hl4]; exact Nat.le_refl _)
      have e2 : ((rowS (p :: r)).extract 4 (rowS (p :: r)).size).data.toList = p.data.toList ++ rowL r := by
        rw [drop_extract, hL]
        exact List.drop_left' hl4
      have hv : readV ((rowS (p :: r)).extract 0 4) = (p.size : Int) := by
        have hz : ((rowS (p :: r)).extract 0 4).size = 4 := by rw [size_list, e1, hl4]
        have hn : valN ((rowS (p :: r)).extract 0 4).data.toList = p.size := by rw [e1]; exact valN_bigL p.size 4 (by omega)
        unfold readV
        rw [if_neg (by omega), hn, if_neg (by omega)]
      have hz2 : ((rowS (p :: r)).extract 4 (rowS (p :: r)).size).size = p.size + (rowL r).length := by rw [size_list, e2, List.length_append, ← size_list]
      have e3 : ((rowS (p :: r)).extract 4 (rowS (p :: r)).size).extract 0 (p.size : Int).toNat = p := by
        apply eq_of_list
        rw [extract_list, e2, List.drop_zero, Int.toNat_natCast, Nat.sub_zero]
        exact List.take_left' (size_list p).symm
      have e4 : ((rowS (p :: r)).extract 4 (rowS (p :: r)).size).extract (p.size : Int).toNat ((rowS (p :: r)).extract 4 (rowS (p :: r)).size).size = rowS r := by
        apply eq_of_list
        rw [drop_extract, e2, Int.toNat_natCast, rowS_data]
        exact List.drop_left' (size_list p).symm
      have hk' : r.length < k := by simp at hk; omega
      rw [cutG_some (by omega) (by omega) (by rw [hv, hz2]; omega), hv, e3, e4,
        ih (rowS r) r (cutR_row r k hk' (fun q hq => hp q (by simp [hq]))) rfl (fun q hq => hp q (by simp [hq])) hk']
      rfl
/-- is a text a file's? -/
def okP (s : ByteArray) : Bool := decide (fileE (flP s) = 0 ∧ fileS (flP s) = s)
theorem fileL_le {f : Fl} (h : fileE f = 0) : ∀ s ∈ fileL f, s.size ≤ 65535 := by
  obtain ⟨h1, h2, h3, h4, h5⟩ := fileE_zero h
  have hidz : f.id.size ≤ 19 := by
    unfold idB at h1
    have h2 := inT_true.1 (Bool.and_eq_true_iff.1 h1).1
    omega
  have e0 := appsS_size h2
  have e1 : (wayT f.ways).size ≤ 76 := by
    unfold wayT
    rw [ByteArray.size_append, ByteArray.size_append, strOfNums_size, wayL_len]
    have := numS_size f.ways.x 8; have := numS_size f.ways.y 8; have := (waysE_zero h3).1; omega
  have e2 : (masksS f.md f.mo f.mf).size ≤ 24 := by
    unfold masksS
    split
    · rw [ByteArray.size_append, ByteArray.size_append]
      have := numS_size f.md 2; have := numS_size f.mo 2; have := numS_size f.mf 2; omega
    · exact Nat.zero_le _
  have e3 : (printS f.row).size ≤ 400 := by
    rw [show printS f.row = strOfNums (textL f.row) by unfold printS; rw [if_pos h4], strOfNums_size]
    have := textL_length f.row; have := (fieldsE_zero h4).2; omega
  intro s hs
  simp only [fileL, List.mem_cons, List.not_mem_nil, or_false] at hs
  rcases hs with rfl | rfl | rfl | rfl | rfl <;> omega
/-- a file's text is taken apart whole -/
theorem okP_cut {s : ByteArray} (h : okP s = true) : ∃ f, fileE f = 0 ∧ cutG 65536 s = some (fileL f) := by
  obtain ⟨h1, h2⟩ := of_decide_eq_true h
  have hS : fileS (flP s) = rowS (fileL (flP s)) := by unfold fileS; rw [if_pos h1]
  have hb := (file_back h1).1
  rw [h2] at hb
  exact ⟨flP s, h1, cutG_of 65536 s (fileL (flP s)) hb (by rw [← hS, h2]) (fileL_le h1) (by show 5 < 65536; omega)⟩
/-- what the document's own asks of five parts -/
def fiveB (l : List ByteArray) : Bool := match l with
  | [_, _, p2, p3, _] => !decide (p2.size < 16) && !decide (127 < byteAt p2 0) && !decide (127 < byteAt p2 8) && !decide (p3.size ≠ 6)
  | _ => false
theorem top_ok {s : ByteArray} {i : Nat} (h : i + 8 ≤ s.size) : byteAt s i ≤ 127 ↔ valN (s.extract i (i + 8)).data.toList ≤ 9223372036854775807 := by
  have h8 : (s.extract i (i + 8)).size = 8 := by rw [ByteArray.size_extract]; omega
  have h1 := valN_eight (s.extract i (i + 8)) h8
  have h2 := get_byte (s.extract i (i + 8)) 0 (by omega)
  rw [byteAt_extract s i (i + 8) (by omega) (by omega)] at h2
  constructor
  · intro hb
    rcases Nat.lt_or_ge 9223372036854775807 (valN (s.extract i (i + 8)).data.toList) with h3 | h3
    · have := h1.1 h3
      omega
    · exact h3
  · intro hv
    rcases Nat.lt_or_ge 127 (byteAt s i) with h3 | h3
    · have := h1.2 (by omega)
      omega
    · exact h3
theorem five_ok {f : Fl} (h : fileE f = 0) : fiveB (fileL f) = true := by
  obtain ⟨_, _, h3, _, h5⟩ := fileE_zero h
  obtain ⟨_, ⟨⟨hx0, hx1⟩, ⟨hy0, hy1⟩⟩, _⟩ := waysE_zero h3
  have fx : numE f.ways.x 8 = 0 := by
    obtain ⟨k, hk⟩ := Int.eq_ofNat_of_zero_le hx0
    rw [hk]
    exact numE_yes ((numOk_nat k 8 (by decide) (by decide)).2 (by omega))
  have fy : numE f.ways.y 8 = 0 := by
    obtain ⟨k, hk⟩ := Int.eq_ofNat_of_zero_le hy0
    rw [hk]
    exact numE_yes ((numOk_nat k 8 (by decide) (by decide)).2 (by omega))
  obtain ⟨_, zx, vx⟩ := num_read (by omega) fx
  obtain ⟨_, zy, vy⟩ := num_read (by omega) fy
  have zx' : (numS f.ways.x 8).size = 8 := zx
  have zy' : (numS f.ways.y 8).size = 8 := zy
  have hL : strL (wayT f.ways) = strL (numS f.ways.x 8) ++ (strL (numS f.ways.y 8) ++ strL (strOfNums (wayL f.ways.list))) := by
    unfold wayT; simp only [strL_app, List.append_assoc]
  have hz : 16 ≤ (wayT f.ways).size := by unfold wayT; simp only [ByteArray.size_append]; omega
  have l1 := strL_length (numS f.ways.x 8)
  have p1 : (wayT f.ways).extract 0 8 = numS f.ways.x 8 := pieceV (a := []) 0 8 hL rfl (by omega)
  have p2 : (wayT f.ways).extract 8 16 = numS f.ways.y 8 := pieceV (a := strL (numS f.ways.x 8)) 8 16 hL (by omega) (by omega)
  have b1 : byteAt (wayT f.ways) 0 ≤ 127 := (top_ok (i := 0) (by omega)).2 (by show valN ((wayT f.ways).extract 0 8).data.toList ≤ _; rw [p1]; omega)
  have b2 : byteAt (wayT f.ways) 8 ≤ 127 := (top_ok (i := 8) (by omega)).2 (by show valN ((wayT f.ways).extract 8 16).data.toList ≤ _; rw [p2]; omega)
  have hm : (maskB f.md && maskB f.mo && maskB f.mf) = true := by
    unfold masksE at h5
    split at h5
    · assumption
    · cases h5
  obtain ⟨hm1, hm3⟩ := Bool.and_eq_true_iff.1 hm
  obtain ⟨hm1, hm2⟩ := Bool.and_eq_true_iff.1 hm1
  have two : ∀ n : Int, maskB n = true → (numS n 2).size = 2 := fun n hn => by
    obtain ⟨g0, g1⟩ := inT_true.1 hn
    obtain ⟨k, rfl⟩ := Int.eq_ofNat_of_zero_le g0
    exact (num_read (by omega) (numE_yes ((numOk_nat k 2 (by decide) (by decide)).2 (by omega)))).2.1
  have hz6 : (masksS f.md f.mo f.mf).size = 6 := by
    unfold masksS
    rw [if_pos hm, ByteArray.size_append, ByteArray.size_append, two _ hm1, two _ hm2, two _ hm3]
  show (!decide ((wayT f.ways).size < 16) && !decide (127 < byteAt (wayT f.ways) 0) && !decide (127 < byteAt (wayT f.ways) 8) && !decide ((masksS f.md f.mo f.mf).size ≠ 6)) = true
  rw [decide_eq_false (by omega), decide_eq_false (by omega), decide_eq_false (by omega), decide_eq_false (by omega)]
  rfl
/-- where the document's own refuses, there is no file -/
theorem okP_no {s : ByteArray} (h : ∀ l, cutG 65536 s = some l → fiveB l = false) : okP s = false := by
  cases ho : okP s with
  | false => rfl
  | true =>
    obtain ⟨f, hf, hc⟩ := okP_cut ho
    have := h _ hc
    rw [five_ok hf] at this
    cases this
theorem five_parts {l : List ByteArray} (h : fiveB l = true) : ∃ p0 p1 p2 p3 p4, l = [p0, p1, p2, p3, p4] ∧ 16 ≤ p2.size ∧ byteAt p2 0 ≤ 127 ∧ byteAt p2 8 ≤ 127 ∧ p3.size = 6 := by
  unfold fiveB at h
  split at h
  · rename_i p0 p1 p2 p3 p4
    simp only [Bool.and_eq_true, Bool.not_eq_true', decide_eq_false_iff_not] at h
    exact ⟨p0, p1, p2, p3, p4, rfl, by omega, by omega, by omega, by omega⟩
  · cases h
/-- the number that the document's own reads, where it is one -/
theorem readV_val {s : ByteArray} (h8 : s.size ≤ 8) (hv : valN s.data.toList ≤ 9223372036854775807) : readV s = (valN s.data.toList : Int) := by
  unfold readV
  rw [if_neg (by omega), if_neg (by omega)]
end Go.Proofs.YtfpglpefofcdeaaGreatDoor
namespace Go.Proofs.YtfpglpefofcdeaaGreatDoor
open Go.RowKit
set_option linter.unusedVariables false
set_option linter.unusedSimpArgs false

/-- the text of a tag within the one item of a list, as the reference reads it -/
def getA (t : Int) (D : List It) : ByteArray := match D with
  | [x] => if x.tag = 162 then (x.list.findSome? (hasI t)).getD ⟨#[]⟩ else ⟨#[]⟩
  | _ => ⟨#[]⟩
theorem getA_no {t : Int} {D : List It} (h : D.length ≠ 1) : getA t D = ⟨#[]⟩ := by
  match D, h with
  | [], _ => rfl
  | [x], h => exact absurd rfl h
  | x :: y :: r, _ => rfl
set_option maxRecDepth 100000 in
set_option maxHeartbeats 4000000 in
theorem rgetA_any (s : ByteArray) (t : Int) (w : World) (hs : s.size ≤ maxLen) :
    Calls Tryz.prog 28 #[.string s, .int .i64 162, .int .i64 t] w fun e w' => e = .returned (.string (getA t (parsesL s))) ∧ Below w.heap.size w w' := by
  have n1 := fun w => rparse_any s w hs
  have hwt := parses_wt s
  generalize parsesE s = pe at *
  generalize parsesL s = D at *
  have N1 := hide n1
  clear n1
  by_cases hl : D.length = 1
  case neg =>
    rw [getA_no hl]
    have t1 : ((D.length : Int) != 1) = true := by simp; omega
    generalize D.length = dl at *
    clear hl hwt hs
    go_enter Tryz.func28, Tryz.ntmps28
    go_wp2_with fail
    refine (unhide N1 _).mono ?_
    rintro e w1 ⟨ao, cap, rfl, _, hb1⟩
    go_wp2
    go_ret
    exact ⟨rfl, hb1⟩
  obtain ⟨x, rfl⟩ : ∃ x, D = [x] := by
    match D, hl with
    | [x], _ => exact ⟨x, rfl⟩
  have hR : getA t [x] = if x.tag = 162 then (x.list.findSome? (hasI t)).getD ⟨#[]⟩ else ⟨#[]⟩ := rfl
  have hwx : wt 7 x.list ≤ 65535 := by
    have h1 := wt_get (d := 7) (l := [x]) (i := 0) (x := x) rfl
    have h2 : wt (7 + 1) [x] ≤ 65535 := hwt
    omega
  have hxl : (x.list.length : Int) ≤ 65535 := by
    have h3 : x.list.length ≤ wt 7 x.list := wt_length (d := 6) x.list
    omega
  generalize getA t [x] = R at *
  clear hwt hs hl
  simp only [List.length_cons, List.length_nil, Nat.zero_add] at N1
  by_cases hx : x.tag = 162
  case neg =>
    rw [if_neg hx] at hR
    subst hR
    have t2 : (x.tag != 162) = true := by simpa using hx
    go_enter Tryz.func28, Tryz.ntmps28
    go_wp2_with fail
    refine (unhide N1 _).mono ?_
    rintro e w1 ⟨ao, cap, rfl, hrow, hb1⟩
    rcases IRowA.row 8 hrow with hn | ⟨b, off, rfl, hbl, hcl⟩
    · cases hn
    obtain ⟨co, cc, c0, c1, c2, _⟩ := hcl 0 x rfl
    simp only [Nat.zero_mul, Nat.add_zero] at c0 c1 c2
    clear hrow hcl
    go_wp2
    go_ret
    exact ⟨rfl, hb1⟩
  rw [if_pos hx] at hR
  have t2 : (x.tag != 162) = false := by simpa using hx
  have HR := hide hR
  clear hR hx
  go_enter Tryz.func28, Tryz.ntmps28
  go_wp2_with fail
  refine (unhide N1 _).mono ?_
  rintro e w1 ⟨ao, cap, rfl, hrow, hb1⟩
  rcases IRowA.row 8 hrow with hn | ⟨b, off, rfl, hbl, hcl⟩
  · cases hn
  obtain ⟨co, cc, c0, c1, c2, _, hco, _, _⟩ := hcl 0 x rfl
  simp only [Nat.zero_mul, Nat.add_zero] at c0 c1 c2
  generalize x.tag = tg at *
  generalize x.text = tx at *
  generalize x.list = xl at *
  have HCO := hide hco; have HB1 := hide hb1
  clear hrow hcl hco hb1 N1
  go_wp2
  go_loopw [32] (fun i wr => ∃ k : Nat, k ≤ xl.length ∧ i = .int .i64 k ∧ Hid ((xl.take k).findSome? (hasI t) = none) ∧ Below w1.heap.size w1 wr) (fun i _ => xl.length - (intOf i).toNat)
  case atStart => exact ⟨0, Nat.zero_le _, rfl, hide rfl, Below.refl _ _⟩
  case round =>
    obtain ⟨k, hk, rfl, HN, hbw⟩ := hrel
    clear c0 c1 c2
    by_cases hlt : k < xl.length
    · obtain ⟨z, hz⟩ : ∃ z, xl[k]? = some z := ⟨_, List.getElem?_eq_getElem hlt⟩
      have hki : (k : Int) < (xl.length : Int) := by omega
      rcases unhide HCO with hn | ⟨b2, off2, rfl, hbl2, hcl2⟩
      · rw [hn] at hlt; simp at hlt
      obtain ⟨co2, cc2, e0, e1, e2, _⟩ := hcl2 k z hz
      have d0 := (hbw.cell (p := ⟨b2, off2 + k * 3, none⟩) hbl2).trans e0
      have d1 := (hbw.cell (p := ⟨b2, off2 + k * 3 + 1, none⟩) hbl2).trans e1
      have d2 := (hbw.cell (p := ⟨b2, off2 + k * 3 + 2, none⟩) hbl2).trans e2
      have HY1 : Hid (z.tag = t → hasI t z = some z.text) := hide (fun h => by unfold hasI; rw [if_pos h])
      have HY2 : Hid (z.tag ≠ t → hasI t z = none) := hide (fun h => by unfold hasI; rw [if_neg h])
      have HX := hide (fun (h : hasI t z = none) => find_next hz (unhide HN) h)
      have HH := hide (fun (u : ByteArray) (h : hasI t z = some u) => find_here hz (unhide HN) h)
      obtain ⟨ztg, ztx, zl⟩ := z
      simp only [It.tag, It.text, It.list] at d0 d1 d2
      have HBW := hide hbw
      clear e0 e1 e2 hcl2 hz hbw HN
      by_cases hzt : ztg = t
      · have hf : R = ztx := by rw [unhide HR, unhide HH ztx (unhide HY1 hzt)]; rfl
        have HF := hide hf
        have tz : (ztg == t) = true := by simpa using hzt
        clear hf hzt
        go_wp2
        go_ret
        exact ⟨by rw [unhide HF]; rfl, (unhide HB1).trans (((unhide HBW).alloc (unhide HBW).size _).mono (unhide HB1).size)⟩
      · have HN2 := hide (unhide HX (unhide HY2 hzt))
        have tz : (ztg == t) = false := by simpa using hzt
        clear hzt
        go_wp2
        go_roundw
        case rel => exact ⟨k + 1, by omega, by go_num, hide (unhide HN2), (unhide HBW).alloc (unhide HBW).size _⟩
        case measure => simp [intOf]; omega
    · have hf : R = ⟨#[]⟩ := by
        have := unhide HN
        rw [List.take_of_length_le (by omega)] at this
        rw [unhide HR, this]; rfl
      have HF := hide hf
      have HBW := hide hbw
      clear hf hbw
      go_wp2
      go_ret
      exact ⟨by rw [unhide HF]; rfl, (unhide HB1).trans ((unhide HBW).mono (unhide HB1).size)⟩
set_option maxRecDepth 100000 in
set_option maxHeartbeats 2000000 in
theorem rlitA_any (s : ByteArray) (t : Int) (g : Nat) (w : World) (hs : s.size ≤ maxLen) (hc : w.cell? ⟨g, 0, none⟩ = some (.string s)) :
    Calls Tryz.prog 27 #[.int .i64 t, .pointer (some ⟨g, 0, none⟩)] w fun e w' => e = .returned (.string (getA t (parsesL s))) ∧ Below w.heap.size w w' := by
  have N1 := hide (fun w => rgetA_any s t w hs)
  generalize getA t (parsesL s) = q at *
  go_enter Tryz.func27, Tryz.ntmps27
  go_wp2_with fail
  refine (unhide N1 _).mono ?_
  rintro e w1 ⟨rfl, hb1⟩
  go_wp2
  go_ret
  exact ⟨rfl, hb1⟩
end Go.Proofs.YtfpglpefofcdeaaGreatDoor
namespace Go.Proofs.YtfpglpefofcdeaaGreatDoor
open Go.RowKit
set_option linter.unusedVariables false
set_option linter.unusedSimpArgs false
set_option maxRecDepth 100000

theorem getA_size (t : Int) (D : List It) (h : wt 8 D ≤ 65535) : (getA t D).size ≤ 65535 := by
  match D, h with
  | [], _ => exact Nat.zero_le _
  | x :: y :: r, _ => exact Nat.zero_le _
  | [x], h =>
    have h1 := wt_get (d := 7) (l := [x]) (i := 0) (x := x) rfl
    have h2 : wt (7 + 1) [x] ≤ 65535 := h
    show (if x.tag = 162 then (x.list.findSome? (hasI t)).getD ⟨#[]⟩ else ⟨#[]⟩).size ≤ 65535
    split
    · cases hf : x.list.findSome? (hasI t) with
      | none => exact Nat.zero_le _
      | some u =>
        obtain ⟨y, hy, he⟩ := List.exists_of_findSome?_eq_some hf
        obtain ⟨i, hi, rfl⟩ := List.mem_iff_getElem.1 hy
        have h3 := wt_get (d := 6) (List.getElem?_eq_getElem hi)
        have h4 : wt (6 + 1) x.list = wt 7 x.list := rfl
        unfold hasI at he
        split at he
        · obtain rfl := Option.some.inj he
          show (x.list[i]).text.size ≤ 65535
          omega
        · cases he
    · exact Nat.zero_le _
theorem numA_bound (s : ByteArray) : numR s ≤ 9223372036854775807 := by
  unfold numR
  split
  · decide
  · have := valN_lt7 s (by omega); omega
theorem numR_readV {s : ByteArray} (h : s.size ≤ 7) : numR s = readV s := by
  have h1 := valN_lt7 s h
  unfold numR readV
  rw [if_neg (by omega), if_neg (by omega), if_neg (by omega)]
theorem getA_node (n : Int) (L : List (Int × ByteArray)) : getA n [nodeI 162 L] = (lookO n L).getD ⟨#[]⟩ := by
  show (if (nodeI 162 L).tag = 162 then ((nodeI 162 L).list.findSome? (hasI n)).getD ⟨#[]⟩ else ⟨#[]⟩) = _
  rw [if_pos (show (nodeI 162 L).tag = 162 from rfl)]
  show ((L.map leafI).findSome? (hasI n)).getD ⟨#[]⟩ = _
  rw [has_leaves]
/-- the file that the document's own makes of a text -/
def flD (s : ByteArray) : Fl := if s.size = 0 then flZ else flP s
/-- the answer that the document's own makes of items -/
def anD (D : List It) : An := ⟨numR (getA 128 D), numR (getA 129 D), none, readsL (getA 130 D), 0, numR (getA 131 D), numR (getA 132 D), numR (getA 138 D),
  { flD (getA 133 D) with isig := getA 134 D, irest := getA 135 D, csig := getA 136 D, crest := getA 137 D }, numR (getA 139 D), numR (getA 140 D), getA 141 D, getA 142 D, getA 143 D⟩
/-- does the document's own take it? -/
def docW (s : ByteArray) : Bool := decide (((getA 133 (parsesL s)).size = 0 ∨ okP (getA 133 (parsesL s)) = true) ∧ answerE (anD (parsesL s)) = 0 ∧ answerS (anD (parsesL s)) = s)
theorem flP_nil : flP ⟨#[]⟩ = flZ := by
  unfold flP
  rw [cutR_none (.inl (by show (0 : Nat) < 4; decide))]
  rfl
theorem flD_flP (s : ByteArray) : flD s = flP s := by
  unfold flD
  split
  · rename_i h
    obtain rfl : s = ⟨#[]⟩ := eq_of_list (List.length_eq_zero_iff.1 (by rw [← size_list]; exact h))
    exact flP_nil.symm
  · rfl
/-- the numbers among an answer's texts are short -/
theorem look_num {a : An} {t : Int} (ht : t = 128 ∨ t = 129 ∨ t = 131 ∨ t = 132 ∨ t = 138 ∨ t = 139 ∨ t = 140) (hW : ansW a = 0) : ((lookO t (ansL a)).getD ⟨#[]⟩).size ≤ 7 := by
  have hs : ∀ n : Int, ∀ k : Nat, 1 ≤ k → k ≤ 7 → (numS n (k : Int)).size ≤ 7 := fun n k h1 h7 => by
    by_cases hk : numOk n (k : Int)
    · rw [numS_yes hk, strOfNums_size, bigL_length]; simp; omega
    · rw [numS_no hk]; exact Nat.zero_le _
  have s1 : ∀ n : Int, (numS n 1).size ≤ 7 := fun n => hs n 1 (by decide) (by decide)
  have s2 : ∀ n : Int, (numS n 2).size ≤ 7 := fun n => hs n 2 (by decide) (by decide)
  have z : (⟨#[]⟩ : ByteArray).size ≤ 7 := by decide
  unfold ansL addL ansL0
  rcases ht with rfl | rfl | rfl | rfl | rfl | rfl | rfl <;>
    (split
     · split
       · simp [lookO, s1, s2, z]
       · split
         · simp [lookO, s1, s2, z]
         · split
           · simp [lookO, s1, s2, z]
           · split <;> simp [lookO, s1, s2, z]
     · split <;> simp [lookO, s1, s2, z])
theorem look_file (a : An) : lookO 133 (ansL a) = if a.er = 0 ∧ a.dO = 3 then some (fileS a.fl) else none := by
  by_cases hc : a.er = 0 ∧ a.dO = 3
  · rw [if_pos hc]
    unfold ansL addL ansL0
    rw [if_pos hc.1, if_neg (show ¬ a.dO = 1 by omega), if_pos hc.2]
    rfl
  · rw [if_neg hc]
    unfold ansL addL ansL0
    split
    · rename_i h0
      split
      · rfl
      · split
        · rename_i h3
          exact absurd ⟨h0, h3⟩ hc
        · split
          · rfl
          · split <;> rfl
    · split <;> rfl
theorem ansW_file {a : An} (h0 : a.er = 0) (h3 : a.dO = 3) (hW : ansW a = 0) : fileE a.fl = 0 := by
  unfold ansW at hW
  rw [if_pos h0] at hW
  unfold addW at hW
  rw [if_neg (by omega), if_pos h3] at hW
  exact (blE_zero hW).2
/-- what is written as an answer is read by both -/
theorem same_read {a : An} {s : ByteArray} (hE : answerE a = 0) (hS : answerS a = s) : parsesE s = 0 ∧ ansW a = 0 ∧ parsesL s = [nodeI 162 (ansL a)] ∧ anD (parsesL s) = anP (parsesL s) ∧ getA 133 (parsesL s) = (lookO 133 (ansL a)).getD ⟨#[]⟩ := by
  obtain ⟨_, hW, hp, hL⟩ := ans_parts hE
  rw [hS] at hp hL
  have hg := goodL_ans a
  have e1 : ∀ t, getA t (parsesL s) = (lookO t (ansL a)).getD ⟨#[]⟩ := fun t => by rw [hL]; exact getA_node t _
  have e2 : ∀ t, gotT t 8 (parsesL s) = (lookO t (ansL a)).getD ⟨#[]⟩ := fun t => by rw [hL]; exact got_nodeA t _ hg
  refine ⟨hp, hW, hL, ?_, e1 133⟩
  have n : ∀ t, (t = 128 ∨ t = 129 ∨ t = 131 ∨ t = 132 ∨ t = 138 ∨ t = 139 ∨ t = 140) → numR ((lookO t (ansL a)).getD ⟨#[]⟩) = readV ((lookO t (ansL a)).getD ⟨#[]⟩) := fun t ht => numR_readV (look_num ht hW)
  unfold anD anP
  simp only [e1, e2, flD_flP]
  rw [n 128 (by simp), n 129 (by simp), n 131 (by simp), n 132 (by simp), n 138 (by simp), n 139 (by simp), n 140 (by simp)]
/-- there is one way alone to read -/
theorem docW_readW (s : ByteArray) : docW s = readW s ∧ (readW s = true → anD (parsesL s) = anP (parsesL s)) := by
  cases hr : readW s with
  | true =>
    have hr' := hr
    unfold readW at hr'
    obtain ⟨hp, hE, hS⟩ := of_decide_eq_true hr'
    obtain ⟨_, hW, hL, hD, hg⟩ := same_read hE hS
    refine ⟨?_, fun _ => hD⟩
    unfold docW
    apply decide_eq_true
    rw [hD]
    refine ⟨?_, hE, hS⟩
    rw [hg, look_file]
    by_cases hc : (anP (parsesL s)).er = 0 ∧ (anP (parsesL s)).dO = 3
    · right
      have hf := ansW_file hc.1 hc.2 hW
      have hfl : (anP (parsesL s)).fl = { flP (gotT 133 8 (parsesL s)) with isig := gotT 134 8 (parsesL s), irest := gotT 135 8 (parsesL s), csig := gotT 136 8 (parsesL s), crest := gotT 137 8 (parsesL s) } := rfl
      have hg2 : gotT 133 8 (parsesL s) = fileS (anP (parsesL s)).fl := by
        have e : gotT 133 8 (parsesL s) = (lookO 133 (ansL (anP (parsesL s)))).getD ⟨#[]⟩ := by
          conv => lhs; rw [hL]
          exact got_nodeA 133 _ (goodL_ans _)
        rw [e, look_file, if_pos hc]
        rfl
      obtain ⟨c1, c2⟩ := file_cert (flP (gotT 133 8 (parsesL s))) (gotT 134 8 (parsesL s)) (gotT 135 8 (parsesL s)) (gotT 136 8 (parsesL s)) (gotT 137 8 (parsesL s))
      rw [if_pos hc]
      show okP (fileS (anP (parsesL s)).fl) = true
      rw [← hg2]
      unfold okP
      apply decide_eq_true
      rw [← c1, ← c2, ← hfl]
      exact ⟨hf, hg2.symm⟩
    · left
      rw [if_neg hc]
      rfl
  | false =>
    refine ⟨?_, fun h => by cases h⟩
    cases hd : docW s with
    | false => rfl
    | true =>
      exfalso
      unfold docW at hd
      obtain ⟨_, hE, hS⟩ := of_decide_eq_true hd
      obtain ⟨hp, hW, hL, _, _⟩ := same_read hE hS
      obtain ⟨b1, b2, b3⟩ := ans_back (a := anD (parsesL s)) rfl hW (numA_bound _) (numA_bound _) (numA_bound _) (numA_bound _) (numA_bound _) (numA_bound _) (numA_bound _)
      have e : answerE (anP [nodeI 162 (ansL (anD (parsesL s)))]) = answerE (anD (parsesL s)) := by unfold answerE; rw [b1, b2, b3, hW]
      have e2 : answerS (anP [nodeI 162 (ansL (anD (parsesL s)))]) = answerS (anD (parsesL s)) := by unfold answerS; rw [b1, b2, b3, hW]
      rw [← hL] at e e2
      have : readW s = true := by
        unfold readW
        exact decide_eq_true ⟨hp, e.trans hE, e2.trans hS⟩
      rw [this] at hr
      cases hr
end Go.Proofs.YtfpglpefofcdeaaGreatDoor
namespace Go.Proofs.YtfpglpefofcdeaaGreatDoor
open Go.RowKit
set_option linter.unusedVariables false

theorem reads_print {l : List XApp} (h : appsE l = 0) : readsL (appsT l) = l ∧ readsE (appsT l) = 0 := by
  have := readA_of appP_item h
  unfold readsL readsE
  rw [this]
  exact ⟨rfl, rfl⟩
theorem appsT_nil : appsT [] = ⟨#[]⟩ := by decide +kernel
theorem reads_none {s : ByteArray} (h : readsE s ≠ 0) : readsE s = 1 ∧ readsL s = [] ∧ s ≠ ⟨#[]⟩ := by
  cases hr : readA (appP 7) s with
  | some l => exact absurd (by unfold readsE; rw [hr]; rfl) h
  | none =>
    refine ⟨by unfold readsE; rw [hr]; rfl, by unfold readsL; rw [hr]; rfl, fun e => ?_⟩
    have := readA_of appP_item (l := []) rfl
    rw [appsT_nil, ← e, hr] at this
    cases this
theorem reads_some {s : ByteArray} (h : readsE s = 0) : appsE (readsL s) = 0 ∧ appsS (readsL s) = s := by
  cases hr : readA (appP 7) s with
  | none => exfalso; unfold readsE at h; rw [hr] at h; cases h
  | some l =>
    obtain ⟨a, b⟩ := readA_some hr
    have e : readsL s = l := by unfold readsL; rw [hr]; rfl
    rw [e]
    exact ⟨a, by unfold appsS; rw [if_pos a, b]⟩
theorem reads_length (s : ByteArray) : (readsL s).length ≤ 20 := by
  cases hr : readA (appP 7) s with
  | none => unfold readsL; rw [hr]; exact Nat.zero_le _
  | some l =>
    have e : readsL s = l := by unfold readsL; rw [hr]; rfl
    rw [e]
    exact (apps_sized (readA_some hr).1).1
theorem appsT_size {l : List XApp} (h : appsE l = 0) : (appsT l).size ≤ maxLen := by
  have hE := printsE_apps h
  cases hm : measD 2 (l.map itemI) with
  | none => rw [hm] at hE; cases hE
  | some sp =>
    obtain ⟨s, p⟩ := sp
    rw [hm] at hE
    have h1 : (if 8 < p ∨ 65535 < s then (2 : Int) else 0) = 0 := hE
    by_cases hc : 8 < p ∨ 65535 < s
    · rw [if_pos hc] at h1; cases h1
    · have e : appsT l = strOfNums (textD 2 (l.map itemI)) := by
        unfold appsT printsS
        rw [printsE_apps h, if_pos rfl]
      rw [e, strOfNums_size, meas_text 2 _ s p hm]
      unfold maxLen
      omega
end Go.Proofs.YtfpglpefofcdeaaGreatDoor
