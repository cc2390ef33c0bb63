/- What is written is read again, and what can be read is written in one way: plain. -/
import Derived.Test.YtolicaaifhfhcaaM33
import Derived.Test.YtolicaaifhfhcaaM36
import Derived.Test.YtolicaaifhfhcaaM38
import Derived.Test.YtolicaaifhfhcaaM00
import Derived.Maps.OwnSet
import Derived.Maps.OwnOps
import Derived.Maps.Views
import Derived.StringKeys
import Derived.Deep.RegionWith
namespace Go.Proofs.Ytolicaaifhfhcaa
open Go.RowKit
set_option linter.unusedVariables false

theorem strOf_strL (s : ByteArray) : strOfNums (strL s) = s := by
  apply ByteArray.ext
  apply Array.toList_inj.1
  rw [strOfNums_list]
  unfold strL
  rw [List.map_map]
  conv => rhs; rw [← List.map_id s.data.toList]
  refine List.map_congr_left fun u _ => ?_
  simp
theorem strL_extract (s : ByteArray) (i j : Nat) : strL (s.extract i j) = ((strL s).drop i).take (j - i) := by
  unfold strL
  rw [ByteArray.data_extract, Array.toList_extract, List.extract_eq_take_drop, List.map_take, List.map_drop]
theorem strL_split (s : ByteArray) (k : Nat) : strL s = strL (s.extract 0 k) ++ strL (behind s k) := by
  unfold behind
  rw [strL_extract, strL_extract, Nat.sub_zero, List.drop_zero]
  have h : ((strL s).drop k).take (s.size - k) = (strL s).drop k := List.take_of_length_le (by rw [List.length_drop, strL_length]; exact Nat.le_refl _)
  rw [h, List.take_append_drop]
theorem byteAt_strL (s : ByteArray) (i : Nat) (h : i < s.size) : (strL s)[i]? = some (byteAt s i : Int) := by
  unfold strL byteAt
  rw [List.getElem?_map, List.getD_eq_getElem?_getD, List.getElem?_eq_getElem (by simpa using h)]
  rfl
theorem strL_small (s : ByteArray) (k : Nat) (hk : k ≤ s.size) (h3 : k ≤ 3) : strL (s.extract 0 k) = [(byteAt s 0 : Int), (byteAt s 1 : Int), (byteAt s 2 : Int)].take k := by
  rw [strL_extract, Nat.sub_zero, List.drop_zero]
  apply List.ext_getElem?
  intro i
  by_cases hi : i < k
  · rw [List.getElem?_take, List.getElem?_take, if_pos hi, if_pos hi, byteAt_strL s i (by omega)]
    have : i = 0 ∨ i = 1 ∨ i = 2 := by omega
    rcases this with rfl | rfl | rfl <;> rfl
  · rw [List.getElem?_take, List.getElem?_take, if_neg hi, if_neg hi]
/-- the length that is read is written so -/
theorem len_text {s : ByteArray} {n k : Nat} (h : lenAt s = some (n, k)) : strL (s.extract 0 k) = lenL n ∧ lenLen n = k := by
  have hb := lenAt_lt h
  rw [strL_small s k hb.2.2.1 hb.2.2.2]
  have b0 := byteAt_lt s 0
  have b1 := byteAt_lt s 1
  have b2 := byteAt_lt s 2
  unfold lenAt lenN at h
  generalize byteAt s 0 = x at *
  generalize byteAt s 1 = y at *
  generalize byteAt s 2 = z at *
  by_cases c0 : s.size = 0
  · rw [if_pos c0] at h; cases h
  · rw [if_neg c0] at h
    by_cases c1 : x < 128
    · rw [if_pos c1] at h
      cases h
      unfold lenL lenLen
      rw [if_pos c1, if_pos c1]
      exact ⟨rfl, rfl⟩
    · rw [if_neg c1] at h
      by_cases c2 : x = 129 ∧ 2 ≤ s.size
      · rw [if_pos c2] at h
        by_cases c3 : 128 ≤ y
        · rw [if_pos c3] at h
          cases h
          unfold lenL lenLen
          rw [if_neg (by omega), if_pos (by omega), if_neg (by omega), if_pos (by omega), c2.1]
          exact ⟨rfl, rfl⟩
        · rw [if_neg c3] at h; cases h
      · rw [if_neg c2] at h
        by_cases c4 : x = 130 ∧ 3 ≤ s.size
        · rw [if_pos c4] at h
          by_cases c5 : 256 ≤ y * 256 + z
          · rw [if_pos c5] at h
            cases h
            unfold lenL lenLen
            rw [if_neg (by omega), if_neg (by omega), if_neg (by omega), if_neg (by omega), c4.1]
            refine ⟨?_, rfl⟩
            have e1 : ((y * 256 + z : Nat) : Int) / 256 = (y : Int) := by omega
            have e2 : ((y * 256 + z : Nat) : Int) % 256 = (z : Int) := by omega
            rw [e1, e2]
            rfl
          · rw [if_neg c5] at h; cases h
        · rw [if_neg c4] at h; cases h
/-- the tag that is read is written so -/
theorem tag_text {s : ByteArray} (hz : tagSz s.data.toList ≤ s.size) (hv : validB (tagAt s : Int) = true) : strL (s.extract 0 (tagSz s.data.toList)) = tagL (tagAt s) ∧ tagLen (tagAt s) = tagSz s.data.toList := by
  have h13 := tagSz_le s.data.toList
  have hl : s.data.toList.length = s.size := by simp
  have hg := (good_iff s.data.toList (tagSz s.data.toList) h13.1 h13.2 (by omega)).2 ⟨rfl, hv⟩
  have hp := (goodB_parts hg).2
  have ht := (text_same s (tagSz s.data.toList) hz).2 hp
  refine ⟨?_, hp⟩
  rw [← ht]
  exact strL_nums (tagL_bytes _)

theorem body_made {T : List It → List Int} {x : It} (h : madeV x.tag = true) : bodyL T x = T x.list := if_pos h
theorem body_not {T : List It → List Int} {x : It} (h : madeV x.tag = false) : bodyL T x = strL x.text := if_neg (by rw [h]; decide)
theorem fits_made {t : Int} {s n : Nat} (h : madeV t = true) : fitsB t s n = (s == 0) := if_pos h
theorem fits_not {t : Int} {s n : Nat} (h : madeV t = false) : fitsB t s n = (validB t && n == 0) := if_neg (by rw [h]; decide)
theorem item_text {d : Nat} {s : ByteArray} {x : It} {r : ByteArray} (ih : ∀ s l, parseD d s = some l → ∃ p, measD d l = some (s.size, p) ∧ p ≤ d ∧ textD d l = strL s) (h : itemAt (parseD d) s = some (x, r)) :
    fitsB x.tag x.text.size x.list.length = true ∧ (∃ b1 b2, measD d x.list = some (b1, b2) ∧ b2 ≤ d ∧ (bodyL (textD d) x).length = b1 + x.text.size) ∧ strL s = itemL x.tag.toNat (bodyL (textD d) x) ++ strL r := by
  unfold itemAt at h
  split at h
  · cases h
  · rename_i hz
    split at h
    · cases h
    · rename_i hv
      have hv' : validB (tagAt s : Int) = true := by simpa using hv
      obtain ⟨ht, htl⟩ := tag_text (by omega) hv'
      split at h
      · cases h
      · rename_i n k hl
        obtain ⟨hlt, hll⟩ := len_text hl
        split at h
        · cases h
        · rename_i hn
          have e1 := strL_split s (tagSz s.data.toList)
          have e2 := strL_split (behind s (tagSz s.data.toList)) k
          have e3 := strL_split (behind (behind s (tagSz s.data.toList)) k) n
          rw [ht] at e1
          rw [hlt] at e2
          generalize behind (behind s (tagSz s.data.toList)) k = r2 at *
          generalize behind s (tagSz s.data.toList) = r1 at *
          have hbn : (strL (r2.extract 0 n)).length = n := by rw [strL_length, ByteArray.size_extract]; omega
          have hmv : madeV (tagAt s : Int) = madeB (tagAt s) := by unfold madeV; rw [hv', Bool.true_and, Int.toNat_natCast]
          generalize tagAt s = t at *
          split at h
          · rename_i hm
            cases hp : parseD d (r2.extract 0 n) with
            | none => rw [hp] at h; cases h
            | some l =>
              rw [hp] at h
              have e := Option.some.inj h
              have x1 := (Prod.ext_iff.1 e).1
              have x2 := (Prod.ext_iff.1 e).2
              simp only at x1 x2
              obtain ⟨p, hm1, hm2, hm3⟩ := ih _ _ hp
              subst x1
              have hmk : madeV (t : Int) = true := by rw [hmv, hm]
              have hbd : bodyL (textD d) (.mk (t : Int) ⟨#[]⟩ l) = strL (r2.extract 0 n) := (body_made (x := .mk (t : Int) ⟨#[]⟩ l) hmk).trans hm3
              refine ⟨?_, ⟨_, p, hm1, hm2, ?_⟩, ?_⟩
              · exact fits_made hmk
              · rw [hbd, strL_length]; rfl
              · rw [hbd, ← x2, e1, e2, e3]
                unfold itemL
                simp only [It.tag, Int.toNat_natCast]
                rw [hbn]
                simp only [List.append_assoc]
          · rename_i hm
            have e := Option.some.inj h
            have x1 := (Prod.ext_iff.1 e).1
            have x2 := (Prod.ext_iff.1 e).2
            simp only at x1 x2
            subst x1
            have hmf : madeB t = false := by simpa using hm
            have hmk : madeV (t : Int) = false := by rw [hmv, hmf]
            have hbd : bodyL (textD d) (.mk (t : Int) (r2.extract 0 n) []) = strL (r2.extract 0 n) := body_not (x := .mk (t : Int) (r2.extract 0 n) []) hmk
            refine ⟨?_, ⟨0, 0, ?_, Nat.zero_le _, ?_⟩, ?_⟩
            · refine (fits_not hmk).trans ?_
              simp only [It.list]
              rw [hv']
              rfl
            · simp only [It.list]; cases d <;> rfl
            · rw [hbd, strL_length]; simp only [It.text]; omega
            · rw [hbd, ← x2, e1, e2, e3]
              unfold itemL
              simp only [It.tag, Int.toNat_natCast]
              rw [hbn]
              simp only [List.append_assoc]

theorem strL_nil {s : ByteArray} (h : s.size = 0) : strL s = [] := List.length_eq_zero_iff.1 (by rw [strL_length]; exact h)
theorem list_text {d : Nat} (ih : ∀ s l, parseD d s = some l → ∃ p, measD d l = some (s.size, p) ∧ p ≤ d ∧ textD d l = strL s) : ∀ (f : Nat) (s : ByteArray) (l : List It), listP (parseD d) f s = some l →
    (∀ s0 p0, ∃ p, l.foldl (stepM (measD d)) (some (s0, p0)) = some (s0 + s.size, p) ∧ p ≤ max p0 (d + 1)) ∧ textD (d + 1) l = strL s
  | 0, s, l, h => by
    unfold listP at h
    split at h
    · rename_i hz
      cases h
      exact ⟨fun s0 p0 => ⟨p0, by rw [hz]; rfl, by omega⟩, by rw [strL_nil hz]; simp [textD]⟩
    · cases h
  | f + 1, s, l, h => by
    by_cases hz : s.size = 0
    · rw [listP_empty _ _ hz] at h
      cases h
      exact ⟨fun s0 p0 => ⟨p0, by rw [hz]; rfl, by omega⟩, by rw [strL_nil hz]; simp [textD]⟩
    · rw [listP_step hz] at h
      cases hi : itemAt (parseD d) s with
      | none => rw [hi] at h; cases h
      | some xr =>
        obtain ⟨x, r⟩ := xr
        rw [hi] at h
        simp only at h
        cases hr : listP (parseD d) f r with
        | none => rw [hr] at h; cases h
        | some m =>
          rw [hr] at h
          have e : l = x :: m := (Option.some.inj h).symm
          subst e
          obtain ⟨i1, ⟨b1, b2, i2, i3, i4⟩, i5⟩ := item_text ih hi
          obtain ⟨k1, k2⟩ := list_text ih f r m hr
          have hlen : s.size = (itemL x.tag.toNat (bodyL (textD d) x)).length + r.size := by
            have := congrArg List.length i5
            rw [strL_length, List.length_append, strL_length] at this
            exact this
          rw [itemL_length, i4] at hlen
          refine ⟨fun s0 p0 => ?_, ?_⟩
          · obtain ⟨p, q1, q2⟩ := k1 (s0 + (tagLen x.tag.toNat + lenLen (b1 + x.text.size)) + (b1 + x.text.size)) (max p0 (1 + b2))
            refine ⟨p, ?_, by omega⟩
            rw [List.foldl_cons, step_yes, if_pos i1, i2, Option.map_some]
            simp only
            rw [q1]
            congr 2
            omega
          · rw [i5, ← k2]; simp [textD]
theorem parse_print : ∀ (d : Nat) (s : ByteArray) (l : List It), parseD d s = some l → ∃ p, measD d l = some (s.size, p) ∧ p ≤ d ∧ textD d l = strL s
  | 0, s, l, h => by
    unfold parseD at h
    split at h
    · rename_i hz
      cases h
      refine ⟨0, by rw [hz]; rfl, Nat.le_refl _, ?_⟩
      have : (strL s).length = 0 := by rw [strL_length]; exact hz
      rw [List.length_eq_zero_iff.1 this]; rfl
    · cases h
  | d + 1, s, l, h => by
    obtain ⟨h1, h2⟩ := list_text (parse_print d) s.size s l h
    obtain ⟨p, q1, q2⟩ := h1 0 0
    exact ⟨p, by rw [Nat.zero_add] at q1; exact q1, by omega, h2⟩

/-! ### The other way -/
theorem behind_nums (a b : List Int) : behind (strOfNums (a ++ b)) a.length = strOfNums b := by
  apply ByteArray.ext
  apply Array.toList_inj.1
  unfold behind
  rw [strOfNums_list, ByteArray.data_extract, Array.toList_extract, List.extract_eq_take_drop, strOfNums_list, strOfNums_size, List.map_append]
  rw [List.drop_left' (by simp)]
  exact List.take_of_length_le (by simp)
theorem take_nums (a b : List Int) : (strOfNums (a ++ b)).extract 0 a.length = strOfNums a := by
  apply ByteArray.ext
  apply Array.toList_inj.1
  rw [strOfNums_list, ByteArray.data_extract, Array.toList_extract, List.extract_eq_take_drop, strOfNums_list, List.map_append]
  simp
theorem byteAt_nums {L : List Int} (i : Nat) (v : Int) (h : L[i]? = some v) (h0 : 0 ≤ v) (h1 : v < 256) : byteAt (strOfNums L) i = v.toNat := by
  unfold byteAt
  rw [strOfNums_list, List.getD_eq_getElem?_getD, List.getElem?_map, h]
  simp
  omega
theorem len_back (n : Nat) (X : List Int) (hn : n < 65536) : lenAt (strOfNums (lenL n ++ X)) = some (n, lenLen n) := by
  have hs : (strOfNums (lenL n ++ X)).size = lenLen n + X.length := by rw [strOfNums_size, List.length_append, lenL_length]
  unfold lenAt
  rw [hs]
  unfold lenL lenLen
  by_cases c1 : n < 128
  · rw [if_pos c1, if_pos c1, byteAt_nums 0 (n : Int) rfl (by omega) (by omega), Int.toNat_natCast]
    unfold lenN
    rw [if_neg (by omega), if_pos c1]
  · rw [if_neg c1, if_neg c1]
    by_cases c2 : n < 256
    · rw [if_pos c2, if_pos c2, byteAt_nums 0 129 rfl (by omega) (by omega), byteAt_nums 1 (n : Int) rfl (by omega) (by omega), Int.toNat_natCast]
      unfold lenN
      rw [if_neg (by omega), if_neg (by decide), if_pos ⟨rfl, by omega⟩, if_pos (by omega)]
    · rw [if_neg c2, if_neg c2, byteAt_nums 0 130 rfl (by omega) (by omega), byteAt_nums 1 ((n : Int) / 256) rfl (by omega) (by omega), byteAt_nums 2 ((n : Int) % 256) rfl (by omega) (by omega)]
      unfold lenN
      have e : ((n : Int) / 256).toNat * 256 + ((n : Int) % 256).toNat = n := by omega
      rw [if_neg (by omega), if_neg (by decide), if_neg (fun h => absurd h.1 (by decide)), if_pos ⟨rfl, by omega⟩, e, if_pos (by omega)]
theorem tag_back (t : Nat) (X : List Int) (hv : validB (t : Int) = true) : tagSz (strOfNums (tagL t ++ X)).data.toList = tagLen t ∧ tagAt (strOfNums (tagL t ++ X)) = t := by
  have hlt := validB_lt hv
  have hb := valN_bigL t (tagLen t) (lt_tagLen t (by omega))
  have hlen : ((bigL t (tagLen t)).map fun z => UInt8.ofNat z.toNat).length = tagLen t := by rw [List.length_map, bigL_length]
  have e : (strOfNums (tagL t ++ X)).data.toList = ((bigL t (tagLen t)).map fun z => UInt8.ofNat z.toNat) ++ X.map fun z => UInt8.ofNat z.toNat := by rw [strOfNums_list, List.map_append]
  obtain ⟨e1, e2⟩ := tag_text_back t (X.map fun z => UInt8.ofNat z.toNat) hv _ hlen hb
  unfold tagAt
  rw [e, e1, e2, hb]
  exact ⟨rfl, rfl⟩
theorem item_back {P : ByteArray → Option (List It)} {t : Nat} {bd rest : List Int} {x : It} (hv : validB (t : Int) = true) (hn : bd.length < 65536)
    (hx : (madeB t = true ∧ ∃ l, P (strOfNums bd) = some l ∧ x = .mk t ⟨#[]⟩ l) ∨ (madeB t = false ∧ x = .mk t (strOfNums bd) [])) : itemAt P (strOfNums (itemL t bd ++ rest)) = some (x, strOfNums rest) := by
  have e0 : itemL t bd ++ rest = tagL t ++ (lenL bd.length ++ (bd ++ rest)) := by unfold itemL; simp only [List.append_assoc]
  rw [e0]
  obtain ⟨e1, e2⟩ := tag_back t (lenL bd.length ++ (bd ++ rest)) hv
  have e3 : behind (strOfNums (tagL t ++ (lenL bd.length ++ (bd ++ rest)))) (tagLen t) = strOfNums (lenL bd.length ++ (bd ++ rest)) := by
    have := behind_nums (tagL t) (lenL bd.length ++ (bd ++ rest))
    rw [bigL_length] at this
    exact this
  have e4 := len_back bd.length (bd ++ rest) hn
  have e5 : behind (strOfNums (lenL bd.length ++ (bd ++ rest))) (lenLen bd.length) = strOfNums (bd ++ rest) := by
    have := behind_nums (lenL bd.length) (bd ++ rest)
    rw [lenL_length] at this
    exact this
  have e6 := take_nums bd rest
  have e7 := behind_nums bd rest
  have hs : (strOfNums (tagL t ++ (lenL bd.length ++ (bd ++ rest)))).size = tagLen t + (lenL bd.length ++ (bd ++ rest)).length := by rw [strOfNums_size, List.length_append, bigL_length]
  unfold itemAt
  rw [e1, e2, if_neg (by omega), hv, if_neg (by decide), e3, e4]
  simp only
  rw [e5, if_neg (by rw [strOfNums_size, List.length_append]; omega), e6, e7]
  rcases hx with ⟨hm, l, hl, rfl⟩ | ⟨hm, rfl⟩
  · rw [hm, if_pos rfl, hl]; rfl
  · rw [hm, if_neg (by decide)]

theorem fold_grow {M : List It → Option (Nat × Nat)} : ∀ (l : List It) (s0 p0 s p : Nat), l.foldl (stepM M) (some (s0, p0)) = some (s, p) → s0 ≤ s ∧ p0 ≤ p ∧ (l ≠ [] → 1 ≤ p)
  | [], s0, p0, s, p, h => by simp at h; simp [h.1, h.2]
  | x :: r, s0, p0, s, p, h => by
    rw [List.foldl_cons, step_yes] at h
    by_cases hf : fitsB x.tag x.text.size x.list.length = true
    · rw [if_pos hf] at h
      cases hm : M x.list with
      | none => rw [hm, Option.map_none, step_none] at h; cases h
      | some b =>
        rw [hm, Option.map_some] at h
        obtain ⟨b1, b2⟩ := b
        have := fold_grow r _ _ s p h
        refine ⟨by omega, by omega, fun _ => by omega⟩
    · rw [if_neg hf, step_none] at h; cases h
theorem print_list {W : World} {n D : Nat} (ih : ∀ (ao : Option Addr) (l : List It) (s p : Nat), IRow W D ao l → measD D l = some (s, p) → p ≤ n → s ≤ 65535 → parseD n (strOfNums (textD D l)) = some l) :
    ∀ (l : List It) (s0 p0 s p : Nat), (∀ x ∈ l, ∃ co, IRow W D co x.list) → l.foldl (stepM (measD D)) (some (s0, p0)) = some (s, p) → p ≤ n + 1 → s ≤ 65535 → parseD (n + 1) (strOfNums (textD (D + 1) l)) = some l
  | [], s0, p0, s, p, _, _, _, _ => by
    have e : textD (D + 1) ([] : List It) = [] := by simp [textD]
    rw [e]
    exact listP_empty _ _ rfl
  | x :: r, s0, p0, s, p, hrow, h, hp, hs => by
    rw [List.foldl_cons, step_yes] at h
    by_cases hf : fitsB x.tag x.text.size x.list.length = true
    · rw [if_pos hf] at h
      cases hm : measD D x.list with
      | none => rw [hm, Option.map_none, step_none] at h; cases h
      | some b =>
        obtain ⟨b1, b2⟩ := b
        rw [hm, Option.map_some] at h
        simp only at h
        have hpos := (fold_grow r _ _ s p h)
        have hbody := fits_body hf hm (meas_text D _ _ _ hm)
        have hrest := print_list ih r _ _ s p (fun y hy => hrow y (List.mem_cons_of_mem _ hy)) h hp hs
        have e : textD (D + 1) (x :: r) = itemL x.tag.toNat (bodyL (textD D) x) ++ textD (D + 1) r := by simp [textD]
        have hvt : validB x.tag = true := by
          unfold fitsB at hf
          split at hf
          · rename_i hm; unfold madeV at hm; simp at hm; exact hm.1
          · simp at hf; exact hf.1
        have hlt := validB_lt hvt
        obtain ⟨t, ht⟩ := Int.eq_ofNat_of_zero_le (show 0 ≤ x.tag by omega)
        have hmv : madeV x.tag = madeB t := by unfold madeV; rw [hvt, Bool.true_and, ht, Int.toNat_natCast]
        have hsz : (strOfNums (textD (D + 1) (x :: r))).size ≠ 0 := by
          rw [strOfNums_size, e, List.length_append, itemL_length]
          have := tagLen_le x.tag.toNat
          omega
        rw [parse_step hsz, e, ht, Int.toNat_natCast]
        rw [ht] at hvt
        obtain ⟨co, hco⟩ := hrow x (List.mem_cons_self ..)
        have hib : itemAt (parseD n) (strOfNums (itemL t (bodyL (textD D) x) ++ textD (D + 1) r)) = some (x, strOfNums (textD (D + 1) r)) := by
          refine item_back hvt (by omega) ?_
          cases hmd : madeB t with
          | true =>
            left
            have hbd : bodyL (textD D) x = textD D x.list := body_made (by rw [hmv, hmd])
            refine ⟨rfl, x.list, ?_, ?_⟩
            · rw [hbd]; exact ih co x.list b1 b2 hco hm (by omega) (by omega)
            · have h0 : x.text.size = 0 := by
                rw [fits_made (by rw [hmv, hmd])] at hf
                simpa using hf
              have h1 : x.text = ⟨#[]⟩ := by
                apply ByteArray.ext
                exact Array.eq_empty_of_size_eq_zero h0
              cases x with
              | mk a b c => simp only [It.tag, It.text, It.list] at ht h1 ⊢; rw [ht, h1]
          | false =>
            right
            have hbd : bodyL (textD D) x = strL x.text := body_not (by rw [hmv, hmd])
            refine ⟨rfl, ?_⟩
            rw [hbd, strOf_strL]
            have h0 : x.list = [] := by
              rw [fits_not (by rw [hmv, hmd])] at hf
              simp at hf
              exact hf.2
            cases x with
            | mk a b c => simp only [It.tag, It.text, It.list] at ht h0 ⊢; rw [ht, h0]
        rw [hib]
        simp only
        rw [hrest]
        rfl
    · rw [if_neg hf, step_none] at h; cases h
theorem fold_deep {d : Nat} : ∀ (l : List It) (k : Nat) (x : It) (s0 p0 s p : Nat), l.foldl (stepM (measD d)) (some (s0, p0)) = some (s, p) → l[k]? = some x → ∀ b1 b2, measD d x.list = some (b1, b2) → 1 + b2 ≤ p
  | [], k, x, s0, p0, s, p, h, hx, b1, b2, hb => by simp at hx
  | y :: r, k, x, s0, p0, s, p, h, hx, b1, b2, hb => by
    rw [List.foldl_cons, step_yes] at h
    by_cases hf : fitsB y.tag y.text.size y.list.length = true
    · rw [if_pos hf] at h
      cases hm : measD d y.list with
      | none => rw [hm, Option.map_none, step_none] at h; cases h
      | some b =>
        obtain ⟨c1, c2⟩ := b
        rw [hm, Option.map_some] at h
        simp only at h
        cases k with
        | zero =>
          simp at hx
          subst hx
          rw [hm] at hb
          cases hb
          have := fold_grow r _ _ s p h
          omega
        | succ k => exact fold_deep r k x _ _ s p h (by simpa using hx) b1 b2 hb
    · rw [if_neg hf, step_none] at h; cases h
theorem row_items {W : World} {D : Nat} {ao : Option Addr} {l : List It} (h : IRow W (D + 1) ao l) : ∀ x ∈ l, ∃ co, IRow W D co x.list := by
  intro x hx
  obtain ⟨i, hi, rfl⟩ := List.mem_iff_getElem.1 hx
  rcases h with h | ⟨b, off, _, _, hc⟩
  · rw [h] at hi; simp at hi
  · obtain ⟨co, cc, _, _, _, _, h5, _⟩ := hc i l[i] (List.getElem?_eq_getElem hi)
    exact ⟨co, h5⟩
theorem print_parse {W : World} : ∀ (n D : Nat) (ao : Option Addr) (l : List It) (s p : Nat), IRow W D ao l → measD D l = some (s, p) → p ≤ n → s ≤ 65535 → parseD n (strOfNums (textD D l)) = some l
  | n, 0, ao, l, s, p, hr, _, _, _ => by
    rw [show l = [] from hr]
    cases n with
    | zero => rfl
    | succ n => exact listP_empty _ _ rfl
  | 0, D + 1, ao, l, s, p, hr, hm, hp, hs => by
    have hl : l = [] := by
      rcases List.eq_nil_or_concat l with h | ⟨a, b, h⟩
      · exact h
      · have := (fold_grow l 0 0 s p hm).2.2 (by rw [h]; simp)
        omega
    rw [hl]
    rfl
  | n + 1, D + 1, ao, l, s, p, hr, hm, hp, hs => print_list (fun ao l s p h1 h2 h3 h4 => print_parse n D ao l s p h1 h2 h3 h4) l 0 0 s p (row_items hr) hm hp hs
theorem row_depth {W : World} : ∀ (n D : Nat) {ao : Option Addr} {l : List It} {s p : Nat}, IRow W D ao l → measD D l = some (s, p) → p ≤ n → IRow W n ao l
  | n, 0, ao, l, s, p, hr, _, _ => by rw [show l = [] from hr]; exact IRow.nil _ _ _
  | 0, D + 1, ao, l, s, p, hr, hm, hp => by
    rcases List.eq_nil_or_concat l with h | ⟨a, b, h⟩
    · rw [h]; rfl
    · have := (fold_grow l 0 0 s p hm).2.2 (by rw [h]; simp)
      omega
  | n + 1, D + 1, ao, l, s, p, hr, hm, hp => by
    rcases hr with h | ⟨b, off, rfl, hlt, hc⟩
    · exact .inl h
    · refine .inr ⟨b, off, rfl, hlt, fun i x hx => ?_⟩
      obtain ⟨co, cc, h1, h2, h3, h4, h5, h6⟩ := hc i x hx
      obtain ⟨hf, b1, b2, hmx⟩ := fold_item l i x 0 0 s p hm hx
      have hb : 1 + b2 ≤ p := fold_deep l i x 0 0 s p hm hx b1 b2 hmx
      exact ⟨co, cc, h1, h2, h3, h4, row_depth n D h5 hmx (by omega), h6⟩
end Go.Proofs.Ytolicaaifhfhcaa
namespace Go.Proofs.Ytolicaaifhfhcaa
open Go.ChangeShapes Go.WideShapes Go.ChangeAt Go.RowKit Go.Deep
set_option linter.unusedVariables false
set_option maxRecDepth 100000

structure XApp where
  name : ByteArray
  label : ByteArray
  prio : Int
  confirm : Bool
deriving Inhabited
def valApp (x : XApp) : Value := .agg #[.string x.name, .string x.label, .int .i64 x.prio, .bool x.confirm]
def okApp (W : World) (x : XApp) : Prop := x.name.size ≤ maxLen ∧ x.label.size ≤ maxLen ∧ (-9223372036854775808 ≤ x.prio ∧ x.prio ≤ 9223372036854775807)
theorem okApp.below {W W' : World} {x : XApp} (h : okApp W x) (hb : Below W.heap.size W W') : okApp W' x := by
  obtain ⟨h0, h1, h2⟩ := h
  exact ⟨h0, h1, h2⟩
def RowApp (W : World) (ao : Option Addr) (l : List XApp) : Prop :=
  (l = [] ∨ ∃ b off, ao = some ⟨b, off, none⟩ ∧ b < W.heap.size ∧ ∀ i x, l[i]? = some x → W.cell? ⟨b, off + i * 4, none⟩ = some (.string x.name) ∧ W.cell? ⟨b, off + i * 4 + 1, none⟩ = some (.string x.label) ∧ W.cell? ⟨b, off + i * 4 + 2, none⟩ = some (.int .i64 x.prio) ∧ W.cell? ⟨b, off + i * 4 + 3, none⟩ = some (.bool x.confirm)) ∧ (∀ x ∈ l, okApp W x) ∧ l.length ≤ maxLen
theorem RowApp.below {W W' : World} {ao : Option Addr} {l : List XApp} (h : RowApp W ao l) (hb : Below W.heap.size W W') : RowApp W' ao l := by
  obtain ⟨h, ho, hm⟩ := h
  refine ⟨?_, fun x hx => (ho x hx).below hb, hm⟩
  rcases h with h | ⟨b, off, e, hlt, hc⟩
  · exact .inl h
  · refine .inr ⟨b, off, e, Nat.lt_of_lt_of_le hlt hb.size, fun i s hi => ?_⟩
    obtain ⟨c0, c1, c2, c3⟩ := hc i s hi
    exact ⟨(hb.cell (p := ⟨b, off + i * 4, none⟩) hlt).trans c0, (hb.cell (p := ⟨b, off + i * 4 + 1, none⟩) hlt).trans c1, (hb.cell (p := ⟨b, off + i * 4 + 2, none⟩) hlt).trans c2, (hb.cell (p := ⟨b, off + i * 4 + 3, none⟩) hlt).trans c3⟩
structure XKnown where
  name : ByteArray
  part : Bool
deriving Inhabited
def valKnown (x : XKnown) : Value := .agg #[.string x.name, .bool x.part]
def okKnown (W : World) (x : XKnown) : Prop := x.name.size ≤ maxLen
theorem okKnown.below {W W' : World} {x : XKnown} (h : okKnown W x) (hb : Below W.heap.size W W') : okKnown W' x := by
  exact h
def RowKnown (W : World) (ao : Option Addr) (l : List XKnown) : Prop :=
  (l = [] ∨ ∃ b off, ao = some ⟨b, off, none⟩ ∧ b < W.heap.size ∧ ∀ i x, l[i]? = some x → W.cell? ⟨b, off + i * 2, none⟩ = some (.string x.name) ∧ W.cell? ⟨b, off + i * 2 + 1, none⟩ = some (.bool x.part)) ∧ (∀ x ∈ l, okKnown W x) ∧ l.length ≤ maxLen
theorem RowKnown.below {W W' : World} {ao : Option Addr} {l : List XKnown} (h : RowKnown W ao l) (hb : Below W.heap.size W W') : RowKnown W' ao l := by
  obtain ⟨h, ho, hm⟩ := h
  refine ⟨?_, fun x hx => (ho x hx).below hb, hm⟩
  rcases h with h | ⟨b, off, e, hlt, hc⟩
  · exact .inl h
  · refine .inr ⟨b, off, e, Nat.lt_of_lt_of_le hlt hb.size, fun i s hi => ?_⟩
    obtain ⟨c0, c1⟩ := hc i s hi
    exact ⟨(hb.cell (p := ⟨b, off + i * 2, none⟩) hlt).trans c0, (hb.cell (p := ⟨b, off + i * 2 + 1, none⟩) hlt).trans c1⟩
end Go.Proofs.Ytolicaaifhfhcaa
namespace Go.Proofs.Ytolicaaifhfhcaa
open Go.RowKit Go.WideMaps Go.Maps
set_option linter.unusedVariables false

theorem lawS : Keyed Try.prog 9 := string_keyed Try.underlying9
theorem zeroI (w : World) : (zeroValue 3).run Try.prog w = .ok (.int .i64 0) w := by kernel_rfl

/-- the names, as bytes -/
def namesL (l : List XApp) : List (List UInt8) := l.map (fun a => a.name.data.toList)
/-- is one of the first k there ahead of itself? -/
def dupTo (ns : List (List UInt8)) : Nat → Bool
  | 0 => false
  | k + 1 => dupTo ns k || (ns.take k).contains (ns.getD k [])

end Go.Proofs.Ytolicaaifhfhcaa
