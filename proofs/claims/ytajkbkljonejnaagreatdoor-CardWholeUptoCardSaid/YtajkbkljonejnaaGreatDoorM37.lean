/- Print of the program. -/
import Derived.Test.YtajkbkljonejnaaGreatDoorM36
import Derived.Test.YtajkbkljonejnaaGreatDoorM35
import Derived.Test.YtajkbkljonejnaaGreatDoorM02
import Derived.Test.YtajkbkljonejnaaGreatDoorM00
import Derived.Maps.OwnSet
import Derived.Maps.OwnOps
import Derived.Maps.Views
import Derived.StringKeys
import Derived.Deep.RegionWith
import Derived.Lib.Strings
import Derived.Deep.RegionHeld3
import Derived.Deep.DeepCutAuto
import Derived.Test.YtajkbkljonejnaaGreatDoorM14
import Derived.Laws.StructEq
import Derived.Deep.QuietTactic
import Derived.BigQuiet
import Derived.Deep.CutBlock
import Derived.Lib.SmallJoins
namespace Go.Proofs.YtajkbkljonejnaaGreatDoor
open Go.RowKit
set_option linter.unusedVariables false

/-- what Print answers -/
def printsE (m : Option (Nat × Nat)) : Int := match m with | none => 1 | some (s, p) => if 8 < p ∨ 65535 < s then 2 else 0
def printsS (d : Nat) (l : List It) : ByteArray := if printsE (measD d l) = 0 then strOfNums (textD d l) else ⟨#[]⟩

end Go.Proofs.YtajkbkljonejnaaGreatDoor
namespace Go.Proofs.YtajkbkljonejnaaGreatDoor
open Go.RowKit
set_option linter.unusedVariables false

theorem strOf_strL (s : ByteArray) : strOfNums (strL s) = s := by
  apply ByteArray.ext
  apply Array.toList_inj.1
  rw [strOfNums_list]
  unfold strL
  rw [List.map_map]
  conv => rhs; rw [← List.map_id s.data.toList]
  refine List.map_congr_left fun u _ => ?_
  simp
theorem strL_extract (s : ByteArray) (i j : Nat) : strL (s.extract i j) = ((strL s).drop i).take (j - i) := by
  unfold strL
  rw [ByteArray.data_extract, Array.toList_extract, List.extract_eq_take_drop, List.map_take, List.map_drop]
theorem strL_split (s : ByteArray) (k : Nat) : strL s = strL (s.extract 0 k) ++ strL (behind s k) := by
  unfold behind
  rw [strL_extract, strL_extract, Nat.sub_zero, List.drop_zero]
  have h : ((strL s).drop k).take (s.size - k) = (strL s).drop k := List.take_of_length_le (by rw [List.length_drop, strL_length]; exact Nat.le_refl _)
  rw [h, List.take_append_drop]
theorem byteAt_strL (s : ByteArray) (i : Nat) (h : i < s.size) : (strL s)[i]? = some (byteAt s i : Int) := by
  unfold strL byteAt
  rw [List.getElem?_map, List.getD_eq_getElem?_getD, List.getElem?_eq_getElem (by simpa using h)]
  rfl
theorem strL_small (s : ByteArray) (k : Nat) (hk : k ≤ s.size) (h3 : k ≤ 3) : strL (s.extract 0 k) = [(byteAt s 0 : Int), (byteAt s 1 : Int), (byteAt s 2 : Int)].take k := by
  rw [strL_extract, Nat.sub_zero, List.drop_zero]
  apply List.ext_getElem?
  intro i
  by_cases hi : i < k
  · rw [List.getElem?_take, List.getElem?_take, if_pos hi, if_pos hi, byteAt_strL s i (by omega)]
    have : i = 0 ∨ i = 1 ∨ i = 2 := by omega
    rcases this with rfl | rfl | rfl <;> rfl
  · rw [List.getElem?_take, List.getElem?_take, if_neg hi, if_neg hi]
/-- the length that is read is written so -/
theorem len_text {s : ByteArray} {n k : Nat} (h : lenAt s = some (n, k)) : strL (s.extract 0 k) = lenL n ∧ lenLen n = k := by
  have hb := lenAt_lt h
  rw [strL_small s k hb.2.2.1 hb.2.2.2]
  have b0 := byteAt_lt s 0
  have b1 := byteAt_lt s 1
  have b2 := byteAt_lt s 2
  unfold lenAt lenN at h
  generalize byteAt s 0 = x at *
  generalize byteAt s 1 = y at *
  generalize byteAt s 2 = z at *
  by_cases c0 : s.size = 0
  · rw [if_pos c0] at h; cases h
  · rw [if_neg c0] at h
    by_cases c1 : x < 128
    · rw [if_pos c1] at h
      cases h
      unfold lenL lenLen
      rw [if_pos c1, if_pos c1]
      exact ⟨rfl, rfl⟩
    · rw [if_neg c1] at h
      by_cases c2 : x = 129 ∧ 2 ≤ s.size
      · rw [if_pos c2] at h
        by_cases c3 : 128 ≤ y
        · rw [if_pos c3] at h
          cases h
          unfold lenL lenLen
          rw [if_neg (by omega), if_pos (by omega), if_neg (by omega), if_pos (by omega), c2.1]
          exact ⟨rfl, rfl⟩
        · rw [if_neg c3] at h; cases h
      · rw [if_neg c2] at h
        by_cases c4 : x = 130 ∧ 3 ≤ s.size
        · rw [if_pos c4] at h
          by_cases c5 : 256 ≤ y * 256 + z
          · rw [if_pos c5] at h
            cases h
            unfold lenL lenLen
            rw [if_neg (by omega), if_neg (by omega), if_neg (by omega), if_neg (by omega), c4.1]
            refine ⟨?_, rfl⟩
            have e1 : ((y * 256 + z : Nat) : Int) / 256 = (y : Int) := by omega
            have e2 : ((y * 256 + z : Nat) : Int) % 256 = (z : Int) := by omega
            rw [e1, e2]
            rfl
          · rw [if_neg c5] at h; cases h
        · rw [if_neg c4] at h; cases h
/-- the tag that is read is written so -/
theorem tag_text {s : ByteArray} (hz : tagSz s.data.toList ≤ s.size) (hv : validB (tagAt s : Int) = true) : strL (s.extract 0 (tagSz s.data.toList)) = tagL (tagAt s) ∧ tagLen (tagAt s) = tagSz s.data.toList := by
  have h13 := tagSz_le s.data.toList
  have hl : s.data.toList.length = s.size := by simp
  have hg := (good_iff s.data.toList (tagSz s.data.toList) h13.1 h13.2 (by omega)).2 ⟨rfl, hv⟩
  have hp := (goodB_parts hg).2
  have ht := (text_same s (tagSz s.data.toList) hz).2 hp
  refine ⟨?_, hp⟩
  rw [← ht]
  exact strL_nums (tagL_bytes _)

theorem body_made {T : List It → List Int} {x : It} (h : madeV x.tag = true) : bodyL T x = T x.list := if_pos h
theorem body_not {T : List It → List Int} {x : It} (h : madeV x.tag = false) : bodyL T x = strL x.text := if_neg (by rw [h]; decide)
theorem fits_made {t : Int} {s n : Nat} (h : madeV t = true) : fitsB t s n = (s == 0) := if_pos h
theorem fits_not {t : Int} {s n : Nat} (h : madeV t = false) : fitsB t s n = (validB t && n == 0) := if_neg (by rw [h]; decide)
theorem item_text {d : Nat} {s : ByteArray} {x : It} {r : ByteArray} (ih : ∀ s l, parseD d s = some l → ∃ p, measD d l = some (s.size, p) ∧ p ≤ d ∧ textD d l = strL s) (h : itemAt (parseD d) s = some (x, r)) :
    fitsB x.tag x.text.size x.list.length = true ∧ (∃ b1 b2, measD d x.list = some (b1, b2) ∧ b2 ≤ d ∧ (bodyL (textD d) x).length = b1 + x.text.size) ∧ strL s = itemL x.tag.toNat (bodyL (textD d) x) ++ strL r := by
  unfold itemAt at h
  split at h
  · cases h
  · rename_i hz
    split at h
    · cases h
    · rename_i hv
      have hv' : validB (tagAt s : Int) = true := by simpa using hv
      obtain ⟨ht, htl⟩ := tag_text (by omega) hv'
      split at h
      · cases h
      · rename_i n k hl
        obtain ⟨hlt, hll⟩ := len_text hl
        split at h
        · cases h
        · rename_i hn
          have e1 := strL_split s (tagSz s.data.toList)
          have e2 := strL_split (behind s (tagSz s.data.toList)) k
          have e3 := strL_split (behind (behind s (tagSz s.data.toList)) k) n
          rw [ht] at e1
          rw [hlt] at e2
          generalize behind (behind s (tagSz s.data.toList)) k = r2 at *
          generalize behind s (tagSz s.data.toList) = r1 at *
          have hbn : (strL (r2.extract 0 n)).length = n := by rw [strL_length, ByteArray.size_extract]; omega
          have hmv : madeV (tagAt s : Int) = madeB (tagAt s) := by unfold madeV; rw [hv', Bool.true_and, Int.toNat_natCast]
          generalize tagAt s = t at *
          split at h
          · rename_i hm
            cases hp : parseD d (r2.extract 0 n) with
            | none => rw [hp] at h; cases h
            | some l =>
              rw [hp] at h
              have e := Option.some.inj h
              have x1 := (Prod.ext_iff.1 e).1
              have x2 := (Prod.ext_iff.1 e).2
              simp only at x1 x2
              obtain ⟨p, hm1, hm2, hm3⟩ := ih _ _ hp
              subst x1
              have hmk : madeV (t : Int) = true := by rw [hmv, hm]
              have hbd : bodyL (textD d) (.mk (t : Int) ⟨#[]⟩ l) = strL (r2.extract 0 n) := (body_made (x := .mk (t : Int) ⟨#[]⟩ l) hmk).trans hm3
              refine ⟨?_, ⟨_, p, hm1, hm2, ?_⟩, ?_⟩
              · exact fits_made hmk
              · rw [hbd, strL_length]; rfl
              · rw [hbd, ← x2, e1, e2, e3]
                unfold itemL
                simp only [It.tag, Int.toNat_natCast]
                rw [hbn]
                simp only [List.append_assoc]
          · rename_i hm
            have e := Option.some.inj h
            have x1 := (Prod.ext_iff.1 e).1
            have x2 := (Prod.ext_iff.1 e).2
            simp only at x1 x2
            subst x1
            have hmf : madeB t = false := by simpa using hm
            have hmk : madeV (t : Int) = false := by rw [hmv, hmf]
            have hbd : bodyL (textD d) (.mk (t : Int) (r2.extract 0 n) []) = strL (r2.extract 0 n) := body_not (x := .mk (t : Int) (r2.extract 0 n) []) hmk
            refine ⟨?_, ⟨0, 0, ?_, Nat.zero_le _, ?_⟩, ?_⟩
            · refine (fits_not hmk).trans ?_
              simp only [It.list]
              rw [hv']
              rfl
            · simp only [It.list]; cases d <;> rfl
            · rw [hbd, strL_length]; simp only [It.text]; omega
            · rw [hbd, ← x2, e1, e2, e3]
              unfold itemL
              simp only [It.tag, Int.toNat_natCast]
              rw [hbn]
              simp only [List.append_assoc]

theorem strL_nil {s : ByteArray} (h : s.size = 0) : strL s = [] := List.length_eq_zero_iff.1 (by rw [strL_length]; exact h)
theorem list_text {d : Nat} (ih : ∀ s l, parseD d s = some l → ∃ p, measD d l = some (s.size, p) ∧ p ≤ d ∧ textD d l = strL s) : ∀ (f : Nat) (s : ByteArray) (l : List It), listP (parseD d) f s = some l →
    (∀ s0 p0, ∃ p, l.foldl (stepM (measD d)) (some (s0, p0)) = some (s0 + s.size, p) ∧ p ≤ max p0 (d + 1)) ∧ textD (d + 1) l = strL s
  | 0, s, l, h => by
    unfold listP at h
    split at h
    · rename_i hz
      cases h
      exact ⟨fun s0 p0 => ⟨p0, by rw [hz]; rfl, by omega⟩, by rw [strL_nil hz]; simp [textD]⟩
    · cases h
  | f + 1, s, l, h => by
    by_cases hz : s.size = 0
    · rw [listP_empty _ _ hz] at h
      cases h
      exact ⟨fun s0 p0 => ⟨p0, by rw [hz]; rfl, by omega⟩, by rw [strL_nil hz]; simp [textD]⟩
    · rw [listP_step hz] at h
      cases hi : itemAt (parseD d) s with
      | none => rw [hi] at h; cases h
      | some xr =>
        obtain ⟨x, r⟩ := xr
        rw [hi] at h
        simp only at h
        cases hr : listP (parseD d) f r with
        | none => rw [hr] at h; cases h
        | some m =>
          rw [hr] at h
          have e : l = x :: m := (Option.some.inj h).symm
          subst e
          obtain ⟨i1, ⟨b1, b2, i2, i3, i4⟩, i5⟩ := item_text ih hi
          obtain ⟨k1, k2⟩ := list_text ih f r m hr
          have hlen : s.size = (itemL x.tag.toNat (bodyL (textD d) x)).length + r.size := by
            have := congrArg List.length i5
            rw [strL_length, List.length_append, strL_length] at this
            exact this
          rw [itemL_length, i4] at hlen
          refine ⟨fun s0 p0 => ?_, ?_⟩
          · obtain ⟨p, q1, q2⟩ := k1 (s0 + (tagLen x.tag.toNat + lenLen (b1 + x.text.size)) + (b1 + x.text.size)) (max p0 (1 + b2))
            refine ⟨p, ?_, by omega⟩
            rw [List.foldl_cons, step_yes, if_pos i1, i2, Option.map_some]
            simp only
            rw [q1]
            congr 2
            omega
          · rw [i5, ← k2]; simp [textD]
theorem parse_print : ∀ (d : Nat) (s : ByteArray) (l : List It), parseD d s = some l → ∃ p, measD d l = some (s.size, p) ∧ p ≤ d ∧ textD d l = strL s
  | 0, s, l, h => by
    unfold parseD at h
    split at h
    · rename_i hz
      cases h
      refine ⟨0, by rw [hz]; rfl, Nat.le_refl _, ?_⟩
      have : (strL s).length = 0 := by rw [strL_length]; exact hz
      rw [List.length_eq_zero_iff.1 this]; rfl
    · cases h
  | d + 1, s, l, h => by
    obtain ⟨h1, h2⟩ := list_text (parse_print d) s.size s l h
    obtain ⟨p, q1, q2⟩ := h1 0 0
    exact ⟨p, by rw [Nat.zero_add] at q1; exact q1, by omega, h2⟩

/-! ### The other way -/
theorem behind_nums (a b : List Int) : behind (strOfNums (a ++ b)) a.length = strOfNums b := by
  apply ByteArray.ext
  apply Array.toList_inj.1
  unfold behind
  rw [strOfNums_list, ByteArray.data_extract, Array.toList_extract, List.extract_eq_take_drop, strOfNums_list, strOfNums_size, List.map_append]
  rw [List.drop_left' (by simp)]
  exact List.take_of_length_le (by simp)
theorem take_nums (a b : List Int) : (strOfNums (a ++ b)).extract 0 a.length = strOfNums a := by
  apply ByteArray.ext
  apply Array.toList_inj.1
  rw [strOfNums_list, ByteArray.data_extract, Array.toList_extract, List.extract_eq_take_drop, strOfNums_list, List.map_append]
  simp
theorem byteAt_nums {L : List Int} (i : Nat) (v : Int) (h : L[i]? = some v) (h0 : 0 ≤ v) (h1 : v < 256) : byteAt (strOfNums L) i = v.toNat := by
  unfold byteAt
  rw [strOfNums_list, List.getD_eq_getElem?_getD, List.getElem?_map, h]
  simp
  omega
theorem len_back (n : Nat) (X : List Int) (hn : n < 65536) : lenAt (strOfNums (lenL n ++ X)) = some (n, lenLen n) := by
  have hs : (strOfNums (lenL n ++ X)).size = lenLen n + X.length := by rw [strOfNums_size, List.length_append, lenL_length]
  unfold lenAt
  rw [hs]
  unfold lenL lenLen
  by_cases c1 : n < 128
  · rw [if_pos c1, if_pos c1, byteAt_nums 0 (n : Int) rfl (by omega) (by omega), Int.toNat_natCast]
    unfold lenN
    rw [if_neg (by omega), if_pos c1]
  · rw [if_neg c1, if_neg c1]
    by_cases c2 : n < 256
    · rw [if_pos c2, if_pos c2, byteAt_nums 0 129 rfl (by omega) (by omega), byteAt_nums 1 (n : Int) rfl (by omega) (by omega), Int.toNat_natCast]
      unfold lenN
      rw [if_neg (by omega), if_neg (by decide), if_pos ⟨rfl, by omega⟩, if_pos (by omega)]
    · rw [if_neg c2, if_neg c2, byteAt_nums 0 130 rfl (by omega) (by omega), byteAt_nums 1 ((n : Int) / 256) rfl (by omega) (by omega), byteAt_nums 2 ((n : Int) % 256) rfl (by omega) (by omega)]
      unfold lenN
      have e : ((n : Int) / 256).toNat * 256 + ((n : Int) % 256).toNat = n := by omega
      rw [if_neg (by omega), if_neg (by decide), if_neg (fun h => absurd h.1 (by decide)), if_pos ⟨rfl, by omega⟩, e, if_pos (by omega)]
theorem tag_back (t : Nat) (X : List Int) (hv : validB (t : Int) = true) : tagSz (strOfNums (tagL t ++ X)).data.toList = tagLen t ∧ tagAt (strOfNums (tagL t ++ X)) = t := by
  have hlt := validB_lt hv
  have hb := valN_bigL t (tagLen t) (lt_tagLen t (by omega))
  have hlen : ((bigL t (tagLen t)).map fun z => UInt8.ofNat z.toNat).length = tagLen t := by rw [List.length_map, bigL_length]
  have e : (strOfNums (tagL t ++ X)).data.toList = ((bigL t (tagLen t)).map fun z => UInt8.ofNat z.toNat) ++ X.map fun z => UInt8.ofNat z.toNat := by rw [strOfNums_list, List.map_append]
  obtain ⟨e1, e2⟩ := tag_text_back t (X.map fun z => UInt8.ofNat z.toNat) hv _ hlen hb
  unfold tagAt
  rw [e, e1, e2, hb]
  exact ⟨rfl, rfl⟩
theorem item_back {P : ByteArray → Option (List It)} {t : Nat} {bd rest : List Int} {x : It} (hv : validB (t : Int) = true) (hn : bd.length < 65536)
    (hx : (madeB t = true ∧ ∃ l, P (strOfNums bd) = some l ∧ x = .mk t ⟨#[]⟩ l) ∨ (madeB t = false ∧ x = .mk t (strOfNums bd) [])) : itemAt P (strOfNums (itemL t bd ++ rest)) = some (x, strOfNums rest) := by
  have e0 : itemL t bd ++ rest = tagL t ++ (lenL bd.length ++ (bd ++ rest)) := by unfold itemL; simp only [List.append_assoc]
  rw [e0]
  obtain ⟨e1, e2⟩ := tag_back t (lenL bd.length ++ (bd ++ rest)) hv
  have e3 : behind (strOfNums (tagL t ++ (lenL bd.length ++ (bd ++ rest)))) (tagLen t) = strOfNums (lenL bd.length ++ (bd ++ rest)) := by
    have := behind_nums (tagL t) (lenL bd.length ++ (bd ++ rest))
    rw [bigL_length] at this
    exact this
  have e4 := len_back bd.length (bd ++ rest) hn
  have e5 : behind (strOfNums (lenL bd.length ++ (bd ++ rest))) (lenLen bd.length) = strOfNums (bd ++ rest) := by
    have := behind_nums (lenL bd.length) (bd ++ rest)
    rw [lenL_length] at this
    exact this
  have e6 := take_nums bd rest
  have e7 := behind_nums bd rest
  have hs : (strOfNums (tagL t ++ (lenL bd.length ++ (bd ++ rest)))).size = tagLen t + (lenL bd.length ++ (bd ++ rest)).length := by rw [strOfNums_size, List.length_append, bigL_length]
  unfold itemAt
  rw [e1, e2, if_neg (by omega), hv, if_neg (by decide), e3, e4]
  simp only
  rw [e5, if_neg (by rw [strOfNums_size, List.length_append]; omega), e6, e7]
  rcases hx with ⟨hm, l, hl, rfl⟩ | ⟨hm, rfl⟩
  · rw [hm, if_pos rfl, hl]; rfl
  · rw [hm, if_neg (by decide)]

theorem fold_grow {M : List It → Option (Nat × Nat)} : ∀ (l : List It) (s0 p0 s p : Nat), l.foldl (stepM M) (some (s0, p0)) = some (s, p) → s0 ≤ s ∧ p0 ≤ p ∧ (l ≠ [] → 1 ≤ p)
  | [], s0, p0, s, p, h => by simp at h; simp [h.1, h.2]
  | x :: r, s0, p0, s, p, h => by
    rw [List.foldl_cons, step_yes] at h
    by_cases hf : fitsB x.tag x.text.size x.list.length = true
    · rw [if_pos hf] at h
      cases hm : M x.list with
      | none => rw [hm, Option.map_none, step_none] at h; cases h
      | some b =>
        rw [hm, Option.map_some] at h
        obtain ⟨b1, b2⟩ := b
        have := fold_grow r _ _ s p h
        refine ⟨by omega, by omega, fun _ => by omega⟩
    · rw [if_neg hf, step_none] at h; cases h
theorem print_list {W : World} {n D : Nat} (ih : ∀ (ao : Option Addr) (l : List It) (s p : Nat), IRow W D ao l → measD D l = some (s, p) → p ≤ n → s ≤ 65535 → parseD n (strOfNums (textD D l)) = some l) :
    ∀ (l : List It) (s0 p0 s p : Nat), (∀ x ∈ l, ∃ co, IRow W D co x.list) → l.foldl (stepM (measD D)) (some (s0, p0)) = some (s, p) → p ≤ n + 1 → s ≤ 65535 → parseD (n + 1) (strOfNums (textD (D + 1) l)) = some l
  | [], s0, p0, s, p, _, _, _, _ => by
    have e : textD (D + 1) ([] : List It) = [] := by simp [textD]
    rw [e]
    exact listP_empty _ _ rfl
  | x :: r, s0, p0, s, p, hrow, h, hp, hs => by
    rw [List.foldl_cons, step_yes] at h
    by_cases hf : fitsB x.tag x.text.size x.list.length = true
    · rw [if_pos hf] at h
      cases hm : measD D x.list with
      | none => rw [hm, Option.map_none, step_none] at h; cases h
      | some b =>
        obtain ⟨b1, b2⟩ := b
        rw [hm, Option.map_some] at h
        simp only at h
        have hpos := (fold_grow r _ _ s p h)
        have hbody := fits_body hf hm (meas_text D _ _ _ hm)
        have hrest := print_list ih r _ _ s p (fun y hy => hrow y (List.mem_cons_of_mem _ hy)) h hp hs
        have e : textD (D + 1) (x :: r) = itemL x.tag.toNat (bodyL (textD D) x) ++ textD (D + 1) r := by simp [textD]
        have hvt : validB x.tag = true := by
          unfold fitsB at hf
          split at hf
          · rename_i hm; unfold madeV at hm; simp at hm; exact hm.1
          · simp at hf; exact hf.1
        have hlt := validB_lt hvt
        obtain ⟨t, ht⟩ := Int.eq_ofNat_of_zero_le (show 0 ≤ x.tag by omega)
        have hmv : madeV x.tag = madeB t := by unfold madeV; rw [hvt, Bool.true_and, ht, Int.toNat_natCast]
        have hsz : (strOfNums (textD (D + 1) (x :: r))).size ≠ 0 := by
          rw [strOfNums_size, e, List.length_append, itemL_length]
          have := tagLen_le x.tag.toNat
          omega
        rw [parse_step hsz, e, ht, Int.toNat_natCast]
        rw [ht] at hvt
        obtain ⟨co, hco⟩ := hrow x (List.mem_cons_self ..)
        have hib : itemAt (parseD n) (strOfNums (itemL t (bodyL (textD D) x) ++ textD (D + 1) r)) = some (x, strOfNums (textD (D + 1) r)) := by
          refine item_back hvt (by omega) ?_
          cases hmd : madeB t with
          | true =>
            left
            have hbd : bodyL (textD D) x = textD D x.list := body_made (by rw [hmv, hmd])
            refine ⟨rfl, x.list, ?_, ?_⟩
            · rw [hbd]; exact ih co x.list b1 b2 hco hm (by omega) (by omega)
            · have h0 : x.text.size = 0 := by
                rw [fits_made (by rw [hmv, hmd])] at hf
                simpa using hf
              have h1 : x.text = ⟨#[]⟩ := by
                apply ByteArray.ext
                exact Array.eq_empty_of_size_eq_zero h0
              cases x with
              | mk a b c => simp only [It.tag, It.text, It.list] at ht h1 ⊢; rw [ht, h1]
          | false =>
            right
            have hbd : bodyL (textD D) x = strL x.text := body_not (by rw [hmv, hmd])
            refine ⟨rfl, ?_⟩
            rw [hbd, strOf_strL]
            have h0 : x.list = [] := by
              rw [fits_not (by rw [hmv, hmd])] at hf
              simp at hf
              exact hf.2
            cases x with
            | mk a b c => simp only [It.tag, It.text, It.list] at ht h0 ⊢; rw [ht, h0]
        rw [hib]
        simp only
        rw [hrest]
        rfl
    · rw [if_neg hf, step_none] at h; cases h
theorem fold_deep {d : Nat} : ∀ (l : List It) (k : Nat) (x : It) (s0 p0 s p : Nat), l.foldl (stepM (measD d)) (some (s0, p0)) = some (s, p) → l[k]? = some x → ∀ b1 b2, measD d x.list = some (b1, b2) → 1 + b2 ≤ p
  | [], k, x, s0, p0, s, p, h, hx, b1, b2, hb => by simp at hx
  | y :: r, k, x, s0, p0, s, p, h, hx, b1, b2, hb => by
    rw [List.foldl_cons, step_yes] at h
    by_cases hf : fitsB y.tag y.text.size y.list.length = true
    · rw [if_pos hf] at h
      cases hm : measD d y.list with
      | none => rw [hm, Option.map_none, step_none] at h; cases h
      | some b =>
        obtain ⟨c1, c2⟩ := b
        rw [hm, Option.map_some] at h
        simp only at h
        cases k with
        | zero =>
          simp at hx
          subst hx
          rw [hm] at hb
          cases hb
          have := fold_grow r _ _ s p h
          omega
        | succ k => exact fold_deep r k x _ _ s p h (by simpa using hx) b1 b2 hb
    · rw [if_neg hf, step_none] at h; cases h
theorem row_items {W : World} {D : Nat} {ao : Option Addr} {l : List It} (h : IRow W (D + 1) ao l) : ∀ x ∈ l, ∃ co, IRow W D co x.list := by
  intro x hx
  obtain ⟨i, hi, rfl⟩ := List.mem_iff_getElem.1 hx
  rcases h with h | ⟨b, off, _, _, hc⟩
  · rw [h] at hi; simp at hi
  · obtain ⟨co, cc, _, _, _, _, h5, _⟩ := hc i l[i] (List.getElem?_eq_getElem hi)
    exact ⟨co, h5⟩
theorem print_parse {W : World} : ∀ (n D : Nat) (ao : Option Addr) (l : List It) (s p : Nat), IRow W D ao l → measD D l = some (s, p) → p ≤ n → s ≤ 65535 → parseD n (strOfNums (textD D l)) = some l
  | n, 0, ao, l, s, p, hr, _, _, _ => by
    rw [show l = [] from hr]
    cases n with
    | zero => rfl
    | succ n => exact listP_empty _ _ rfl
  | 0, D + 1, ao, l, s, p, hr, hm, hp, hs => by
    have hl : l = [] := by
      rcases List.eq_nil_or_concat l with h | ⟨a, b, h⟩
      · exact h
      · have := (fold_grow l 0 0 s p hm).2.2 (by rw [h]; simp)
        omega
    rw [hl]
    rfl
  | n + 1, D + 1, ao, l, s, p, hr, hm, hp, hs => print_list (fun ao l s p h1 h2 h3 h4 => print_parse n D ao l s p h1 h2 h3 h4) l 0 0 s p (row_items hr) hm hp hs
theorem row_depth {W : World} : ∀ (n D : Nat) {ao : Option Addr} {l : List It} {s p : Nat}, IRow W D ao l → measD D l = some (s, p) → p ≤ n → IRow W n ao l
  | n, 0, ao, l, s, p, hr, _, _ => by rw [show l = [] from hr]; exact IRow.nil _ _ _
  | 0, D + 1, ao, l, s, p, hr, hm, hp => by
    rcases List.eq_nil_or_concat l with h | ⟨a, b, h⟩
    · rw [h]; rfl
    · have := (fold_grow l 0 0 s p hm).2.2 (by rw [h]; simp)
      omega
  | n + 1, D + 1, ao, l, s, p, hr, hm, hp => by
    rcases hr with h | ⟨b, off, rfl, hlt, hc⟩
    · exact .inl h
    · refine .inr ⟨b, off, rfl, hlt, fun i x hx => ?_⟩
      obtain ⟨co, cc, h1, h2, h3, h4, h5, h6⟩ := hc i x hx
      obtain ⟨hf, b1, b2, hmx⟩ := fold_item l i x 0 0 s p hm hx
      have hb : 1 + b2 ≤ p := fold_deep l i x 0 0 s p hm hx b1 b2 hmx
      exact ⟨co, cc, h1, h2, h3, h4, row_depth n D h5 hmx (by omega), h6⟩
end Go.Proofs.YtajkbkljonejnaaGreatDoor
namespace Go.Proofs.YtajkbkljonejnaaGreatDoor
open Go.ChangeShapes Go.WideShapes Go.ChangeAt Go.RowKit Go.Deep
set_option linter.unusedVariables false
set_option maxRecDepth 100000

structure XApp where
  name : ByteArray
  label : ByteArray
  prio : Int
  confirm : Bool
deriving Inhabited
def valApp (x : XApp) : Value := .agg #[.string x.name, .string x.label, .int .i64 x.prio, .bool x.confirm]
def okApp (W : World) (x : XApp) : Prop := x.name.size ≤ maxLen ∧ x.label.size ≤ maxLen ∧ (-9223372036854775808 ≤ x.prio ∧ x.prio ≤ 9223372036854775807)
theorem okApp.below {W W' : World} {x : XApp} (h : okApp W x) (hb : Below W.heap.size W W') : okApp W' x := by
  obtain ⟨h0, h1, h2⟩ := h
  exact ⟨h0, h1, h2⟩
def RowApp (W : World) (ao : Option Addr) (l : List XApp) : Prop :=
  (l = [] ∨ ∃ b off, ao = some ⟨b, off, none⟩ ∧ b < W.heap.size ∧ ∀ i x, l[i]? = some x → W.cell? ⟨b, off + i * 4, none⟩ = some (.string x.name) ∧ W.cell? ⟨b, off + i * 4 + 1, none⟩ = some (.string x.label) ∧ W.cell? ⟨b, off + i * 4 + 2, none⟩ = some (.int .i64 x.prio) ∧ W.cell? ⟨b, off + i * 4 + 3, none⟩ = some (.bool x.confirm)) ∧ (∀ x ∈ l, okApp W x) ∧ l.length ≤ maxLen
theorem RowApp.below {W W' : World} {ao : Option Addr} {l : List XApp} (h : RowApp W ao l) (hb : Below W.heap.size W W') : RowApp W' ao l := by
  obtain ⟨h, ho, hm⟩ := h
  refine ⟨?_, fun x hx => (ho x hx).below hb, hm⟩
  rcases h with h | ⟨b, off, e, hlt, hc⟩
  · exact .inl h
  · refine .inr ⟨b, off, e, Nat.lt_of_lt_of_le hlt hb.size, fun i s hi => ?_⟩
    obtain ⟨c0, c1, c2, c3⟩ := hc i s hi
    exact ⟨(hb.cell (p := ⟨b, off + i * 4, none⟩) hlt).trans c0, (hb.cell (p := ⟨b, off + i * 4 + 1, none⟩) hlt).trans c1, (hb.cell (p := ⟨b, off + i * 4 + 2, none⟩) hlt).trans c2, (hb.cell (p := ⟨b, off + i * 4 + 3, none⟩) hlt).trans c3⟩
structure XKnown where
  name : ByteArray
  part : Bool
deriving Inhabited
def valKnown (x : XKnown) : Value := .agg #[.string x.name, .bool x.part]
def okKnown (W : World) (x : XKnown) : Prop := x.name.size ≤ maxLen
theorem okKnown.below {W W' : World} {x : XKnown} (h : okKnown W x) (hb : Below W.heap.size W W') : okKnown W' x := by
  exact h
def RowKnown (W : World) (ao : Option Addr) (l : List XKnown) : Prop :=
  (l = [] ∨ ∃ b off, ao = some ⟨b, off, none⟩ ∧ b < W.heap.size ∧ ∀ i x, l[i]? = some x → W.cell? ⟨b, off + i * 2, none⟩ = some (.string x.name) ∧ W.cell? ⟨b, off + i * 2 + 1, none⟩ = some (.bool x.part)) ∧ (∀ x ∈ l, okKnown W x) ∧ l.length ≤ maxLen
theorem RowKnown.below {W W' : World} {ao : Option Addr} {l : List XKnown} (h : RowKnown W ao l) (hb : Below W.heap.size W W') : RowKnown W' ao l := by
  obtain ⟨h, ho, hm⟩ := h
  refine ⟨?_, fun x hx => (ho x hx).below hb, hm⟩
  rcases h with h | ⟨b, off, e, hlt, hc⟩
  · exact .inl h
  · refine .inr ⟨b, off, e, Nat.lt_of_lt_of_le hlt hb.size, fun i s hi => ?_⟩
    obtain ⟨c0, c1⟩ := hc i s hi
    exact ⟨(hb.cell (p := ⟨b, off + i * 2, none⟩) hlt).trans c0, (hb.cell (p := ⟨b, off + i * 2 + 1, none⟩) hlt).trans c1⟩
end Go.Proofs.YtajkbkljonejnaaGreatDoor
namespace Go.Proofs.YtajkbkljonejnaaGreatDoor
open Go.RowKit Go.WideMaps Go.Maps
set_option linter.unusedVariables false

theorem lawS : Keyed Tryz.prog 9 := string_keyed Tryz.underlying9
theorem zeroI (w : World) : (zeroValue 3).run Tryz.prog w = .ok (.int .i64 0) w := by kernel_rfl

/-- the names, as bytes -/
def namesL (l : List XApp) : List (List UInt8) := l.map (fun a => a.name.data.toList)
/-- is one of the first k there ahead of itself? -/
def dupTo (ns : List (List UInt8)) : Nat → Bool
  | 0 => false
  | k + 1 => dupTo ns k || (ns.take k).contains (ns.getD k [])

end Go.Proofs.YtajkbkljonejnaaGreatDoor
namespace Go.Proofs.YtajkbkljonejnaaGreatDoor
open Go.RowKit
set_option linter.unusedVariables false

theorem anyP_take_succ {α : Type} (l : List α) (p : α → Bool) (k : Nat) (y : α) (h : l[k]? = some y) : (l.take (k + 1)).any p = ((l.take k).any p || p y) := by
  obtain ⟨hk, rfl⟩ := List.getElem?_eq_some_iff.1 h
  rw [List.take_succ_eq_append_getElem hk, List.any_append]
  simp
theorem anyP_of_take {α : Type} (l : List α) (p : α → Bool) (k : Nat) (h : (l.take k).any p = true) : l.any p = true := by
  have e := List.take_append_drop k l
  rw [← e, List.any_append, h, Bool.true_or]

def misB (x : XApp) : Bool := decide (x.name.size < 5 ∨ 16 < x.name.size ∨ x.label.size = 0 ∨ 64 < x.label.size)
def prioB (x : XApp) : Bool := decide (x.prio < 0 ∨ 15 < x.prio)
def knoB (x : XKnown) : Bool := decide (x.name.size = 0 ∨ 16 < x.name.size)
theorem empty_iff (s : ByteArray) : s.toList.isEmpty = decide (s.size = 0) := by
  rw [Lib.toList_data]
  have e : s.size = s.data.toList.length := by simp
  rw [e]
  generalize s.data.toList = m
  cases m <;> simp




/-- what is wrong with applications -/
def appsE (l : List XApp) : Int := if 20 < l.length then 2 else bif l.any misB then 1 else bif l.any prioB then 3 else bif dupTo (namesL l) l.length then 6 else 0

end Go.Proofs.YtajkbkljonejnaaGreatDoor
namespace Go.Proofs.YtajkbkljonejnaaGreatDoor
open Go.RowKit
set_option linter.unusedVariables false

/-- a list that is at most d deep -/
def Deep : Nat → List It → Prop
  | 0, l => l = []
  | d + 1, l => ∀ x ∈ l, Deep d x.list
theorem print_listD {n D : Nat} (ih : ∀ (l : List It) (s p : Nat), Deep D l → measD D l = some (s, p) → p ≤ n → s ≤ 65535 → parseD n (strOfNums (textD D l)) = some l) :
    ∀ (l : List It) (s0 p0 s p : Nat), (∀ x ∈ l, Deep D x.list) → l.foldl (stepM (measD D)) (some (s0, p0)) = some (s, p) → p ≤ n + 1 → s ≤ 65535 → parseD (n + 1) (strOfNums (textD (D + 1) l)) = some l
  | [], s0, p0, s, p, _, _, _, _ => by
    have e : textD (D + 1) ([] : List It) = [] := by simp [textD]
    rw [e]
    exact listP_empty _ _ rfl
  | x :: r, s0, p0, s, p, hrow, h, hp, hs => by
    rw [List.foldl_cons, step_yes] at h
    by_cases hf : fitsB x.tag x.text.size x.list.length = true
    · rw [if_pos hf] at h
      cases hm : measD D x.list with
      | none => rw [hm, Option.map_none, step_none] at h; cases h
      | some b =>
        obtain ⟨b1, b2⟩ := b
        rw [hm, Option.map_some] at h
        simp only at h
        have hpos := (fold_grow r _ _ s p h)
        have hbody := fits_body hf hm (meas_text D _ _ _ hm)
        have hrest := print_listD ih r _ _ s p (fun y hy => hrow y (List.mem_cons_of_mem _ hy)) h hp hs
        have e : textD (D + 1) (x :: r) = itemL x.tag.toNat (bodyL (textD D) x) ++ textD (D + 1) r := by simp [textD]
        have hvt : validB x.tag = true := by
          unfold fitsB at hf
          split at hf
          · rename_i hm; unfold madeV at hm; simp at hm; exact hm.1
          · simp at hf; exact hf.1
        have hlt := validB_lt hvt
        obtain ⟨t, ht⟩ := Int.eq_ofNat_of_zero_le (show 0 ≤ x.tag by omega)
        have hmv : madeV x.tag = madeB t := by unfold madeV; rw [hvt, Bool.true_and, ht, Int.toNat_natCast]
        have hsz : (strOfNums (textD (D + 1) (x :: r))).size ≠ 0 := by
          rw [strOfNums_size, e, List.length_append, itemL_length]
          have := tagLen_le x.tag.toNat
          omega
        rw [parse_step hsz, e, ht, Int.toNat_natCast]
        rw [ht] at hvt
        have hco := hrow x (List.mem_cons_self ..)
        have hib : itemAt (parseD n) (strOfNums (itemL t (bodyL (textD D) x) ++ textD (D + 1) r)) = some (x, strOfNums (textD (D + 1) r)) := by
          refine item_back hvt (by omega) ?_
          cases hmd : madeB t with
          | true =>
            left
            have hbd : bodyL (textD D) x = textD D x.list := body_made (by rw [hmv, hmd])
            refine ⟨rfl, x.list, ?_, ?_⟩
            · rw [hbd]; exact ih x.list b1 b2 hco hm (by omega) (by omega)
            · have h0 : x.text.size = 0 := by
                rw [fits_made (by rw [hmv, hmd])] at hf
                simpa using hf
              have h1 : x.text = ⟨#[]⟩ := by
                apply ByteArray.ext
                exact Array.eq_empty_of_size_eq_zero h0
              cases x with
              | mk a b c => simp only [It.tag, It.text, It.list] at ht h1 ⊢; rw [ht, h1]
          | false =>
            right
            have hbd : bodyL (textD D) x = strL x.text := body_not (by rw [hmv, hmd])
            refine ⟨rfl, ?_⟩
            rw [hbd, strOf_strL]
            have h0 : x.list = [] := by
              rw [fits_not (by rw [hmv, hmd])] at hf
              simp at hf
              exact hf.2
            cases x with
            | mk a b c => simp only [It.tag, It.text, It.list] at ht h0 ⊢; rw [ht, h0]
        rw [hib]
        simp only
        rw [hrest]
        rfl
    · rw [if_neg hf, step_none] at h; cases h
theorem print_parseD : ∀ (n D : Nat) (l : List It) (s p : Nat), Deep D l → measD D l = some (s, p) → p ≤ n → s ≤ 65535 → parseD n (strOfNums (textD D l)) = some l
  | n, 0, l, s, p, hr, _, _, _ => by
    rw [show l = [] from hr]
    cases n with
    | zero => rfl
    | succ n => exact listP_empty _ _ rfl
  | 0, D + 1, l, s, p, hr, hm, hp, hs => by
    have hl : l = [] := by
      rcases List.eq_nil_or_concat l with h | ⟨a, b, h⟩
      · exact h
      · have := (fold_grow l 0 0 s p hm).2.2 (by rw [h]; simp)
        omega
    rw [hl]
    rfl
  | n + 1, D + 1, l, s, p, hr, hm, hp, hs => print_listD (fun l s p h1 h2 h3 h4 => print_parseD n D l s p h1 h2 h3 h4) l 0 0 s p hr hm hp hs
/-- what was printed is read -/
theorem printed_parses {D : Nat} {l : List It} (hd : Deep D l) (he : printsE (measD D l) = 0) : parsesE (printsS D l) = 0 ∧ parsesL (printsS D l) = l := by
  cases hm : measD D l with
  | none => rw [hm] at he; cases he
  | some sp =>
    obtain ⟨s, p⟩ := sp
    rw [hm] at he
    have h1 : printsE (some (s, p)) = if 8 < p ∨ 65535 < s then 2 else 0 := rfl
    rw [h1] at he
    by_cases hc : 8 < p ∨ 65535 < s
    · rw [if_pos hc] at he; cases he
    · have hS : printsS D l = strOfNums (textD D l) := by unfold printsS; rw [hm, h1, if_neg hc, if_pos rfl]
      have hz : (strOfNums (textD D l)).size = s := by rw [strOfNums_size]; exact meas_text D l s p hm
      have hp := print_parseD 8 D l s p hd hm (by omega) (by omega)
      rw [hS]
      constructor
      · unfold parsesE; rw [if_neg (by omega), hp]; rfl
      · unfold parsesL; rw [if_neg (by omega), hp]; rfl

/-- the last byte of an application -/
def lastN (x : XApp) : Int := x.prio + (if x.confirm then 128 else 0)
/-- an application as an item -/
def itemI (x : XApp) : It := .mk 97 ⟨#[]⟩ [.mk 79 x.name [], .mk 80 x.label [], .mk 135 (strOfNums [lastN x]) []]
theorem itemI_deep (l : List XApp) : Deep 2 (l.map itemI) := by
  intro x hx
  obtain ⟨a, _, rfl⟩ := List.mem_map.1 hx
  intro y hy
  simp only [itemI, It.list, List.mem_cons, List.not_mem_nil, or_false] at hy
  rcases hy with rfl | rfl | rfl <;> rfl
theorem lenLen_small {n : Nat} (h : n < 128) : lenLen n = 1 := by unfold lenLen; rw [if_pos h]
theorem fits_97 : fitsB 97 0 3 = true := by decide +kernel
theorem fits_79 (n : Nat) : fitsB 79 n 0 = true := by
  have h : madeV 79 = false := by decide +kernel
  rw [fits_not h]; decide +kernel
theorem fits_80 (n : Nat) : fitsB 80 n 0 = true := by
  have h : madeV 80 = false := by decide +kernel
  rw [fits_not h]; decide +kernel
theorem fits_135 (n : Nat) : fitsB 135 n 0 = true := by
  have h : madeV 135 = false := by decide +kernel
  rw [fits_not h]; decide +kernel
/-- an application's sizes are as they must be -/
def sizedA (x : XApp) : Prop := x.name.size ≤ 16 ∧ x.label.size ≤ 64
theorem meas_in (x : XApp) (h : sizedA x) : measD 1 (itemI x).list = some (x.name.size + x.label.size + 7, 1) := by
  obtain ⟨h1, h2⟩ := h
  simp only [itemI, It.list, measD, List.foldl_cons, List.foldl_nil, step_yes, It.tag, It.text, List.length_nil, fits_79, fits_80, fits_135, if_true, Option.map_some, strOfNums_size, List.length_cons]
  rw [lenLen_small (by omega), lenLen_small (by omega), lenLen_small (by omega)]
  have e1 : tagLen (79 : Int).toNat = 1 := rfl
  have e2 : tagLen (80 : Int).toNat = 1 := rfl
  have e3 : tagLen (135 : Int).toNat = 1 := rfl
  rw [e1, e2, e3]
  congr 1
  ext <;> simp <;> omega
theorem step_app (x : XApp) (h : sizedA x) (s p : Nat) : stepM (measD 1) (some (s, p)) (itemI x) = some (s + (x.name.size + x.label.size + 9), max p 2) := by
  have hm := meas_in x h
  rw [step_yes]
  have e : fitsB (itemI x).tag (itemI x).text.size (itemI x).list.length = true := fits_97
  rw [if_pos e, hm, Option.map_some]
  obtain ⟨h1, h2⟩ := h
  have e0 : (itemI x).text.size = 0 := rfl
  have e1 : tagLen (itemI x).tag.toNat = 1 := rfl
  simp only [e0, e1]
  rw [lenLen_small (by omega)]
  congr 1
  ext <;> simp <;> omega
theorem fold_app : ∀ (l : List XApp) (s p : Nat), (∀ x ∈ l, sizedA x) → p ≤ 2 → ∃ s' p', (l.map itemI).foldl (stepM (measD 1)) (some (s, p)) = some (s', p') ∧ s' ≤ s + l.length * 89 ∧ p' ≤ 2
  | [], s, p, _, hp => ⟨s, p, rfl, by simp, hp⟩
  | x :: r, s, p, h, hp => by
    have h1 := h x (List.mem_cons_self ..)
    obtain ⟨s', p', e, hs, hp'⟩ := fold_app r (s + (x.name.size + x.label.size + 9)) (max p 2) (fun y hy => h y (List.mem_cons_of_mem _ hy)) (by omega)
    obtain ⟨a, b⟩ := h1
    refine ⟨s', p', ?_, ?_, hp'⟩
    · rw [List.map_cons, List.foldl_cons, step_app x ⟨a, b⟩]; exact e
    · rw [List.length_cons]; omega
theorem apps_sized {l : List XApp} (h : appsE l = 0) : l.length ≤ 20 ∧ ∀ x ∈ l, sizedA x ∧ 5 ≤ x.name.size ∧ 0 ≤ x.prio ∧ x.prio ≤ 15 := by
  unfold appsE at h
  split at h
  · cases h
  · rename_i hl
    cases h1 : l.any misB with
    | true => rw [h1] at h; cases h
    | false =>
      rw [h1] at h
      cases h2 : l.any prioB with
      | true => rw [h2] at h; cases h
      | false =>
        refine ⟨by omega, fun x hx => ?_⟩
        have a := List.any_eq_false.1 h1 x hx
        have b := List.any_eq_false.1 h2 x hx
        unfold misB at a
        unfold prioB at b
        simp at a b
        unfold sizedA
        omega
theorem printsE_apps {l : List XApp} (h : appsE l = 0) : printsE (measD 2 (l.map itemI)) = 0 := by
  obtain ⟨hl, hs⟩ := apps_sized h
  obtain ⟨s', p', e, h1, h2⟩ := fold_app l 0 0 (fun x hx => (hs x hx).1) (by omega)
  have e2 : measD 2 (l.map itemI) = some (s', p') := e
  rw [e2]
  show (if 8 < p' ∨ 65535 < s' then (2 : Int) else 0) = 0
  rw [if_neg (by omega)]
/-- how applications are written -/
def appsT (l : List XApp) : ByteArray := printsS 2 (l.map itemI)
theorem wt_app (x : XApp) (h : sizedA x) : wt 1 (itemI x).list ≤ 85 := by
  obtain ⟨a, b⟩ := h
  simp only [wt, itemI, It.list, List.map_cons, List.map_nil, List.sum_cons, List.sum_nil, It.text, strOfNums_size, List.length_cons, List.length_nil]
  omega
theorem wt_apps : ∀ (l : List XApp), (∀ x ∈ l, sizedA x) → wt 2 (l.map itemI) ≤ l.length * 90
  | [], _ => by simp [wt]
  | x :: r, h => by
    have h1 := wt_app x (h x (List.mem_cons_self ..))
    have h2 := wt_apps r (fun y hy => h y (List.mem_cons_of_mem _ hy))
    have e0 : (itemI x).text.size = 0 := rfl
    simp only [wt, List.map_cons, List.sum_cons, List.length_cons] at h1 h2 ⊢
    omega

/-- what is read, where f makes an application of an item -/
def readA (f : It → XApp) (s : ByteArray) : Option (List XApp) :=
  if parsesE s = 0 ∧ appsE ((parsesL s).map f) = 0 ∧ appsT ((parsesL s).map f) = s then some ((parsesL s).map f) else none
theorem readA_of {f : It → XApp} (hf : ∀ x : XApp, sizedA x → 0 ≤ x.prio → x.prio ≤ 15 → f (itemI x) = x) {l : List XApp} (h : appsE l = 0) : readA f (appsT l) = some l := by
  obtain ⟨h1, h2⟩ := printed_parses (itemI_deep l) (printsE_apps h)
  have e : ((l.map itemI).map f) = l := by
    rw [List.map_map]
    conv => rhs; rw [← List.map_id l]
    refine List.map_congr_left fun x hx => ?_
    obtain ⟨a, b, c, d⟩ := (apps_sized h).2 x hx
    exact hf x a c d
  unfold readA
  have h1' : parsesE (appsT l) = 0 := h1
  have h2' : parsesL (appsT l) = l.map itemI := h2
  rw [h1', h2', e, if_pos ⟨rfl, h, rfl⟩]
theorem readA_some {f : It → XApp} {s : ByteArray} {l : List XApp} (h : readA f s = some l) : appsE l = 0 ∧ appsT l = s := by
  unfold readA at h
  split at h
  · rename_i hc
    obtain ⟨a, b, c⟩ := hc
    cases h
    exact ⟨b, c⟩
  · cases h
/-- there is one way alone to read -/
theorem readA_same {f g : It → XApp} (hf : ∀ x : XApp, sizedA x → 0 ≤ x.prio → x.prio ≤ 15 → f (itemI x) = x) (hg : ∀ x : XApp, sizedA x → 0 ≤ x.prio → x.prio ≤ 15 → g (itemI x) = x) (s : ByteArray) : readA f s = readA g s := by
  cases h1 : readA f s with
  | some l =>
    obtain ⟨a, b⟩ := readA_some h1
    rw [← b, readA_of hg a]
  | none =>
    cases h2 : readA g s with
    | none => rfl
    | some l =>
      obtain ⟨a, b⟩ := readA_some h2
      rw [← b, readA_of hf a] at h1
      cases h1
end Go.Proofs.YtajkbkljonejnaaGreatDoor
namespace Go.Proofs.YtajkbkljonejnaaGreatDoor
open Go.RowKit
set_option linter.unusedVariables false

/-- the nine cells of an application's own items -/
def cellsI (x : XApp) : Array Value := #[.int .i64 79, .string x.name, .slice none 0 0, .int .i64 80, .string x.label, .slice none 0 0, .int .i64 135, .string (strOfNums [lastN x]), .slice none 0 0]
theorem or_128 : ∀ f : Fin 16, bits .or .u8 (f.val : Int) 128 = (f.val : Int) + 128 := by decide +kernel
theorem or_prio (p : Int) (h0 : 0 ≤ p) (h1 : p ≤ 15) : bits .or .u8 p 128 = p + 128 := by
  obtain ⟨k, rfl⟩ := Int.eq_ofNat_of_zero_le h0
  exact or_128 ⟨k, by omega⟩
theorem new_blockP (w : World) (o : Obj) (g : Nat) (hg : g = w.heap.size) : (w.alloc o).heap[g]? = some o := by
  subst hg
  exact heap_alloc_new w o
theorem one_byteP (g : Nat) (w : World) (x : Int) (hg : g = w.heap.size) :
    (convert 55 9 (.slice (some ⟨g, 0, none⟩) 1 1)).run Tryz.prog (w.alloc (.cells #[.int .u8 x] 5)) = .ok (.string (strOfNums [x])) (w.alloc (.cells #[.int .u8 x] 5)) := by
  subst hg
  exact run_convert_bytes_arg (P := Tryz.prog) _ 55 5 Tryz.underlying55 Tryz.underlying5 w.heap.size 0 1 1 [x] rfl (fun i hi => by
    obtain rfl : i = 0 := by simp at hi; omega
    rw [Nat.add_zero, cell_of_row _ _ 0 _ _ _ (heap_alloc_new w _)]; rfl) 9 Tryz.underlying9

theorem own_blockP {w : World} {base g n size : Nat} {e : TypeId} {xs : List Value} (h : w.ownsRow base e size (.slice (some ⟨g, 0, none⟩) n n) n xs) : ∃ cur : Array Value, w.heap[g]? = some (.cells cur e (0, 0)) ∧ cur.size = n * size := by
  rcases h.2 with ⟨h1, h2⟩ | ⟨g', cap, cur, h1, hB, hh, hle, hm, hsz, htk⟩
  · simp at h1
  · simp only [Value.slice.injEq, Option.some.injEq, Addr.mk.injEq, and_true, true_and] at h1
    obtain ⟨rfl, rfl⟩ := h1
    exact ⟨cur, hh, by first | exact hsz | (rw [hsz]; done) | omega⟩
theorem block_ltQ {w : World} {g : Nat} {o : Obj} (h : w.heap[g]? = some o) : g < w.heap.size := by
  rcases Nat.lt_or_ge g w.heap.size with h1 | h1
  · exact h1
  · rw [Array.getElem?_eq_none h1] at h; cases h
theorem set_rowQ {w : World} {g j : Nat} {cs : Array Value} {e : TypeId} {fr : Nat × Nat} {v : Value} (h : w.heap[g]? = some (.cells cs e fr)) : (w.setCell ⟨g, j, none⟩ v).heap[g]? = some (.cells (cs.setIfInBounds j v) e fr) := by
  simp [World.setCell, Array.getElem?_modify, h]
theorem get_setS (C : Array Value) (i : Nat) (v : Value) (h : i < C.size) : (C.setIfInBounds i v)[i]? = some v := by simp [h]
theorem get_setO (C : Array Value) (i j : Nat) (v : Value) (h : i ≠ j) : (C.setIfInBounds i v)[j]? = C[j]? := by simp [h]
/-- what Print answers -/
def appsS (l : List XApp) : ByteArray := if appsE l = 0 then appsT l else ⟨#[]⟩
theorem ret_pairQ {s t : ByteArray} {a b : Int} (h1 : s = t) (h2 : a = b) : Ending.returned (.tuple #[.string s, .int .i64 a]) = .returned (.tuple #[.string t, .int .i64 b]) := by rw [h1, h2]
end Go.Proofs.YtajkbkljonejnaaGreatDoor
namespace Go.Proofs.YtajkbkljonejnaaGreatDoor
open Go.RowKit
set_option linter.unusedVariables false

/-- the text of a tag within an item, as the program finds it -/
def gotT (n : Int) (d : Nat) (l : List It) : ByteArray := (findD n d l).getD ⟨#[]⟩
/-- the application of an item, as the program reads it -/
def appP (d : Nat) (x : It) : XApp := ⟨gotT 79 d x.list, gotT 80 d x.list, bits .andNot .i64 (readV (gotT 135 d x.list)) 128, (bits .and .i64 (readV (gotT 135 d x.list)) 128 != 0)⟩
theorem find_size (n : Int) : ∀ (d : Nat) (l : List It) (t : ByteArray), findD n d l = some t → t.size ≤ wt d l
  | 0, l, t, h => by cases h
  | d + 1, [], t, h => by cases h
  | d + 1, x :: r, t, h => by
    have e : findD n (d + 1) (x :: r) = match stepF n (findD n d) x with | some u => some u | none => findD n (d + 1) r := by
      show List.findSome? _ (x :: r) = _
      rw [List.findSome?_cons]
      cases stepF n (findD n d) x <;> rfl
    rw [e] at h
    have hw : wt (d + 1) (x :: r) = 1 + x.text.size + wt d x.list + wt (d + 1) r := by simp [wt]
    cases hs : stepF n (findD n d) x with
    | none =>
      rw [hs] at h
      have := find_size n (d + 1) r t h
      omega
    | some u =>
      rw [hs] at h
      obtain rfl : u = t := Option.some.inj h
      unfold stepF at hs
      split at hs
      · have := find_size n d x.list u hs
        omega
      · split at hs
        · obtain rfl := Option.some.inj hs
          omega
        · cases hs
theorem got_size (n : Int) (d : Nat) (l : List It) : (gotT n d l).size ≤ wt d l := by
  unfold gotT
  cases h : findD n d l with
  | none => exact Nat.zero_le _
  | some t => exact find_size n d l t h
theorem bits_bound (op : BinOp) (x y : Int) : -9223372036854775808 ≤ bits op .i64 x y ∧ bits op .i64 x y ≤ 9223372036854775807 := by
  unfold bits
  simp only
  rw [IntKind.wrap_i64]
  generalize (_ : Int) = z
  omega
theorem last_bits : ∀ (f : Fin 16) (c : Bool), bits .andNot .i64 ((f.val : Int) + (if c then 128 else 0)) 128 = f.val ∧ (bits .and .i64 ((f.val : Int) + (if c then 128 else 0)) 128 != 0) = c := by decide +kernel
theorem read_one (n : Int) (h0 : 0 ≤ n) (h1 : n < 256) : readV (strOfNums [n]) = n := by
  have hs : (strOfNums [n]).size = 1 := by rw [strOfNums_size]; rfl
  have hd : (strOfNums [n]).data.toList = [UInt8.ofNat n.toNat] := by simp [strOfNums]
  have hv : valN [UInt8.ofNat n.toNat] = n.toNat := by
    have : (UInt8.ofNat n.toNat).toNat = n.toNat := by rw [UInt8.toNat_ofNat']; omega
    simp [valN, this]
  unfold readV
  rw [hs, if_neg (by omega), hd, hv, if_neg (by omega)]
  omega
theorem find_leaf {n t : Int} {d : Nat} {s : ByteArray} {r : List It} (hm : madeV t = false) : findD n (d + 1) (.mk t s [] :: r) = if t = n then some s else findD n (d + 1) r := by
  show List.findSome? _ (_ :: r) = _
  rw [List.findSome?_cons]
  have e : stepF n (findD n d) (.mk t s []) = if t = n then some s else none := by
    unfold stepF
    rw [show (It.mk t s []).tag = t from rfl, hm]
    rfl
  rw [e]
  by_cases h : t = n
  · rw [if_pos h, if_pos h]
  · rw [if_neg h, if_neg h]; rfl
theorem made_79 : madeV 79 = false := by decide +kernel
theorem made_80 : madeV 80 = false := by decide +kernel
theorem made_135 : madeV 135 = false := by decide +kernel
theorem appP_item (x : XApp) (hs : sizedA x) (h0 : 0 ≤ x.prio) (h1 : x.prio ≤ 15) : appP 7 (itemI x) = x := by
  have e1 : gotT 79 7 (itemI x).list = x.name := by
    show (findD 79 (6 + 1) (.mk 79 x.name [] :: _)).getD _ = _
    rw [find_leaf made_79, if_pos rfl]; rfl
  have e2 : gotT 80 7 (itemI x).list = x.label := by
    show (findD 80 (6 + 1) (.mk 79 x.name [] :: .mk 80 x.label [] :: _)).getD _ = _
    rw [find_leaf made_79, if_neg (by decide), find_leaf made_80, if_pos rfl]; rfl
  have e3 : gotT 135 7 (itemI x).list = strOfNums [lastN x] := by
    show (findD 135 (6 + 1) (.mk 79 x.name [] :: .mk 80 x.label [] :: .mk 135 (strOfNums [lastN x]) [] :: [])).getD _ = _
    rw [find_leaf made_79, if_neg (by decide), find_leaf made_80, if_neg (by decide), find_leaf made_135, if_pos rfl]; rfl
  obtain ⟨p, hp⟩ := Int.eq_ofNat_of_zero_le h0
  have hl : lastN x = (p : Int) + (if x.confirm then 128 else 0) := by unfold lastN; rw [hp]
  have e4 : readV (gotT 135 7 (itemI x).list) = (p : Int) + (if x.confirm then 128 else 0) := by
    rw [e3, hl]
    refine read_one _ ?_ ?_
    · split <;> omega
    · split <;> omega
  obtain ⟨b1, b2⟩ := last_bits ⟨p, by omega⟩ x.confirm
  unfold appP
  rw [e4, e1, e2]
  simp only at b1 b2
  rw [b1, b2, ← hp]

theorem two_newP (w : World) (A B : Obj) : ((w.alloc A).alloc B).heap[w.heap.size]? = some A ∧ ((w.alloc A).alloc B).heap[w.heap.size + 1]? = some B := by
  constructor
  · have h := ((Below.refl (w.alloc A).heap.size (w.alloc A)).alloc (Nat.le_refl _) B).block w.heap.size (by simp)
    rw [h]; exact heap_alloc_new w A
  · exact new_blockP _ _ _ (by simp)

theorem appP_ok (d : Nat) (x : It) (W : World) (h : wt d x.list ≤ 1048576) : okApp W (appP d x) := by
  have h1 := got_size 79 d x.list
  have h2 := got_size 80 d x.list
  refine ⟨?_, ?_, ?_⟩
  rotate_left 2
  · exact bits_bound .andNot (readV (gotT 135 d x.list)) 128
  · show (gotT 79 d x.list).size ≤ maxLen
    unfold maxLen; omega
  · show (gotT 80 d x.list).size ≤ maxLen
    unfold maxLen; omega
/-- what is read -/
def readsL (s : ByteArray) : List XApp := (readA (appP 7) s).getD []
def readsE (s : ByteArray) : Int := if (readA (appP 7) s).isSome then 0 else 1
theorem parses_ne {s : ByteArray} (h : parsesE s ≠ 0) : readsL s = [] ∧ readsE s = 1 := by
  have : readA (appP 7) s = none := by unfold readA; rw [if_neg (fun hc => h hc.1)]
  unfold readsL readsE
  rw [this]
  exact ⟨rfl, rfl⟩
theorem ret_rowQ {ao : Option Addr} {n m c : Nat} {a b : Int} (h1 : n = m) (h2 : a = b) : Ending.returned (.tuple #[.slice ao n c, .int .i64 a]) = .returned (.tuple #[.slice ao m c, .int .i64 b]) := by rw [h1, h2]
theorem rowApp_nil (W : World) (ao : Option Addr) : RowApp W ao [] := ⟨.inl rfl, by simp, by simp⟩
theorem toList_neQ {x y : ByteArray} (h : x ≠ y) : (x.toList == y.toList) = false := by
  rw [beq_eq_false_iff_ne]
  intro e
  apply h
  rw [Lib.toList_data, Lib.toList_data] at e
  apply ByteArray.ext
  exact Array.toList_inj.1 e
end Go.Proofs.YtajkbkljonejnaaGreatDoor
namespace Go.Proofs.YtajkbkljonejnaaGreatDoor
open Go.RowKit
set_option linter.unusedVariables false

def inT (n a b : Int) : Bool := decide (a ≤ n ∧ n ≤ b)
theorem inT_true {n a b : Int} : inT n a b = true ↔ a ≤ n ∧ n ≤ b := by unfold inT; simp
theorem inT_false {n a b : Int} (h : ¬ (a ≤ n ∧ n ≤ b)) : inT n a b = false := decide_eq_false h
theorem ret_boolQ {a b : Bool} (h : a = b) : Ending.returned (.bool a) = .returned (.bool b) := by rw [h]
def zeroD : XDeal := ⟨0, 0, 0, false, 0, 0, ⟨#[]⟩⟩
/-- a command with nothing but what belongs to it -/
def ownC (c : XCommand) : XCommand :=
  if c.dO = 2 then ⟨c.dO, c.name, ⟨#[]⟩, 0, zeroD, ⟨#[]⟩, ⟨#[]⟩, ⟨#[]⟩⟩
  else if c.dO = 4 then ⟨c.dO, ⟨#[]⟩, c.digits, 0, zeroD, ⟨#[]⟩, ⟨#[]⟩, ⟨#[]⟩⟩
  else if c.dO = 5 then ⟨c.dO, ⟨#[]⟩, ⟨#[]⟩, c.want, c.deal, c.extra, ⟨#[]⟩, ⟨#[]⟩⟩
  else if c.dO = 6 then ⟨c.dO, ⟨#[]⟩, ⟨#[]⟩, c.want, zeroD, ⟨#[]⟩, c.answer, ⟨#[]⟩⟩
  else if c.dO = 7 then ⟨c.dO, ⟨#[]⟩, ⟨#[]⟩, 0, zeroD, ⟨#[]⟩, ⟨#[]⟩, c.orders⟩
  else ⟨c.dO, ⟨#[]⟩, ⟨#[]⟩, 0, zeroD, ⟨#[]⟩, ⟨#[]⟩, ⟨#[]⟩⟩
theorem toList_injQ {x y : ByteArray} (h : x.toList = y.toList) : x = y := by
  rw [Lib.toList_data, Lib.toList_data] at h
  apply ByteArray.ext
  exact Array.toList_inj.1 h
instance : DecidableEq XDeal := fun a b => by
  obtain ⟨a1, a2, a3, a4, a5, a6, a7⟩ := a
  obtain ⟨b1, b2, b3, b4, b5, b6, b7⟩ := b
  exact decidable_of_iff (a1 = b1 ∧ a2 = b2 ∧ a3 = b3 ∧ a4 = b4 ∧ a5 = b5 ∧ a6 = b6 ∧ a7 = b7) (by simp)
instance : DecidableEq XCommand := fun a b => by
  obtain ⟨a1, a2, a3, a4, a5, a6, a7, a8⟩ := a
  obtain ⟨b1, b2, b3, b4, b5, b6, b7, b8⟩ := b
  exact decidable_of_iff (a1 = b1 ∧ a2 = b2 ∧ a3 = b3 ∧ a4 = b4 ∧ a5 = b5 ∧ a6 = b6 ∧ a7 = b7 ∧ a8 = b8) (by simp)
end Go.Proofs.YtajkbkljonejnaaGreatDoor
namespace Go.Proofs.YtajkbkljonejnaaGreatDoor
open Go.RowKit
set_option linter.unusedVariables false

theorem dupTo_mono (ns : List (List UInt8)) (k n : Nat) (h : dupTo ns k = true) (hkn : k ≤ n) : dupTo ns n = true := by
  induction n with
  | zero => rw [show k = 0 by omega] at h; exact h
  | succ n ih =>
    by_cases hk : k = n + 1
    · rw [← hk]; exact h
    · rw [dupTo, ih (by omega), Bool.true_or]

end Go.Proofs.YtajkbkljonejnaaGreatDoor
namespace Go.Proofs.YtajkbkljonejnaaGreatDoor
open Go.RowKit
set_option linter.unusedVariables false

/-- the text of an application's own items -/
def inS (x : XApp) : ByteArray := strOfNums [79, (x.name.size : Int)] ++ x.name ++ strOfNums [80, (x.label.size : Int)] ++ x.label ++ strOfNums [135, 1, lastN x]
/-- applications, one behind the other -/
def refT (l : List XApp) : ByteArray := strOfNums (textD 2 (l.map itemI))
theorem str_strL (s : ByteArray) : strOfNums (strL s) = s := strOf_strL s
theorem itemL_small {t : Nat} {b : List Int} (ht : t < 256) (hb : b.length < 128) : itemL t b = (t : Int) :: (b.length : Int) :: b := by
  unfold itemL
  have h1 : tagL t = [(t : Int)] := by
    show bigL t (tagLen t) = _
    have h2 : tagLen t = 1 := by unfold tagLen; rw [if_pos ht]
    rw [h2]
    simp [bigL]
    omega
  have h3 : lenL b.length = [(b.length : Int)] := by unfold lenL; rw [if_pos hb]
  rw [h1, h3]
  rfl
theorem in_text (x : XApp) (h : sizedA x) : textD 1 (itemI x).list = [79, (x.name.size : Int)] ++ strL x.name ++ [80, (x.label.size : Int)] ++ strL x.label ++ [135, 1, lastN x] ∨ ¬ (0 ≤ lastN x ∧ lastN x < 256) := by
  by_cases hl : 0 ≤ lastN x ∧ lastN x < 256
  case neg => exact .inr hl
  left
  obtain ⟨a, b⟩ := h
  have e1 : bodyL (textD 0) (.mk 79 x.name []) = strL x.name := body_not made_79
  have e2 : bodyL (textD 0) (.mk 80 x.label []) = strL x.label := body_not made_80
  have e3 : bodyL (textD 0) (.mk 135 (strOfNums [lastN x]) []) = strL (strOfNums [lastN x]) := body_not made_135
  have e4 : strL (strOfNums [lastN x]) = [lastN x] := strL_nums (fun n hn => by simp at hn; subst hn; exact hl)
  have hn := strL_length x.name
  have hb := strL_length x.label
  have f1 : itemL (It.mk 79 x.name []).tag.toNat (bodyL (textD 0) (.mk 79 x.name [])) = 79 :: (x.name.size : Int) :: strL x.name := by
    rw [e1, show (It.mk 79 x.name []).tag.toNat = 79 from rfl, itemL_small (by decide) (by omega), hn]; rfl
  have f2 : itemL (It.mk 80 x.label []).tag.toNat (bodyL (textD 0) (.mk 80 x.label [])) = 80 :: (x.label.size : Int) :: strL x.label := by
    rw [e2, show (It.mk 80 x.label []).tag.toNat = 80 from rfl, itemL_small (by decide) (by omega), hb]; rfl
  have f3 : itemL (It.mk 135 (strOfNums [lastN x]) []).tag.toNat (bodyL (textD 0) (.mk 135 (strOfNums [lastN x]) [])) = [135, 1, lastN x] := by
    rw [e3, e4, show (It.mk 135 (strOfNums [lastN x]) []).tag.toNat = 135 from rfl, itemL_small (by decide) (by simp)]; rfl
  show List.flatMap _ [_, _, _] = _
  rw [List.flatMap_cons, List.flatMap_cons, List.flatMap_cons, List.flatMap_nil, f1, f2, f3]
  simp
theorem made_97 : madeV 97 = true := by decide +kernel
theorem last_byte {x : XApp} (h0 : 0 ≤ x.prio) (h1 : x.prio ≤ 15) : 0 ≤ lastN x ∧ lastN x < 256 := by
  unfold lastN
  split <;> omega
theorem in_str (x : XApp) (h : sizedA x) (h0 : 0 ≤ x.prio) (h1 : x.prio ≤ 15) : strOfNums (textD 1 (itemI x).list) = inS x ∧ (textD 1 (itemI x).list).length = x.name.size + x.label.size + 7 := by
  rcases in_text x h with e | e
  · rw [e]
    constructor
    · simp only [← strOfNums_append, str_strL]; rfl
    · simp [strL_length]; omega
  · exact absurd (last_byte h0 h1) e
theorem refT_next (l : List XApp) (k : Nat) (x : XApp) (hx : l[k]? = some x) (h : sizedA x) (h0 : 0 ≤ x.prio) (h1 : x.prio ≤ 15) :
    refT (l.take (k + 1)) = refT (l.take k) ++ (strOfNums [97, ((inS x).size : Int)] ++ inS x) := by
  obtain ⟨e, hl⟩ := in_str x h h0 h1
  have hs : (inS x).size = x.name.size + x.label.size + 7 := by rw [← e, strOfNums_size]; exact hl
  have hm : (l.map itemI)[k]? = some (itemI x) := by rw [List.getElem?_map, hx]; rfl
  have ht := text_take (d := 1) hm
  unfold refT
  rw [List.map_take, List.map_take, ht, ← strOfNums_append]
  congr 1
  have hb : bodyL (textD 1) (itemI x) = textD 1 (itemI x).list := body_made made_97
  rw [hb, show (itemI x).tag.toNat = 97 from rfl, itemL_small (by decide) (by obtain ⟨a, b⟩ := h; omega), hl, hs]
  rw [← e]
  rw [show ((97 : Nat) : Int) :: ((x.name.size + x.label.size + 7 : Nat) : Int) :: textD 1 (itemI x).list = [97, ((x.name.size + x.label.size + 7 : Nat) : Int)] ++ textD 1 (itemI x).list from rfl, ← strOfNums_append]
theorem refT_all {l : List XApp} (h : appsE l = 0) : refT l = appsT l := by
  unfold refT appsT printsS
  rw [printsE_apps h, if_pos rfl]
theorem refT_size : ∀ (l : List XApp) (k : Nat), (∀ x ∈ l, sizedA x ∧ 0 ≤ x.prio ∧ x.prio ≤ 15) → k ≤ l.length → (refT (l.take k)).size ≤ k * 90
  | l, 0, _, _ => by simp [refT, textD, strOfNums_size]
  | l, k + 1, h, hk => by
    have ih := refT_size l k h (by omega)
    obtain ⟨x, hx⟩ : ∃ x, l[k]? = some x := ⟨_, List.getElem?_eq_getElem (by omega)⟩
    obtain ⟨a, b, c⟩ := h x (List.mem_of_getElem? hx)
    obtain ⟨e, hl⟩ := in_str x a b c
    have hs : (inS x).size = x.name.size + x.label.size + 7 := by rw [← e, strOfNums_size]; exact hl
    rw [refT_next l k x hx a b c, ByteArray.size_append, ByteArray.size_append, strOfNums_size, hs]
    obtain ⟨p, q⟩ := a
    simp only [List.length_cons, List.length_nil]
    omega
theorem inS_size (x : XApp) : (inS x).size = x.name.size + x.label.size + 7 := by
  unfold inS
  simp only [ByteArray.size_append, strOfNums_size, List.length_cons, List.length_nil]
  omega
theorem bytesP2 (x y : Int) (h0 : 0 ≤ x ∧ x < 256) (h1 : 0 ≤ y ∧ y < 256) (b cap : Nat) (w : World) (c0 : w.cell? ⟨b, 0, none⟩ = some (.int .i64 x)) (c1 : w.cell? ⟨b, 1, none⟩ = some (.int .i64 y)) :
    Calls Tryz.prog 54 #[.slice (some ⟨b, 0, none⟩) 2 cap] w fun e w' => e = .returned (.string (strOfNums [x, y])) ∧ Below w.heap.size w w' := by
  have h := bytes_any [x, y] b 0 2 cap w rfl (by omega) (World.block_lt_of_cell? w _ c0) (fun i hi => by
    have : i = 0 ∨ i = 1 := by omega
    rcases this with rfl | rfl
    · exact c0
    · exact c1)
  have e : ([x, y] : List Int).map lowByte = [x, y] := by simp [lowByte]; omega
  rw [e] at h
  exact h
theorem bytesP3 (x y z : Int) (h0 : 0 ≤ x ∧ x < 256) (h1 : 0 ≤ y ∧ y < 256) (h2 : 0 ≤ z ∧ z < 256) (b cap : Nat) (w : World) (c0 : w.cell? ⟨b, 0, none⟩ = some (.int .i64 x)) (c1 : w.cell? ⟨b, 1, none⟩ = some (.int .i64 y)) (c2 : w.cell? ⟨b, 2, none⟩ = some (.int .i64 z)) :
    Calls Tryz.prog 54 #[.slice (some ⟨b, 0, none⟩) 3 cap] w fun e w' => e = .returned (.string (strOfNums [x, y, z])) ∧ Below w.heap.size w w' := by
  have h := bytes_any [x, y, z] b 0 3 cap w rfl (by omega) (World.block_lt_of_cell? w _ c0) (fun i hi => by
    have : i = 0 ∨ i = 1 ∨ i = 2 := by omega
    rcases this with rfl | rfl | rfl
    · exact c0
    · exact c1
    · exact c2)
  have e : ([x, y, z] : List Int).map lowByte = [x, y, z] := by simp [lowByte]; omega
  rw [e] at h
  exact h
theorem keep_cellQ {w w' : World} {a : Addr} {v : Value} (h : Below w.heap.size w w') (hc : w.cell? a = some v) : w'.cell? a = some v := (h.cell (World.block_lt_of_cell? w a hc)).trans hc
theorem old_cellQ {w : World} {o : Obj} {a : Addr} {v : Value} (hc : w.cell? a = some v) : (w.alloc o).cell? a = some v := keep_cellQ ((Below.refl w.heap.size w).alloc (Nat.le_refl _) o) hc
theorem drew_cellQ {w : World} {a : Addr} {v : Value} (hc : w.cell? a = some v) : w.drew.cell? a = some v := hc
theorem new_cellQ {w : World} {g j : Nat} {cs : Array Value} {e : TypeId} {v : Value} (hg : g = w.heap.size) (hc : cs[j]? = some v) : (w.alloc (.cells cs e)).cell? ⟨g, j, none⟩ = some v := by
  subst hg
  rw [cell_of_row _ _ j _ e _ (heap_alloc_new w _)]
  exact hc
theorem ext_drewQ (W : World) : Below W.heap.size W W.drew := (Below.refl _ _).drew
theorem ext_allocQ {W x : World} (h : Below W.heap.size W x) (o : Obj) : Below W.heap.size W (x.alloc o) := h.alloc h.size o
theorem ext_callQ {W x y : World} (h : Below W.heap.size W x) (k : Below x.heap.size x y) : Below W.heap.size W y := h.trans (k.mono h.size)
end Go.Proofs.YtajkbkljonejnaaGreatDoor
