/- What is wrong with applications: Check of the program. -/
import Derived.Test.YtolicaaifhfhcaaM39
import Derived.Lib.Strings
import Derived.Test.YtolicaaifhfhcaaM05
namespace Go.Proofs.Ytolicaaifhfhcaa
open Go.RowKit
set_option linter.unusedVariables false

theorem anyP_take_succ {α : Type} (l : List α) (p : α → Bool) (k : Nat) (y : α) (h : l[k]? = some y) : (l.take (k + 1)).any p = ((l.take k).any p || p y) := by
  obtain ⟨hk, rfl⟩ := List.getElem?_eq_some_iff.1 h
  rw [List.take_succ_eq_append_getElem hk, List.any_append]
  simp
theorem anyP_of_take {α : Type} (l : List α) (p : α → Bool) (k : Nat) (h : (l.take k).any p = true) : l.any p = true := by
  have e := List.take_append_drop k l
  rw [← e, List.any_append, h, Bool.true_or]

def misB (x : XApp) : Bool := decide (x.name.size < 5 ∨ 16 < x.name.size ∨ x.label.size = 0 ∨ 64 < x.label.size)
def prioB (x : XApp) : Bool := decide (x.prio < 0 ∨ 15 < x.prio)
def knoB (x : XKnown) : Bool := decide (x.name.size = 0 ∨ 16 < x.name.size)
theorem empty_iff (s : ByteArray) : s.toList.isEmpty = decide (s.size = 0) := by
  rw [Lib.toList_data]
  have e : s.size = s.data.toList.length := by simp
  rw [e]
  generalize s.data.toList = m
  cases m <;> simp




/-- what is wrong with applications -/
def appsE (l : List XApp) : Int := if 20 < l.length then 2 else bif l.any misB then 1 else bif l.any prioB then 3 else bif dupTo (namesL l) l.length then 6 else 0

end Go.Proofs.Ytolicaaifhfhcaa
namespace Go.Proofs.Ytolicaaifhfhcaa
open Go.RowKit
set_option linter.unusedVariables false

abbrev numOk (n k : Int) : Prop := 1 ≤ k ∧ k ≤ 8 ∧ 0 ≤ n ∧ n < 256 ^ k.toNat
/-- what is answered: the text -/
def numS (n k : Int) : ByteArray := if numOk n k then strOfNums (bigL n.toNat k.toNat) else ⟨#[]⟩
/-- and the error -/
def numE (n k : Int) : Int := if numOk n k then 0 else 3
theorem numS_yes {n k : Int} (h : numOk n k) : numS n k = strOfNums (bigL n.toNat k.toNat) := by rw [numS, if_pos h]
theorem numS_no {n k : Int} (h : ¬ numOk n k) : numS n k = ⟨#[]⟩ := by rw [numS, if_neg h]
theorem numE_yes {n k : Int} (h : numOk n k) : numE n k = 0 := by rw [numE, if_pos h]
theorem numE_no {n k : Int} (h : ¬ numOk n k) : numE n k = 3 := by rw [numE, if_neg h]

theorem num_cases (n k : Int) : (k < 1 ∨ 8 < k) ∨ (1 ≤ k ∧ k ≤ 8 ∧ n < 0) ∨ ∃ n' k' : Nat, n = n' ∧ k = k' ∧ 1 ≤ k' ∧ k' ≤ 8 := by
  by_cases h1 : k < 1 ∨ 8 < k
  · exact .inl h1
  · by_cases h2 : n < 0
    · exact .inr (.inl ⟨by omega, by omega, h2⟩)
    · exact .inr (.inr ⟨n.toNat, k.toNat, by omega, by omega, by omega, by omega⟩)
theorem numOk_nat (n k : Nat) (h1 : 1 ≤ k) (h8 : k ≤ 8) : numOk n k ↔ n < 256 ^ k := by
  have e : ((n : Int) < 256 ^ ((k : Int)).toNat) ↔ n < 256 ^ k := by
    rw [Int.toNat_natCast, show ((256 : Int) ^ k) = ((256 ^ k : Nat) : Int) by simp]
    omega
  constructor
  · intro h
    exact e.1 h.2.2.2
  · intro h
    exact ⟨by omega, by omega, by omega, e.2 h⟩

theorem number_all (n k : Int) (w : World) (hn : n ≤ 9223372036854775807) :
    Calls Try.prog 32 #[.int .i64 n, .int .i64 k] w fun e w' => e = .returned (.tuple #[.string (numS n k), .int .i64 (numE n k)]) ∧ Below w.heap.size w w' := by
  rcases num_cases n k with h | ⟨h1, h8, h⟩ | ⟨n', k', rfl, rfl, h1, h8⟩
  · rw [numS_no (by rintro ⟨_, _, _, _⟩; omega), numE_no (by rintro ⟨_, _, _, _⟩; omega)]
    exact (number_no1 n k w h).mono fun e w' ⟨he, hw⟩ => ⟨he, by rw [hw]; exact Below.refl _ _⟩
  · rw [numS_no (by rintro ⟨_, _, _, _⟩; omega), numE_no (by rintro ⟨_, _, _, _⟩; omega)]
    exact (number_no2 n k w h1 h8 h).mono fun e w' ⟨he, hw⟩ => ⟨he, by rw [hw]; exact Below.refl _ _⟩
  · by_cases hf : n' < 256 ^ k'
    · rw [numS_yes ((numOk_nat n' k' h1 h8).2 hf), numE_yes ((numOk_nat n' k' h1 h8).2 hf)]
      exact number_any n' k' w h1 h8 (by omega) hf
    · rw [numS_no (fun h => hf ((numOk_nat n' k' h1 h8).1 h)), numE_no (fun h => hf ((numOk_nat n' k' h1 h8).1 h))]
      exact (number_no3 n' k' w h1 h8 (by omega) (by omega)).mono fun e w' ⟨he, hw⟩ => ⟨he, by rw [hw]; exact Below.refl _ _⟩

/-- what is read, and the error -/
def readV (s : ByteArray) : Int := if 8 < s.size then 0 else if 9223372036854775807 < valN s.data.toList then 0 else valN s.data.toList
def readE (s : ByteArray) : Int := if 8 < s.size then 2 else if 9223372036854775807 < valN s.data.toList then 3 else 0
theorem readOf_pair (s : ByteArray) (h : s.size ≤ 8) : readOf (valN s.data.toList) = .tuple #[.int .i64 (readV s), .int .i64 (readE s)] := by
  have h8 : ¬ 8 < s.size := by omega
  unfold readV readE
  rw [if_neg h8, if_neg h8]
  by_cases hc : 9223372036854775807 < valN s.data.toList
  · rw [readOf_big hc, if_pos hc, if_pos hc]
  · rw [readOf_small hc, if_neg hc, if_neg hc]

theorem valN_big (n k : Nat) : valN ((bigL n k).map fun z => UInt8.ofNat z.toNat) = n % 256 ^ k := by
  induction k with
  | zero => simp [bigL, valN, Nat.mod_one]
  | succ k ih =>
    simp only [bigL, List.map_cons]
    rw [valN_cons, ih, List.length_map, bigL_length]
    have e : (UInt8.ofNat (((n / 256 ^ k % 256 : Nat) : Int)).toNat).toNat = n / 256 ^ k % 256 := by
      rw [Int.toNat_natCast, UInt8.toNat_ofNat']
      omega
    rw [e, Nat.pow_succ, Nat.mod_mul, Nat.mul_comm, Nat.add_comm]
theorem read_num (n k : Int) (hn : n ≤ 9223372036854775807) (h : numOk n k) : readV (numS n k) = n ∧ readE (numS n k) = 0 := by
  rw [numS_yes h]
  obtain ⟨h1, h8, h0, hf⟩ := h
  obtain ⟨n', rfl⟩ := Int.eq_ofNat_of_zero_le h0
  obtain ⟨k', rfl⟩ := Int.eq_ofNat_of_zero_le (show 0 ≤ k by omega)
  have hf' : n' < 256 ^ k' := ((numOk_nat n' k' (by omega) (by omega)).1 ⟨h1, h8, h0, hf⟩)
  have hs : (strOfNums (bigL n' k')).size = k' := by rw [strOfNums_size, bigL_length]
  have hv : valN (strOfNums (bigL n' k')).data.toList = n' := by rw [strOfNums_data, valN_big, Nat.mod_eq_of_lt hf']
  simp only [Int.toNat_natCast]
  have c1 : ¬ 8 < (strOfNums (bigL n' k')).size := by omega
  have c2 : ¬ 9223372036854775807 < valN (strOfNums (bigL n' k')).data.toList := by omega
  unfold readV readE
  rw [if_neg c1, if_neg c1, if_neg c2, if_neg c2, hv]
  exact ⟨rfl, rfl⟩
theorem numS_size (n k : Int) : (numS n k).size ≤ 8 := by
  by_cases h : numOk n k
  · rw [numS_yes h, strOfNums_size, bigL_length]
    have := h.2.1
    omega
  · rw [numS_no h]
    show (0 : Nat) ≤ 8
    omega
end Go.Proofs.Ytolicaaifhfhcaa
namespace Go.Proofs.Ytolicaaifhfhcaa
open Go.RowKit
set_option linter.unusedVariables false

/-- a list that is at most d deep -/
def Deep : Nat → List It → Prop
  | 0, l => l = []
  | d + 1, l => ∀ x ∈ l, Deep d x.list
theorem print_listD {n D : Nat} (ih : ∀ (l : List It) (s p : Nat), Deep D l → measD D l = some (s, p) → p ≤ n → s ≤ 65535 → parseD n (strOfNums (textD D l)) = some l) :
    ∀ (l : List It) (s0 p0 s p : Nat), (∀ x ∈ l, Deep D x.list) → l.foldl (stepM (measD D)) (some (s0, p0)) = some (s, p) → p ≤ n + 1 → s ≤ 65535 → parseD (n + 1) (strOfNums (textD (D + 1) l)) = some l
  | [], s0, p0, s, p, _, _, _, _ => by
    have e : textD (D + 1) ([] : List It) = [] := by simp [textD]
    rw [e]
    exact listP_empty _ _ rfl
  | x :: r, s0, p0, s, p, hrow, h, hp, hs => by
    rw [List.foldl_cons, step_yes] at h
    by_cases hf : fitsB x.tag x.text.size x.list.length = true
    · rw [if_pos hf] at h
      cases hm : measD D x.list with
      | none => rw [hm, Option.map_none, step_none] at h; cases h
      | some b =>
        obtain ⟨b1, b2⟩ := b
        rw [hm, Option.map_some] at h
        simp only at h
        have hpos := (fold_grow r _ _ s p h)
        have hbody := fits_body hf hm (meas_text D _ _ _ hm)
        have hrest := print_listD ih r _ _ s p (fun y hy => hrow y (List.mem_cons_of_mem _ hy)) h hp hs
        have e : textD (D + 1) (x :: r) = itemL x.tag.toNat (bodyL (textD D) x) ++ textD (D + 1) r := by simp [textD]
        have hvt : validB x.tag = true := by
          unfold fitsB at hf
          split at hf
          · rename_i hm; unfold madeV at hm; simp at hm; exact hm.1
          · simp at hf; exact hf.1
        have hlt := validB_lt hvt
        obtain ⟨t, ht⟩ := Int.eq_ofNat_of_zero_le (show 0 ≤ x.tag by omega)
        have hmv : madeV x.tag = madeB t := by unfold madeV; rw [hvt, Bool.true_and, ht, Int.toNat_natCast]
        have hsz : (strOfNums (textD (D + 1) (x :: r))).size ≠ 0 := by
          rw [strOfNums_size, e, List.length_append, itemL_length]
          have := tagLen_le x.tag.toNat
          omega
        rw [parse_step hsz, e, ht, Int.toNat_natCast]
        rw [ht] at hvt
        have hco := hrow x (List.mem_cons_self ..)
        have hib : itemAt (parseD n) (strOfNums (itemL t (bodyL (textD D) x) ++ textD (D + 1) r)) = some (x, strOfNums (textD (D + 1) r)) := by
          refine item_back hvt (by omega) ?_
          cases hmd : madeB t with
          | true =>
            left
            have hbd : bodyL (textD D) x = textD D x.list := body_made (by rw [hmv, hmd])
            refine ⟨rfl, x.list, ?_, ?_⟩
            · rw [hbd]; exact ih x.list b1 b2 hco hm (by omega) (by omega)
            · have h0 : x.text.size = 0 := by
                rw [fits_made (by rw [hmv, hmd])] at hf
                simpa using hf
              have h1 : x.text = ⟨#[]⟩ := by
                apply ByteArray.ext
                exact Array.eq_empty_of_size_eq_zero h0
              cases x with
              | mk a b c => simp only [It.tag, It.text, It.list] at ht h1 ⊢; rw [ht, h1]
          | false =>
            right
            have hbd : bodyL (textD D) x = strL x.text := body_not (by rw [hmv, hmd])
            refine ⟨rfl, ?_⟩
            rw [hbd, strOf_strL]
            have h0 : x.list = [] := by
              rw [fits_not (by rw [hmv, hmd])] at hf
              simp at hf
              exact hf.2
            cases x with
            | mk a b c => simp only [It.tag, It.text, It.list] at ht h0 ⊢; rw [ht, h0]
        rw [hib]
        simp only
        rw [hrest]
        rfl
    · rw [if_neg hf, step_none] at h; cases h
theorem print_parseD : ∀ (n D : Nat) (l : List It) (s p : Nat), Deep D l → measD D l = some (s, p) → p ≤ n → s ≤ 65535 → parseD n (strOfNums (textD D l)) = some l
  | n, 0, l, s, p, hr, _, _, _ => by
    rw [show l = [] from hr]
    cases n with
    | zero => rfl
    | succ n => exact listP_empty _ _ rfl
  | 0, D + 1, l, s, p, hr, hm, hp, hs => by
    have hl : l = [] := by
      rcases List.eq_nil_or_concat l with h | ⟨a, b, h⟩
      · exact h
      · have := (fold_grow l 0 0 s p hm).2.2 (by rw [h]; simp)
        omega
    rw [hl]
    rfl
  | n + 1, D + 1, l, s, p, hr, hm, hp, hs => print_listD (fun l s p h1 h2 h3 h4 => print_parseD n D l s p h1 h2 h3 h4) l 0 0 s p hr hm hp hs
/-- what was printed is read -/
theorem printed_parses {D : Nat} {l : List It} (hd : Deep D l) (he : printsE (measD D l) = 0) : parsesE (printsS D l) = 0 ∧ parsesL (printsS D l) = l := by
  cases hm : measD D l with
  | none => rw [hm] at he; cases he
  | some sp =>
    obtain ⟨s, p⟩ := sp
    rw [hm] at he
    have h1 : printsE (some (s, p)) = if 8 < p ∨ 65535 < s then 2 else 0 := rfl
    rw [h1] at he
    by_cases hc : 8 < p ∨ 65535 < s
    · rw [if_pos hc] at he; cases he
    · have hS : printsS D l = strOfNums (textD D l) := by unfold printsS; rw [hm, h1, if_neg hc, if_pos rfl]
      have hz : (strOfNums (textD D l)).size = s := by rw [strOfNums_size]; exact meas_text D l s p hm
      have hp := print_parseD 8 D l s p hd hm (by omega) (by omega)
      rw [hS]
      constructor
      · unfold parsesE; rw [if_neg (by omega), hp]; rfl
      · unfold parsesL; rw [if_neg (by omega), hp]; rfl

/-- the last byte of an application -/
def lastN (x : XApp) : Int := x.prio + (if x.confirm then 128 else 0)
/-- an application as an item -/
def itemI (x : XApp) : It := .mk 97 ⟨#[]⟩ [.mk 79 x.name [], .mk 80 x.label [], .mk 135 (strOfNums [lastN x]) []]
theorem itemI_deep (l : List XApp) : Deep 2 (l.map itemI) := by
  intro x hx
  obtain ⟨a, _, rfl⟩ := List.mem_map.1 hx
  intro y hy
  simp only [itemI, It.list, List.mem_cons, List.not_mem_nil, or_false] at hy
  rcases hy with rfl | rfl | rfl <;> rfl
theorem lenLen_small {n : Nat} (h : n < 128) : lenLen n = 1 := by unfold lenLen; rw [if_pos h]
theorem fits_97 : fitsB 97 0 3 = true := by decide +kernel
theorem fits_79 (n : Nat) : fitsB 79 n 0 = true := by
  have h : madeV 79 = false := by decide +kernel
  rw [fits_not h]; decide +kernel
theorem fits_80 (n : Nat) : fitsB 80 n 0 = true := by
  have h : madeV 80 = false := by decide +kernel
  rw [fits_not h]; decide +kernel
theorem fits_135 (n : Nat) : fitsB 135 n 0 = true := by
  have h : madeV 135 = false := by decide +kernel
  rw [fits_not h]; decide +kernel
/-- an application's sizes are as they must be -/
def sizedA (x : XApp) : Prop := x.name.size ≤ 16 ∧ x.label.size ≤ 64
theorem meas_in (x : XApp) (h : sizedA x) : measD 1 (itemI x).list = some (x.name.size + x.label.size + 7, 1) := by
  obtain ⟨h1, h2⟩ := h
  simp only [itemI, It.list, measD, List.foldl_cons, List.foldl_nil, step_yes, It.tag, It.text, List.length_nil, fits_79, fits_80, fits_135, if_true, Option.map_some, strOfNums_size, List.length_cons]
  rw [lenLen_small (by omega), lenLen_small (by omega), lenLen_small (by omega)]
  have e1 : tagLen (79 : Int).toNat = 1 := rfl
  have e2 : tagLen (80 : Int).toNat = 1 := rfl
  have e3 : tagLen (135 : Int).toNat = 1 := rfl
  rw [e1, e2, e3]
  congr 1
  ext <;> simp <;> omega
theorem step_app (x : XApp) (h : sizedA x) (s p : Nat) : stepM (measD 1) (some (s, p)) (itemI x) = some (s + (x.name.size + x.label.size + 9), max p 2) := by
  have hm := meas_in x h
  rw [step_yes]
  have e : fitsB (itemI x).tag (itemI x).text.size (itemI x).list.length = true := fits_97
  rw [if_pos e, hm, Option.map_some]
  obtain ⟨h1, h2⟩ := h
  have e0 : (itemI x).text.size = 0 := rfl
  have e1 : tagLen (itemI x).tag.toNat = 1 := rfl
  simp only [e0, e1]
  rw [lenLen_small (by omega)]
  congr 1
  ext <;> simp <;> omega
theorem fold_app : ∀ (l : List XApp) (s p : Nat), (∀ x ∈ l, sizedA x) → p ≤ 2 → ∃ s' p', (l.map itemI).foldl (stepM (measD 1)) (some (s, p)) = some (s', p') ∧ s' ≤ s + l.length * 89 ∧ p' ≤ 2
  | [], s, p, _, hp => ⟨s, p, rfl, by simp, hp⟩
  | x :: r, s, p, h, hp => by
    have h1 := h x (List.mem_cons_self ..)
    obtain ⟨s', p', e, hs, hp'⟩ := fold_app r (s + (x.name.size + x.label.size + 9)) (max p 2) (fun y hy => h y (List.mem_cons_of_mem _ hy)) (by omega)
    obtain ⟨a, b⟩ := h1
    refine ⟨s', p', ?_, ?_, hp'⟩
    · rw [List.map_cons, List.foldl_cons, step_app x ⟨a, b⟩]; exact e
    · rw [List.length_cons]; omega
theorem apps_sized {l : List XApp} (h : appsE l = 0) : l.length ≤ 20 ∧ ∀ x ∈ l, sizedA x ∧ 5 ≤ x.name.size ∧ 0 ≤ x.prio ∧ x.prio ≤ 15 := by
  unfold appsE at h
  split at h
  · cases h
  · rename_i hl
    cases h1 : l.any misB with
    | true => rw [h1] at h; cases h
    | false =>
      rw [h1] at h
      cases h2 : l.any prioB with
      | true => rw [h2] at h; cases h
      | false =>
        refine ⟨by omega, fun x hx => ?_⟩
        have a := List.any_eq_false.1 h1 x hx
        have b := List.any_eq_false.1 h2 x hx
        unfold misB at a
        unfold prioB at b
        simp at a b
        unfold sizedA
        omega
theorem printsE_apps {l : List XApp} (h : appsE l = 0) : printsE (measD 2 (l.map itemI)) = 0 := by
  obtain ⟨hl, hs⟩ := apps_sized h
  obtain ⟨s', p', e, h1, h2⟩ := fold_app l 0 0 (fun x hx => (hs x hx).1) (by omega)
  have e2 : measD 2 (l.map itemI) = some (s', p') := e
  rw [e2]
  show (if 8 < p' ∨ 65535 < s' then (2 : Int) else 0) = 0
  rw [if_neg (by omega)]
/-- how applications are written -/
def appsT (l : List XApp) : ByteArray := printsS 2 (l.map itemI)
theorem wt_app (x : XApp) (h : sizedA x) : wt 1 (itemI x).list ≤ 85 := by
  obtain ⟨a, b⟩ := h
  simp only [wt, itemI, It.list, List.map_cons, List.map_nil, List.sum_cons, List.sum_nil, It.text, strOfNums_size, List.length_cons, List.length_nil]
  omega
theorem wt_apps : ∀ (l : List XApp), (∀ x ∈ l, sizedA x) → wt 2 (l.map itemI) ≤ l.length * 90
  | [], _ => by simp [wt]
  | x :: r, h => by
    have h1 := wt_app x (h x (List.mem_cons_self ..))
    have h2 := wt_apps r (fun y hy => h y (List.mem_cons_of_mem _ hy))
    have e0 : (itemI x).text.size = 0 := rfl
    simp only [wt, List.map_cons, List.sum_cons, List.length_cons] at h1 h2 ⊢
    omega

/-- what is read, where f makes an application of an item -/
def readA (f : It → XApp) (s : ByteArray) : Option (List XApp) :=
  if parsesE s = 0 ∧ appsE ((parsesL s).map f) = 0 ∧ appsT ((parsesL s).map f) = s then some ((parsesL s).map f) else none
theorem readA_of {f : It → XApp} (hf : ∀ x : XApp, sizedA x → 0 ≤ x.prio → x.prio ≤ 15 → f (itemI x) = x) {l : List XApp} (h : appsE l = 0) : readA f (appsT l) = some l := by
  obtain ⟨h1, h2⟩ := printed_parses (itemI_deep l) (printsE_apps h)
  have e : ((l.map itemI).map f) = l := by
    rw [List.map_map]
    conv => rhs; rw [← List.map_id l]
    refine List.map_congr_left fun x hx => ?_
    obtain ⟨a, b, c, d⟩ := (apps_sized h).2 x hx
    exact hf x a c d
  unfold readA
  have h1' : parsesE (appsT l) = 0 := h1
  have h2' : parsesL (appsT l) = l.map itemI := h2
  rw [h1', h2', e, if_pos ⟨rfl, h, rfl⟩]
theorem readA_some {f : It → XApp} {s : ByteArray} {l : List XApp} (h : readA f s = some l) : appsE l = 0 ∧ appsT l = s := by
  unfold readA at h
  split at h
  · rename_i hc
    obtain ⟨a, b, c⟩ := hc
    cases h
    exact ⟨b, c⟩
  · cases h
/-- there is one way alone to read -/
theorem readA_same {f g : It → XApp} (hf : ∀ x : XApp, sizedA x → 0 ≤ x.prio → x.prio ≤ 15 → f (itemI x) = x) (hg : ∀ x : XApp, sizedA x → 0 ≤ x.prio → x.prio ≤ 15 → g (itemI x) = x) (s : ByteArray) : readA f s = readA g s := by
  cases h1 : readA f s with
  | some l =>
    obtain ⟨a, b⟩ := readA_some h1
    rw [← b, readA_of hg a]
  | none =>
    cases h2 : readA g s with
    | none => rfl
    | some l =>
      obtain ⟨a, b⟩ := readA_some h2
      rw [← b, readA_of hf a] at h1
      cases h1
end Go.Proofs.Ytolicaaifhfhcaa
