/- What is wrong with positions: checkPositions of the program. -/
import Derived.Test.YtbnpajijbdddiaaStP
import Derived.Test.YtbnpajijbdddiaaShS
import Derived.Test.YtbnpajijbdddiaaRow0
import Derived.BigQuiet
import Derived.Deep.QuietTactic
namespace Go.Proofs.Ytbnpajijbdddiaa
open Go.RowKit
set_option linter.unusedVariables false


def wrongP (x : XPos) : Bool := decide (x.bank < 1 ∨ 99 < x.bank ∨ x.has < -10000000000000000 ∨ 10000000000000000 < x.has)
set_option maxHeartbeats 1000000 in
theorem wrongP_any (x : XPos) (w : World) :
    Calls Try.prog 34 #[valPos x] w fun e w' => e = .returned (.bool (wrongP x)) ∧ Below w.heap.size w w' := by
  obtain ⟨b, h⟩ := x
  have hbx := fun o : Obj => (Below.refl w.heap.size w).alloc (Nat.le_refl _) o
  have HB := hide hbx
  clear hbx
  unfold valPos
  simp only
  by_cases h1 : b < 1
  · have HM : Hid (wrongP ⟨b, h⟩ = true) := hide (decide_eq_true (.inl h1))
    go_enter Try.func34, Try.ntmps34
    go_wp2
    go_ret
    exact ⟨ret_bool (unhide HM).symm, unhide HB _⟩
  by_cases h2 : 99 < b
  · have HM : Hid (wrongP ⟨b, h⟩ = true) := hide (decide_eq_true (.inr (.inl h2)))
    have h1' : 1 ≤ b := by omega
    have h2' : ¬ b ≤ 99 := by omega
    go_enter Try.func34, Try.ntmps34
    go_wp2
    go_ret
    exact ⟨ret_bool (unhide HM).symm, unhide HB _⟩
  have h1' : 1 ≤ b := by omega
  have h2' : b ≤ 99 := by omega
  by_cases h3 : h < -10000000000000000
  · have HM : Hid (wrongP ⟨b, h⟩ = true) := hide (decide_eq_true (.inr (.inr (.inl h3))))
    have h3' : ¬ (-10000000000000000 ≤ h) := by omega
    go_enter Try.func34, Try.ntmps34
    go_wp2
    go_ret
    exact ⟨ret_bool (unhide HM).symm, unhide HB _⟩
  have h3' : -10000000000000000 ≤ h := by omega
  by_cases h4 : 10000000000000000 < h
  · have HM : Hid (wrongP ⟨b, h⟩ = true) := hide (decide_eq_true (.inr (.inr (.inr h4))))
    have h4' : ¬ (h ≤ 10000000000000000) := by omega
    go_enter Try.func34, Try.ntmps34
    go_wp2
    go_ret
    exact ⟨ret_bool (unhide HM).symm, unhide HB _⟩
  have HM : Hid (wrongP ⟨b, h⟩ = false) := hide (decide_eq_false (by show ¬ (b < 1 ∨ 99 < b ∨ h < -10000000000000000 ∨ 10000000000000000 < h); omega))
  have h4' : h ≤ 10000000000000000 := by omega
  go_enter Try.func34, Try.ntmps34
  go_wp2
  go_ret
  exact ⟨ret_bool (unhide HM).symm, unhide HB _⟩
set_option maxHeartbeats 1000000 in
theorem indexWp_any (l : List XPos) (ao : Option Addr) (cap : Nat) (w : World) (hr : RowPos w ao l) :
    Calls Try.prog 50 #[.slice ao l.length cap, .func (.func 34) #[] #[]] w fun e w' => (∃ v : Int, e = .returned (.int .i64 v) ∧ decide (0 ≤ v) = l.any wrongP) ∧ Below w.heap.size w w' := by
  obtain ⟨hr, _, hm⟩ := hr
  go_enter Try.func50, Try.ntmps50
  go_wp2
  go_loopw [8] (fun i wr => ∃ k : Nat, k ≤ l.length ∧ i = .int .i64 k ∧ Hid ((l.take k).any wrongP = false) ∧ Below w.heap.size w wr) (fun i _ => l.length - (intOf i).toNat)
  case atStart => exact ⟨0, Nat.zero_le _, rfl, hide (by simp), Below.refl _ _⟩
  case round =>
    obtain ⟨k, hk, rfl, HA, hbw⟩ := hrel
    by_cases hlt : k < l.length
    · obtain ⟨y, hy⟩ : ∃ y, l[k]? = some y := ⟨_, List.getElem?_eq_getElem hlt⟩
      rcases hr with hnil | ⟨b, off, rfl, hb, hc⟩
      · rw [hnil] at hlt; simp at hlt
      obtain ⟨c0, c1⟩ := hc k y hy
      have d0 : wr.cell? ⟨b, off + k * 2, none⟩ = _ := (hbw.cell (p := ⟨b, off + k * 2, none⟩) hb).trans c0
      have d1 : wr.cell? ⟨b, off + k * 2 + 1, none⟩ = _ := (hbw.cell (p := ⟨b, off + k * 2 + 1, none⟩) hb).trans c1
      have hs := anyQ_take_succ l wrongP k y hy
      rw [unhide HA, Bool.false_or] at hs
      have hml : l.length ≤ 9223372036854775807 := by simpa [maxLen] using hm
      have n1 := wrongP_any y wr
      clear hc hm c0 c1
      unfold valPos at n1
      cases he : wrongP y with
      | true =>
        have HF := hide (anyQ_of_take l wrongP (k + 1) (hs.trans he))
        rw [he] at n1
        have N1 := hide n1
        clear hs hy n1 he
        go_wp2_with fail
        refine (unhide N1).mono ?_
        rintro e w1 ⟨rfl, hb1⟩
        go_wp2
        go_ret
        exact ⟨⟨_, rfl, by rw [unhide HF]; simp⟩, hbw.trans (hb1.mono hbw.size)⟩
      | false =>
        have HS : Hid ((l.take (k + 1)).any wrongP = false) := hide (hs.trans he)
        rw [he] at n1
        have N1 := hide n1
        clear hs hy n1 he
        go_wp2_with fail
        refine (unhide N1).mono ?_
        rintro e w1 ⟨rfl, hb1⟩
        go_wp2
        go_roundw
        case rel => exact ⟨k + 1, by omega, by go_num, HS, hbw.trans (hb1.mono hbw.size)⟩
        case measure => simp [intOf]; omega
    · have HF : Hid (l.any wrongP = false) := hide (by have := unhide HA; rw [List.take_of_length_le (by omega)] at this; exact this)
      go_wp2
      go_ret
      exact ⟨⟨_, rfl, by rw [unhide HF]; rfl⟩, hbw⟩
theorem containsWp_any (l : List XPos) (ao : Option Addr) (cap : Nat) (w : World) (hr : RowPos w ao l) :
    Calls Try.prog 36 #[.slice ao l.length cap, .func (.func 34) #[] #[]] w fun e w' => e = .returned (.bool (l.any wrongP)) ∧ Below w.heap.size w w' := by
  have N1 := hide (indexWp_any l ao cap w hr)
  clear hr
  generalize l.any wrongP = q at *
  go_enter Try.func36, Try.ntmps36
  go_wp2_with fail
  refine (unhide N1).mono ?_
  rintro e w1 ⟨⟨v, rfl, hv⟩, hb1⟩
  have HV := hide hv
  clear hv
  go_wp2
  go_ret
  exact ⟨ret_bool (unhide HV), hb1⟩

def bankAt (l : List XPos) (k : Nat) : Int := (l[k]?.map XPos.bank).getD 0
def hasL (l : List XPos) : List Int := l.map XPos.has
/-- the bank ahead of the k-th one; 0 ahead of all -/
def prevB (l : List XPos) : Nat → Int
  | 0 => 0
  | k + 1 => bankAt l k
/-- does one of the first k not rise? -/
def fallTo (l : List XPos) : Nat → Bool
  | 0 => false
  | k + 1 => fallTo l k || decide (bankAt l k ≤ prevB l k)
def posE (l : List XPos) : Int := if 99 < l.length then 2 else bif l.any wrongP then 3 else bif fallTo l l.length then 1 else if sumH (hasL l) ≠ 0 then 7 else 0
theorem fallTo_mono (l : List XPos) (k : Nat) (h : fallTo l k = true) : ∀ n, k ≤ n → fallTo l n = true := by
  intro n hn
  induction n with
  | zero => obtain rfl : k = 0 := by omega
            exact h
  | succ n ih =>
    by_cases e : k = n + 1
    · rw [← e]; exact h
    · rw [fallTo, ih (by omega), Bool.true_or]
theorem sumH_snoc (l : List Int) (x : Int) : sumH (l ++ [x]) = sumH l + x := by
  induction l with
  | nil => simp [sumH]
  | cons y r ih => simp only [List.cons_append, sumH, ih]; omega
theorem sumH_bound (l : List Int) (M : Int) (h : ∀ x ∈ l, -M ≤ x ∧ x ≤ M) : -(M * l.length) ≤ sumH l ∧ sumH l ≤ M * l.length := by
  induction l with
  | nil => simp [sumH]
  | cons y r ih =>
    have h1 := h y (by simp)
    have h2 := ih (fun x hx => h x (by simp [hx]))
    have e : M * ((y :: r).length : Int) = M * (r.length : Int) + M := by rw [List.length_cons, Int.natCast_add, Int.mul_add]; simp
    simp only [sumH, e]
    omega
theorem hasL_take_succ (l : List XPos) (k : Nat) (y : XPos) (h : l[k]? = some y) : hasL (l.take (k + 1)) = hasL (l.take k) ++ [y.has] := by
  obtain ⟨hk, rfl⟩ := List.getElem?_eq_some_iff.1 h
  rw [List.take_succ_eq_append_getElem hk]
  unfold hasL
  rw [List.map_append]
  rfl
theorem notWrong {x : XPos} (h : wrongP x = false) : 1 ≤ x.bank ∧ x.bank ≤ 99 ∧ -10000000000000000 ≤ x.has ∧ x.has ≤ 10000000000000000 := by
  have := of_decide_eq_false h
  omega
theorem sum_take_bound (l : List XPos) (hw : ∀ x ∈ l, wrongP x = false) (k : Nat) (hk : k ≤ 99) : -990000000000000000 ≤ sumH (hasL (l.take k)) ∧ sumH (hasL (l.take k)) ≤ 990000000000000000 := by
  have hb := sumH_bound (hasL (l.take k)) 10000000000000000 (fun x hx => by
    obtain ⟨y, hy, rfl⟩ := List.mem_map.1 hx
    have := notWrong (hw y (List.mem_of_mem_take hy))
    omega)
  have hl : (hasL (l.take k)).length ≤ k := by simp [hasL]; omega
  have : (10000000000000000 : Int) * ((hasL (l.take k)).length : Int) ≤ 990000000000000000 := by
    have : ((hasL (l.take k)).length : Int) ≤ 99 := by omega
    omega
  omega
set_option maxHeartbeats 2000000 in
theorem checkPositions_any (l : List XPos) (ao : Option Addr) (cap : Nat) (w : World) (hr : RowPos w ao l) :
    Calls Try.prog 14 #[.slice ao l.length cap] w fun e w' => e = .returned (.int .i64 (posE l)) ∧ Below w.heap.size w w' := by
  have n1 := fun w' (hb : Below w.heap.size w w') => containsWp_any l ao cap w' (hr.below hb)
  by_cases hl : 99 < l.length
  · have HE : Hid (posE l = 2) := hide (by rw [posE, if_pos hl])
    have hl' : (99 : Int) < (l.length : Int) := by omega
    clear n1 hr hl
    go_enter Try.func14, Try.ntmps14
    go_wp2
    go_ret
    exact ⟨ret_int (unhide HE).symm, Below.refl _ _⟩
  have hl' : (l.length : Int) ≤ 99 := by omega
  have hE0 : posE l = bif l.any wrongP then 3 else bif fallTo l l.length then 1 else if sumH (hasL l) ≠ 0 then 7 else 0 := by rw [posE, if_neg hl]
  cases hq : l.any wrongP with
  | true =>
    have HE : Hid (posE l = 3) := hide (by rw [hE0, hq]; rfl)
    rw [hq] at n1
    have N1 := hide n1
    clear n1 hr hl hq hE0
    go_enter Try.func14, Try.ntmps14
    go_wp2_with fail
    refine (unhide N1 _ (Below.refl _ _)).mono ?_
    rintro e w1 ⟨rfl, hb1⟩
    go_wp2
    go_ret
    exact ⟨ret_int (unhide HE).symm, hb1⟩
  | false =>
    have hE1 : posE l = bif fallTo l l.length then 1 else if sumH (hasL l) ≠ 0 then 7 else 0 := by rw [hE0, hq]; rfl
    have hw := anyQ_false hq
    rw [hq] at n1
    obtain ⟨hr, _, _⟩ := hr
    have N1 := hide n1; have HE := hide hE1; have HW := hide hw; have HR := hide hr
    clear n1 hl hq hE0 hE1 hw hr
    go_enter Try.func14, Try.ntmps14
    go_wp2_with fail
    refine (unhide N1 _ (Below.refl _ _)).mono ?_
    rintro e w1 ⟨rfl, hb1⟩
    go_wp2
    go_loopw [4, 5, 18] (fun t b i wr => ∃ k : Nat, k ≤ l.length ∧ i = .int .i64 k ∧ t = .int .i64 (sumH (hasL (l.take k))) ∧ b = .int .i64 (prevB l k) ∧ Hid (fallTo l k = false) ∧ Below w.heap.size w wr) (fun _ _ i _ => l.length - (intOf i).toNat)
    case atStart => exact ⟨0, Nat.zero_le _, rfl, rfl, rfl, hide rfl, hb1⟩
    case round =>
      clear hb1
      obtain ⟨k, hk, rfl, rfl, rfl, HF, hbw⟩ := hrel
      by_cases hlt : k < l.length
      · obtain ⟨y, hy⟩ : ∃ y, l[k]? = some y := ⟨_, List.getElem?_eq_getElem hlt⟩
        rcases (unhide HR) with hnil | ⟨b, off, rfl, hb, hc⟩
        · rw [hnil] at hlt; simp at hlt
        obtain ⟨c0, c1⟩ := hc k y hy
        have d0 : wr.cell? ⟨b, off + k * 2, none⟩ = _ := (hbw.cell (p := ⟨b, off + k * 2, none⟩) hb).trans c0
        have d1 : wr.cell? ⟨b, off + k * 2 + 1, none⟩ = _ := (hbw.cell (p := ⟨b, off + k * 2 + 1, none⟩) hb).trans c1
        have hbk : bankAt l k = y.bank := by simp [bankAt, hy]
        have hst : fallTo l (k + 1) = decide (y.bank ≤ prevB l k) := by rw [fallTo, unhide HF, Bool.false_or, hbk]
        have hpk : prevB l (k + 1) = y.bank := hbk
        have hsn : sumH (hasL (l.take (k + 1))) = sumH (hasL (l.take k)) + y.has := by rw [hasL_take_succ l k y hy, sumH_snoc]
        have hsb := sum_take_bound l (unhide HW) k (by omega)
        have hsb2 := sum_take_bound l (unhide HW) (k + 1) (by omega)
        rw [hsn] at hsb2
        obtain ⟨s1, s2⟩ := hsb
        obtain ⟨s3, s4⟩ := hsb2
        have HBA := hide (fun o : Obj => hbw.alloc hbw.size o)
        have HPK := hide hpk; have HSN := hide hsn
        generalize sumH (hasL (l.take k)) = S at *
        generalize prevB l k = pb at *
        clear hc c0 c1 hy hbk hpk hsn hbw
        by_cases hle : y.bank ≤ pb
        · have HX : Hid (posE l = 1) := hide (by rw [unhide HE, fallTo_mono l (k + 1) (by rw [hst]; exact decide_eq_true hle) l.length (by omega)]; rfl)
          clear hst
          go_wp2
          go_ret
          exact ⟨ret_int (unhide HX).symm, unhide HBA _⟩
        · have HX : Hid (fallTo l (k + 1) = false) := hide (by rw [hst]; exact decide_eq_false hle)
          clear hst
          go_wp2_with fail
          go_quiet (fail)
          go_wp2
          go_roundw
          case rel => exact ⟨k + 1, by omega, by go_num, by rw [unhide HSN], by rw [unhide HPK], HX, below_drewN (unhide HBA _) _⟩
          case measure => simp [intOf]; omega
      · have hkl : k = l.length := by omega
        have hF := unhide HF
        have hz : l.take k = l := by rw [hkl]; exact List.take_length
        rw [hkl] at hF
        rw [hz]
        have HX : Hid (posE l = if sumH (hasL l) ≠ 0 then 7 else 0) := hide (by rw [unhide HE, hF]; rfl)
        clear hF hz
        generalize sumH (hasL l) = S at *
        by_cases hS : S = 0
        · have HY : Hid (posE l = 0) := hide (by rw [unhide HX, if_neg (by omega)])
          subst hS
          go_wp2
          go_ret
          exact ⟨ret_int (unhide HY).symm, hbw⟩
        · have HY : Hid (posE l = 7) := hide (by rw [unhide HX, if_pos hS])
          have hS' : (S != 0) = true := by simpa using hS
          go_wp2
          go_ret
          exact ⟨ret_int (unhide HY).symm, hbw⟩
end Go.Proofs.Ytbnpajijbdddiaa
