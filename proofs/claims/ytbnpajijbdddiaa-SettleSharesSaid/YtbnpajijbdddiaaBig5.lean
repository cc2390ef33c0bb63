/- cmp of the big numbers. -/
import Derived.Test.YtbnpajijbdddiaaBig4
namespace Go.Proofs.Ytbnpajijbdddiaa
open Go.RowKit
set_option linter.unusedVariables false

def ordI (a b : Nat) : Int := if a < b then -1 else if b < a then 1 else 0
theorem natV_at (l : List Nat) (j x : Nat) (h : l[j]? = some x) : natV l = natV (l.take j) + x * B32 ^ j + B32 ^ (j + 1) * natV (l.drop (j + 1)) := by
  have hj : j < l.length := (List.getElem?_eq_some_iff.1 h).1
  have e := natV_take_succ l j x h
  conv => lhs; rw [← List.take_append_drop (j + 1) l]
  rw [natV_append, e, List.length_take, Nat.min_eq_left (by omega)]
theorem lt_top {xs ys : List Nat} {j x y : Nat} (ha : okV xs) (hx : xs[j]? = some x) (hy : ys[j]? = some y) (hd : xs.drop (j + 1) = ys.drop (j + 1)) (hlt : x < y) : natV xs < natV ys := by
  have hj : j < xs.length := (List.getElem?_eq_some_iff.1 hx).1
  have h1 := natV_lt (okV_take ha j)
  rw [List.length_take, Nat.min_eq_left (by omega)] at h1
  rw [natV_at xs j x hx, natV_at ys j y hy, hd]
  have h2 : (x + 1) * B32 ^ j ≤ y * B32 ^ j := Nat.mul_le_mul_right _ hlt
  rw [Nat.add_mul, Nat.one_mul] at h2
  omega
theorem dig_ge {n : Nat} (h : n ≠ 0) : B32 ^ ((dig n).length - 1) ≤ n := by
  obtain ⟨x, hx, hx0⟩ := dig_last h
  rw [List.getLast?_eq_getElem?] at hx
  have e := natV_at (dig n) _ x hx
  rw [natV_dig] at e
  have h1 : B32 ^ ((dig n).length - 1) ≤ x * B32 ^ ((dig n).length - 1) := Nat.le_mul_of_pos_left _ (by omega)
  omega
theorem len_lt {a b : Nat} (h : (dig a).length < (dig b).length) : a < b := by
  have hb : b ≠ 0 := fun e => by subst e; rw [dig_zero] at h; simp at h
  have h1 := dig_ge hb
  have h2 := lt_dig a
  have h3 : B32 ^ (dig a).length ≤ B32 ^ ((dig b).length - 1) := Nat.pow_le_pow_right B32_pos (by omega)
  omega
theorem len_le {a b : Nat} (h : a ≤ b) : (dig a).length ≤ (dig b).length := by
  rcases Nat.lt_or_ge (dig b).length (dig a).length with h1 | h1
  · have := len_lt h1; omega
  · exact h1
set_option maxHeartbeats 4000000 in
set_option maxRecDepth 100000 in
theorem cmp_rows (xs ys : List Nat) (ao bo : Option Addr) (ca cb : Nat) (w : World) (ha : WRow w ao xs) (hb : WRow w bo ys) (oka : okV xs) (okb : okV ys) (hla : (xs.length : Int) ≤ 10000) (hlb : (ys.length : Int) ≤ 10000) (hlt0 : xs.length < ys.length → natV xs < natV ys) (hgt0 : ys.length < xs.length → natV ys < natV xs) :
    Calls Try.prog 46 #[.slice ao xs.length ca, .slice bo ys.length cb] w fun e w' => e = .returned (.int .i64 (ordI (natV xs) (natV ys))) ∧ Below w.heap.size w w' := by
  have HA := hide ha; have HB := hide hb
  clear ha hb
  by_cases hlen : xs.length = ys.length
  case neg =>
    have hne : ((xs.length : Int) != (ys.length : Int)) = true := by simp; omega
    by_cases hl : xs.length < ys.length
    · have HE : Hid (ordI (natV xs) (natV ys) = -1) := hide (by rw [ordI, if_pos (hlt0 hl)])
      have hlI : (xs.length : Int) < (ys.length : Int) := by omega
      clear hlt0 hgt0 hlen hl
      go_enter Try.func46, Try.ntmps46
      go_wp2
      go_ret
      exact ⟨ret_int (unhide HE).symm, Below.refl _ _⟩
    · have hg := hgt0 (by omega)
      have HE : Hid (ordI (natV xs) (natV ys) = 1) := hide (by rw [ordI, if_neg (by omega), if_pos hg])
      have hlI : ¬ (xs.length : Int) < (ys.length : Int) := by omega
      clear hlt0 hgt0 hlen hl hg
      go_enter Try.func46, Try.ntmps46
      go_wp2
      go_ret
      exact ⟨ret_int (unhide HE).symm, Below.refl _ _⟩
  have hne : ((xs.length : Int) != (ys.length : Int)) = false := by simp; omega
  have hw1 : IntKind.i64.wrap ((xs.length : Int) - 1) = (xs.length : Int) - 1 := by rw [IntKind.wrap_i64]; omega
  have hle : ys.length ≤ xs.length := by omega
  have hle2 : xs.length ≤ ys.length := by omega
  clear hlt0 hgt0 hlen
  go_enter Try.func46, Try.ntmps46
  go_wp2
  go_loopw [5] (fun r wr => ∃ i : Nat, i ≤ xs.length ∧ r = .int .i64 ((i : Int) - 1) ∧ Hid (xs.drop i = ys.drop i) ∧ ∃ q, wr = w.drewN q) (fun r _ => (intOf r + 1).toNat)
  case atStart => exact ⟨xs.length, Nat.le_refl _, by first | rfl | go_num, hide (by rw [List.drop_of_length_le (Nat.le_refl _), List.drop_of_length_le hle]), 0, rfl⟩
  case round =>
    obtain ⟨i, hi, rfl, HD, q, rfl⟩ := hrel
    by_cases h0 : i = 0
    · subst h0
      have HE : Hid (ordI (natV xs) (natV ys) = 0) := hide (by
        have := unhide HD
        simp only [List.drop_zero] at this
        rw [this, ordI, if_neg (Nat.lt_irrefl _), if_neg (Nat.lt_irrefl _)])
      go_wp2
      go_ret
      exact ⟨ret_int (unhide HE).symm, below_drewN (Below.refl _ _) _⟩
    · obtain ⟨j, rfl⟩ : ∃ j, i = j + 1 := ⟨i - 1, by omega⟩
      have ej : ((j + 1 : Nat) : Int) - 1 = (j : Int) := by omega
      rw [ej]
      obtain ⟨x, hx⟩ : ∃ x, xs[j]? = some x := ⟨_, List.getElem?_eq_getElem (by omega)⟩
      obtain ⟨y, hy⟩ : ∃ x, ys[j]? = some x := ⟨_, List.getElem?_eq_getElem (by omega)⟩
      rcases (unhide HA) with hnil | ⟨ga, oa, rfl, hga, hca⟩
      · rw [hnil] at hx; simp at hx
      rcases (unhide HB) with hnil | ⟨gb, ob, rfl, hgb, hcb⟩
      · rw [hnil] at hy; simp at hy
      have c0 := hca j x hx
      have c1 := hcb j y hy
      have hji : (j : Int) < (xs.length : Int) := by omega
      have hji2 : (j : Int) < (ys.length : Int) := by omega
      have hnx : IntKind.i64.wrap ((j : Int) - 1) = (j : Int) - 1 := by rw [IntKind.wrap_i64]; omega
      have hj0 : (0 : Int) ≤ (j : Int) := by omega
      by_cases hxy : x = y
      · subst hxy
        have HD2 : Hid (xs.drop j = ys.drop j) := hide (by
          obtain ⟨h1, e1⟩ := List.getElem?_eq_some_iff.1 hx
          obtain ⟨h2, e2⟩ := List.getElem?_eq_some_iff.1 hy
          rw [List.drop_eq_getElem_cons h1, List.drop_eq_getElem_cons h2, e1, e2, unhide HD])
        have hbn : ((x : Int) != (x : Int)) = false := by simp
        clear hca hcb hx hy ej h0
        go_wp2_with fail
        go_quiet (fail)
        go_wp2
        go_roundw
        case rel => exact ⟨j, by omega, by go_num, HD2, _, rfl⟩
        case measure => simp [intOf] <;> omega
      · have hbn : ((x : Int) != (y : Int)) = true := by simp; omega
        by_cases hl : x < y
        · have HE : Hid (ordI (natV xs) (natV ys) = -1) := hide (by rw [ordI, if_pos (lt_top oka hx hy (unhide HD) hl)])
          have hlI : (x : Int) < (y : Int) := by omega
          clear hca hcb hx hy ej h0 hxy
          go_wp2_with fail
          go_quiet (fail)
          go_wp2_with fail
          go_quiet (fail)
          go_wp2
          go_ret
          exact ⟨ret_int (unhide HE).symm, below_drewN (below_drewN (below_drewN (Below.refl _ _) _) _) _⟩
        · have hg := lt_top okb hy hx (unhide HD).symm (show y < x by omega)
          have HE : Hid (ordI (natV xs) (natV ys) = 1) := hide (by rw [ordI, if_neg (by omega), if_pos hg])
          have hlI : ¬ (x : Int) < (y : Int) := by omega
          clear hca hcb hx hy ej h0 hxy hg
          go_wp2_with fail
          go_quiet (fail)
          go_wp2_with fail
          go_quiet (fail)
          go_wp2
          go_ret
          exact ⟨ret_int (unhide HE).symm, below_drewN (below_drewN (below_drewN (Below.refl _ _) _) _) _⟩
end Go.Proofs.Ytbnpajijbdddiaa
