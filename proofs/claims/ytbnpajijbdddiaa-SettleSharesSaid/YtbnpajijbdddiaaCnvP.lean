/- Convert, plain; Convert of the program. -/
import Derived.Test.YtbnpajijbdddiaaShT
import Derived.Test.YtbnpajijbdddiaaShrA
namespace Go.Proofs.Ytbnpajijbdddiaa
open Go.RowKit
set_option linter.unusedVariables false

/-- the whole number nearest to a * nu / de: of two as near the even one -/
def cnvN (a nu de : Nat) : Nat := if 2 * (a * nu % de) > de ∨ (2 * (a * nu % de) = de ∧ a * nu / de % 2 = 1) then a * nu / de + 1 else a * nu / de
def cnvBad (A Nu De : Int) : Bool := decide (A < 0 ∨ 999999999999 < A ∨ Nu < 1 ∨ 1000000000 < Nu ∨ De < 1 ∨ 1000000000 < De)
def cnvE (A Nu De : Int) : Int := bif cnvBad A Nu De then 3 else if 999999999999 < cnvN A.toNat Nu.toNat De.toNat then 2 else 0
def cnvV (A Nu De : Int) : Int := if cnvE A Nu De = 0 then (cnvN A.toNat Nu.toNat De.toNat : Nat) else 0
theorem cnv_split (a nu de : Nat) (hd : 0 < de) : a * nu / de = a / de * nu + a % de * nu / de ∧ a * nu % de = a % de * nu % de := by
  have e : a * nu = a % de * nu + de * (a / de * nu) := by
    have h := Nat.div_add_mod a de
    calc a * nu = (de * (a / de) + a % de) * nu := by rw [h]
      _ = a % de * nu + de * (a / de * nu) := by rw [Nat.add_mul, Nat.mul_assoc]; omega
  constructor
  · rw [e, Nat.add_mul_div_left _ _ hd]; omega
  · rw [e, Nat.add_mul_mod_self_left]
theorem cnvN_ge (a nu de : Nat) : a * nu / de ≤ cnvN a nu de ∧ cnvN a nu de ≤ a * nu / de + 1 := by unfold cnvN; split <;> omega
set_option maxHeartbeats 1000000 in
theorem nearest_any (n r d : Nat) (w : World) (hn : (n : Int) ≤ 2000000000000) (hr : (r : Int) ≤ 1000000000) (hd : (d : Int) ≤ 1000000000) :
    Calls Try.prog 25 #[.int .i64 n, .int .i64 r, .int .i64 d] w fun e w' => e = .returned (.int .i64 ((if 2 * r > d ∨ (2 * r = d ∧ n % 2 = 1) then n + 1 else n : Nat) : Int)) ∧ w' = w := by
  have h2 : IntKind.i64.wrap (2 * (r : Int)) = 2 * (r : Int) := by rw [IntKind.wrap_i64]; omega
  have h3 : IntKind.i64.wrap ((n : Int) + 1) = (n : Int) + 1 := by rw [IntKind.wrap_i64]; omega
  by_cases c1 : 2 * r > d
  · have HR : Hid ((if 2 * r > d ∨ (2 * r = d ∧ n % 2 = 1) then n + 1 else n : Nat) = n + 1) := hide (by rw [if_pos (.inl c1)])
    have c1' : (d : Int) < 2 * (r : Int) := by omega
    generalize (if 2 * r > d ∨ (2 * r = d ∧ n % 2 = 1) then n + 1 else n : Nat) = R at *
    clear c1
    go_enter Try.func25, Try.ntmps25
    go_wp2
    go_ret
    exact ⟨ret_int (by rw [unhide HR]; simp), rfl⟩
  · have c1' : ¬ (d : Int) < 2 * (r : Int) := by omega
    by_cases c2 : 2 * r = d
    · have c2' : (2 * (r : Int) == (d : Int)) = true := by simp; omega
      by_cases c3 : n % 2 = 1
      · have HR : Hid ((if 2 * r > d ∨ (2 * r = d ∧ n % 2 = 1) then n + 1 else n : Nat) = n + 1) := hide (by rw [if_pos (.inr ⟨c2, c3⟩)])
        have c3' : ((n : Int) % 2 == 1) = true := by simp; omega
        have c3t : (n : Int).tmod 2 = 1 := by rw [Int.tmod_eq_emod_of_nonneg (by omega)]; omega
        generalize (if 2 * r > d ∨ (2 * r = d ∧ n % 2 = 1) then n + 1 else n : Nat) = R at *
        clear c1 c2 c3
        go_enter Try.func25, Try.ntmps25
        go_wp2
        go_ret
        exact ⟨ret_int (by rw [unhide HR]; simp), rfl⟩
      · have HR : Hid ((if 2 * r > d ∨ (2 * r = d ∧ n % 2 = 1) then n + 1 else n : Nat) = n) := hide (by rw [if_neg (by omega)])
        have c3' : ((n : Int) % 2 == 1) = false := by simp; omega
        have c3t : (n : Int).tmod 2 = 0 := by rw [Int.tmod_eq_emod_of_nonneg (by omega)]; omega
        generalize (if 2 * r > d ∨ (2 * r = d ∧ n % 2 = 1) then n + 1 else n : Nat) = R at *
        clear c1 c2 c3
        go_enter Try.func25, Try.ntmps25
        go_wp2
        go_ret
        exact ⟨ret_int (by rw [unhide HR]), rfl⟩
    · have HR : Hid ((if 2 * r > d ∨ (2 * r = d ∧ n % 2 = 1) then n + 1 else n : Nat) = n) := hide (by rw [if_neg (by omega)])
      have c2' : (2 * (r : Int) == (d : Int)) = false := by rw [beq_eq_false_iff_ne]; omega
      generalize (if 2 * r > d ∨ (2 * r = d ∧ n % 2 = 1) then n + 1 else n : Nat) = R at *
      clear c1 c2
      go_enter Try.func25, Try.ntmps25
      go_wp2
      go_ret
      exact ⟨ret_int (by rw [unhide HR]), rfl⟩
set_option maxHeartbeats 4000000 in
theorem convert_bad (A Nu De : Int) (w : World) (hb : cnvBad A Nu De = true) :
    Calls Try.prog 11 #[.int .i64 A, .agg #[.int .i64 Nu, .int .i64 De]] w fun e w' => e = .returned (.tuple #[.int .i64 0, .int .i64 3]) ∧ Below w.heap.size w w' := by
  have hc := of_decide_eq_true hb
  have HB := hide ((Below.refl w.heap.size w).alloc (Nat.le_refl _) (.cells #[.int .i64 Nu, .int .i64 De] 36))
  clear hb
  by_cases a1 : A < 0
  · have a1' : ¬ 0 ≤ A := by omega
    clear hc
    go_enter Try.func11, Try.ntmps11
    go_wp2
    go_ret2
    exact ⟨rfl, unhide HB⟩
  have a1' : 0 ≤ A := by omega
  by_cases a2 : 999999999999 < A
  · have a2' : ¬ A ≤ 999999999999 := by omega
    clear hc
    go_enter Try.func11, Try.ntmps11
    go_wp2
    go_ret2
    exact ⟨rfl, unhide HB⟩
  have a2' : A ≤ 999999999999 := by omega
  by_cases n1 : Nu < 1
  · have n1' : ¬ 1 ≤ Nu := by omega
    clear hc
    go_enter Try.func11, Try.ntmps11
    go_wp2
    go_ret2
    exact ⟨rfl, unhide HB⟩
  have n1' : 1 ≤ Nu := by omega
  by_cases n2 : 1000000000 < Nu
  · have n2' : ¬ Nu ≤ 1000000000 := by omega
    clear hc
    go_enter Try.func11, Try.ntmps11
    go_wp2
    go_ret2
    exact ⟨rfl, unhide HB⟩
  have n2' : Nu ≤ 1000000000 := by omega
  by_cases d1 : De < 1
  · have d1' : ¬ 1 ≤ De := by omega
    clear hc
    go_enter Try.func11, Try.ntmps11
    go_wp2
    go_ret2
    exact ⟨rfl, unhide HB⟩
  have d1' : 1 ≤ De := by omega
  have d2' : ¬ De ≤ 1000000000 := by omega
  clear hc
  go_enter Try.func11, Try.ntmps11
  go_wp2
  go_ret2
  exact ⟨rfl, unhide HB⟩
end Go.Proofs.Ytbnpajijbdddiaa
