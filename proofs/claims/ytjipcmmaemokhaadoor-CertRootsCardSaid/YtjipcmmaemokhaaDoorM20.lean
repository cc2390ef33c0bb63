/- Numbers in bytes (B6): what Number and ReadNumber answer, of the program and of the reference. -/
import Derived.Test.YtjipcmmaemokhaaDoorM00
import Derived.Test.YtjipcmmaemokhaaDoorM19
namespace Go.Proofs.YtjipcmmaemokhaaDoor
open Go.RowKit
set_option linter.unusedVariables false

/-- the row behind j rounds: zeros, then the low j bytes -/
def rowAt (n k j : Nat) : List Int := List.replicate (k - j) 0 ++ bigL n j
theorem rowAt_length (n k j : Nat) (h : j ≤ k) : (rowAt n k j).length = k := by simp [rowAt, bigL_length]; omega
theorem rowAt_set (n k j : Nat) (h : j < k) : (rowAt n k j).set (k - 1 - j) ((n / 256 ^ j % 256 : Nat) : Int) = rowAt n k (j + 1) := by
  unfold rowAt
  rw [show k - j = (k - (j + 1)) + 1 by omega, List.replicate_succ', List.append_assoc, show k - 1 - j = (List.replicate (k - (j + 1)) (0 : Int)).length + 0 by simp; omega, List.set_append_right _ _ (by omega)]
  simp [bigL]
theorem made_row (k : Nat) (n : Nat) : (madeCells #[Value.int .u8 0] k).toList = (rowAt n k 0).map (Value.int .u8) := by
  have e : rowAt n k 0 = List.replicate k 0 := by simp [rowAt, bigL]
  rw [e, List.map_replicate]
  apply List.ext_getElem
  · simp [madeCells]
  · intro i h1 h2
    simp [madeCells, Nat.mod_one]
theorem pow_256 (n j : Nat) : ((n : Int) / 2 ^ (8 * j)) = ((n / 256 ^ j : Nat) : Int) := by
  rw [Int.pow_mul]
  simp




theorem wraps_u64 (n : Int) (h₀ : 0 ≤ n) (h₁ : n < 2 ^ 64) : IntKind.u64.wrap n = n := by
  simp [IntKind.wrap, IntKind.bits, IntKind.signed]
  omega
theorem or_u64 (m b : Nat) (hb : b < 256) (h : (m : Int) * 256 + b ≤ 18446744073709551615) : bits .or .u64 ((m : Int) * 256) b = ((m * 256 + b : Nat) : Int) := by
  rw [bits_join .u64 64 (by decide) wraps_u64 8 _ _ (by omega) (by omega) (by omega) (by omega) (by omega) (by omega)]
  omega
theorem valN_lt8 (l : List UInt8) (h : l.length ≤ 8) : valN l ≤ 18446744073709551615 := by
  have h1 := valN_lt l
  have h2 : 256 ^ l.length ≤ 256 ^ 8 := Nat.pow_le_pow_right (by omega) h
  omega

/-- what is answered of a number that was read -/
def readOf (m : Nat) : Value := if 9223372036854775807 < m then .tuple #[.int .i64 0, .int .i64 3] else .tuple #[.int .i64 m, .int .i64 0]
theorem readOf_big {m : Nat} (h : 9223372036854775807 < m) : readOf m = .tuple #[.int .i64 0, .int .i64 3] := by rw [readOf, if_pos h]
theorem readOf_small {m : Nat} (h : ¬ 9223372036854775807 < m) : readOf m = .tuple #[.int .i64 m, .int .i64 0] := by rw [readOf, if_neg h]

theorem valN_cons (b : UInt8) (l : List UInt8) : valN (b :: l) = b.toNat * 256 ^ l.length + valN l := by
  have h : ∀ (l : List UInt8) (a : Nat), l.foldl (fun n b => n * 256 + b.toNat) a = a * 256 ^ l.length + l.foldl (fun n b => n * 256 + b.toNat) 0 := by
    intro l
    induction l with
    | nil => intro a; simp
    | cons b l ih =>
      intro a
      rw [List.foldl_cons, List.foldl_cons, List.length_cons, ih (a * 256 + b.toNat), ih (0 * 256 + b.toNat), Nat.pow_succ, Nat.add_mul]
      rw [show a * 256 * 256 ^ l.length = a * (256 ^ l.length * 256) by rw [Nat.mul_assoc, Nat.mul_comm 256], Nat.zero_mul, Nat.zero_add, Nat.add_assoc]
  show (b :: l).foldl _ 0 = _
  rw [List.foldl_cons, h]
  simp [valN]
theorem valN_eight (s : ByteArray) (h8 : s.size = 8) : 9223372036854775807 < valN s.data.toList ↔ 128 ≤ (s[0]'(by omega)).toNat := by
  match hl : s.data.toList with
  | [] => have : s.data.toList.length = 8 := by simpa using h8
          rw [hl] at this; simp at this
  | b :: l =>
    have hlen : s.data.toList.length = 8 := by simpa using h8
    have hb : s[0]'(by omega) = b := by
      have : s.data.toList[0]'(by omega) = b := by simp [hl]
      rw [← this]; rfl
    rw [hb, valN_cons]
    have hl7 : l.length = 7 := by rw [hl] at hlen; simpa using hlen
    have h1 := valN_lt l
    rw [hl7] at h1 ⊢
    omega


end Go.Proofs.YtjipcmmaemokhaaDoor
namespace Go.Proofs.YtjipcmmaemokhaaDoor
open Go.RowKit
set_option linter.unusedVariables false

theorem infoU32 : (Tryd.prog.info? 72).map (fun i => (i.zero, i.size, i.bytes)) = some (some (.int .u32 0), 1, 4) := by kernel_rfl
theorem info_partsV {P : Program} {t : TypeId} {z : Value} {s b : Nat} (h : (P.info? t).map (fun i => (i.zero, i.size, i.bytes)) = some (some z, s, b)) : ∃ i, P.info? t = some i ∧ i.zero = some z ∧ i.size = s ∧ i.bytes = b := by
  cases hi : P.info? t with
  | none => rw [hi] at h; cases h
  | some i => rw [hi] at h; simp at h; exact ⟨i, rfl, h.1, h.2.1, h.2.2⟩
theorem own_wholeV {w : World} {base g n : Nat} {e : TypeId} {xs : List Value} (h : w.ownsRow base e 1 (.slice (some ⟨g, 0, none⟩) n n) n xs) : w.heap[g]? = some (.cells xs.toArray e (0, 0)) := by
  rcases h.2 with ⟨h1, h2⟩ | ⟨g', cap, cur, h1, hB, hh, hle, hm, hsz, htk⟩
  · simp at h1
  · simp only [Value.slice.injEq, Option.some.injEq, Addr.mk.injEq, and_true, true_and] at h1
    obtain ⟨rfl, rfl⟩ := h1
    rw [hh]
    congr 2
    have : cur.toList = xs := by
      rw [← htk, List.take_of_length_le (by simp; omega)]
    rw [← this]
theorem made_wordsV (n : Nat) : (madeCells #[Value.int .u32 0] n).toList = (List.replicate n 0).map fun x : Nat => Value.int .u32 (x : Int) := by
  rw [List.map_replicate]
  apply List.ext_getElem
  · simp [madeCells]
  · intro i h1 h2
    simp [madeCells, Nat.mod_one]
theorem made_vrow {w w1 : World} {base n : Nat} (h : w1.ownsRow base 72 1 (.slice (some ⟨w.heap.size, 0, none⟩) n n) n (madeCells #[Value.int .u32 0] n).toList) : VRow w1 w.heap.size (List.replicate n 0) := by
  have := own_wholeV h
  rw [made_wordsV] at this
  exact this
/-- a number that lies in memory -/
def BigV (w : World) (v : Value) (n : Nat) : Prop := ∃ ao cap, v = .slice ao (dig n).length cap ∧ WRow w ao (dig n)
theorem BigV.below {w w' : World} {v : Value} {n : Nat} (h : BigV w v n) (hb : Below w.heap.size w w') : BigV w' v n := by
  obtain ⟨ao, cap, hv, hr⟩ := h
  exact ⟨ao, cap, hv, hr.below hb⟩
theorem dig_prefix {l : List Nat} (h : okV l) : dig (natV l) = l.take (dig (natV l)).length := by
  suffices hs : ∀ (m : Nat) (l : List Nat), l.length = m → okV l → dig (natV l) = l.take (dig (natV l)).length from hs _ l rfl h
  intro m
  induction m with
  | zero =>
    intro l hl _
    obtain rfl := List.length_eq_zero_iff.1 hl
    simp [natV, dig_zero]
  | succ m ih =>
    intro l hl hok
    cases l with
    | nil => simp at hl
    | cons x r =>
      obtain ⟨hx, hr⟩ := okV_cons hok
      obtain ⟨e1, e2⟩ := natV_cons_div (r := r) hx
      by_cases h0 : natV (x :: r) = 0
      · rw [h0, dig_zero]; simp
      · rw [dig_pos h0]
        simp only [natV] at e1 e2 ⊢
        rw [e1, e2, List.length_cons, List.take_succ_cons, ← ih r (by simpa using hl) hr]
theorem wrow_dig {w : World} {ao : Option Addr} {l : List Nat} (h : WRow w ao l) (hok : okV l) : WRow w ao (dig (natV l)) := by
  rw [dig_prefix hok]
  exact h.take _
theorem okV_snoc {R : List Nat} {r : Nat} (h : okV R) (hr : r < B32) : okV (R ++ [r]) := okV_append h (fun y hy => by
  obtain rfl : y = r := by simpa using hy
  exact hr)
theorem add_step {R xs ys : List Nat} {cn k av bv r c' : Nat} (hRv : natV R + cn * B32 ^ k = natV (xs.take k) + natV (ys.take k)) (hRl : R.length = k) (ha : xs[k]? = some av) (hb : ys[k]? = some bv ∨ (bv = 0 ∧ ys.length ≤ k)) (hs : cn + av + bv = r + c' * B32) :
    natV (R ++ [r]) + c' * B32 ^ (k + 1) = natV (xs.take (k + 1)) + natV (ys.take (k + 1)) := by
  rw [natV_append, hRl, natV_take_succ xs k av ha]
  have hbt : natV (ys.take (k + 1)) = natV (ys.take k) + bv * B32 ^ k := by
    rcases hb with hb | ⟨rfl, hl⟩
    · exact natV_take_succ ys k bv hb
    · rw [List.take_of_length_le (by omega), List.take_of_length_le (by omega)]; simp
  rw [hbt, Nat.pow_succ]
  simp only [natV, Nat.mul_zero, Nat.add_zero]
  grind
end Go.Proofs.YtjipcmmaemokhaaDoor
namespace Go.Proofs.YtjipcmmaemokhaaDoor
open Go.RowKit
set_option linter.unusedVariables false

theorem VRow.drewN {w : World} {g : Nat} {row : List Nat} (h : VRow w g row) (q : Nat) : VRow (w.drewN q) g row := h
theorem natV_set (l : List Nat) (i x r : Nat) (h : l[i]? = some r) : natV (l.set i x) + r * B32 ^ i = natV l + x * B32 ^ i := by
  induction l generalizing i with
  | nil => simp at h
  | cons y t ih =>
    cases i with
    | zero =>
      obtain rfl : y = r := by simpa using h
      simp only [List.set_cons_zero, natV, Nat.pow_zero, Nat.mul_one]
      omega
    | succ i =>
      have := ih i (by simpa using h)
      simp only [List.set_cons_succ, natV, Nat.pow_succ]
      grind
theorem mul_inner {row : List Nat} {V p c r t a b q : Nat} (hv : natV row + c * B32 ^ p = V) (hr : row[p]? = some r) (ht : t = c + (a * b + r)) :
    natV (row.set p (t % B32)) + t / B32 * B32 ^ (p + 1) = V + a * b * B32 ^ p := by
  have h1 := natV_set row p (t % B32) r hr
  have h2 := Nat.div_add_mod t B32
  rw [Nat.pow_succ]
  have h3 : t % B32 * B32 ^ p + t / B32 * (B32 ^ p * B32) = t * B32 ^ p := by
    conv => rhs; rw [← h2]
    grind
  have h4 : t * B32 ^ p = c * B32 ^ p + a * b * B32 ^ p + r * B32 ^ p := by rw [ht]; grind
  omega
theorem mul_next {X Y a i : Nat} (T : Nat) (h : T = X * Y + a * Y * B32 ^ i) : T = (X + a * B32 ^ i) * Y := by rw [h]; grind
theorem prod_lt {a b : Nat} (ha : a < 4294967296) (hb : b < 4294967296) : a * b ≤ 18446744065119617025 := by
  have := Nat.mul_le_mul (show a ≤ 4294967295 by omega) (show b ≤ 4294967295 by omega)
  omega

end Go.Proofs.YtjipcmmaemokhaaDoor
