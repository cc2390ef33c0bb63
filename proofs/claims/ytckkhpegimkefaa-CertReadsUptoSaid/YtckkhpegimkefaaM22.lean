/- bodyOf of the program. -/
import Derived.Test.YtckkhpegimkefaaM21
import Derived.Test.YtckkhpegimkefaaM00
import Derived.Deep.QuietTactic
import Derived.BigQuiet
import Derived.WalkSmall
namespace Go.Proofs.Ytckkhpegimkefaa
open Go.RowKit
set_option linter.unusedVariables false
set_option linter.unusedSimpArgs false
set_option maxRecDepth 100000

theorem slice_toQ (st : ByteArray) (j : Nat) (h : j ≤ st.size) (wx : World) : (Instr.slice 9 (.string st) none (some (.int .i64 (j : Int))) none).run Try.prog wx = .ok (.string (st.extract 0 j)) wx := by
  have hx := run_slice_string_to_if (P := Try.prog) wx 9 st .i64 (j : Int) Try.underlying9
  rw [if_pos ⟨by omega, by omega⟩, Int.toNat_natCast] at hx
  exact hx
set_option maxHeartbeats 2000000 in
theorem bodyOf_any (x rest : ByteArray) (w : World) (h40 : 40 ≤ x.size) (h96 : x.size ≤ 96) (hr : rest.size ≤ 2097152) :
    Calls Try.prog 8 #[.string x, .string rest] w fun e w' => e = .returned (.tuple #[.string (bif bdB x rest then rcBody x rest else ⟨#[]⟩), .bool (bdB x rest)]) ∧ Below w.heap.size w w' := by
  have hz := inT_size x h40
  have hN := rcN_lt x
  have N1 := hide (fun W => readN_any ((inT x).extract 0 2) W (by rw [ByteArray.size_extract]; omega))
  have hro : readOf (valN ((inT x).extract 0 2).data.toList) = .tuple #[.int .i64 (rcN x : Int), .int .i64 0] := by
    rw [readOf_small (by show ¬ 9223372036854775807 < rcN x; omega)]; rfl
  have N1' := unhide N1
  rw [hro] at N1'
  have N1 := hide N1'
  have hw1 : wrap64 ((x.size : Int) - 20) = (x.size : Int) - 20 := by unfold wrap64; omega
  have sl1 : ∀ wx, (Instr.slice 9 (.string x) (some (.int .i64 2)) (some (.int .i64 ((x.size : Int) - 20))) none).run Try.prog wx = .ok (.string (inT x)) wx := fun wx => by
    rw [run_slice_string (P := Try.prog) wx 9 x .i64 .i64 (2 : Int) ((x.size : Int) - 20) Try.underlying9 (by omega) (by omega) (by omega)]
    rw [show ((x.size : Int) - 20).toNat = x.size - 20 by omega]
    rfl
  have hB : bdB x rest = decide (rcN x ≤ 1000 ∧ rest.size = 2 + rcN x - (inT x).size) := rfl
  have hbody : rcBody x rest = (inT x ++ rest).extract 2 (2 + rcN x) := rfl
  have ha := fun w' => run_string_add_sum (P := Try.prog) w' (inT x) rest (by omega)
  have hz2 : (2 : Int) ≤ ((inT x).size : Int) := by omega
  have hzb : ((inT x).size : Int) ≤ 74 := by omega
  have hsum : (inT x ++ rest).size = (inT x).size + rest.size := ByteArray.size_append
  rw [hbody, hB]
  clear N1' hro hB hbody h40 h96 hz
  generalize inT x = i at *
  generalize rcN x = n at *
  have hw2 : wrap64 (2 + (n : Int)) = 2 + (n : Int) := by unfold wrap64; omega
  have hw3 : wrap64 (2 + (n : Int) - (i.size : Int)) = 2 + (n : Int) - (i.size : Int) := by unfold wrap64; omega
  by_cases h1 : n ≤ 1000
  case neg =>
    rw [decide_eq_false (fun h => h1 h.1)]
    have hgt : (1000 : Int) < (n : Int) := by omega
    clear h1 ha hsum
    go_enter Try.func8, Try.ntmps8
    go_wp2_with fail
    refine (unhide N1 _).mono ?_
    rintro e y ⟨rfl, hy⟩
    have hy' := hy.symm
    subst hy'
    clear hy
    go_wp2
    go_ret2
    exact ⟨rfl, Below.refl _ _⟩
  have hle : (n : Int) ≤ 1000 := by omega
  have hmax : max (2 + (n : Int) - (i.size : Int)) 0 = ((2 + n - i.size : Nat) : Int) := by omega
  by_cases h2 : rest.size = 2 + n - i.size
  case neg =>
    rw [decide_eq_false (fun h => h2 h.2)]
    have hne : ¬ (rest.size : Int) = ((2 + n - i.size : Nat) : Int) := by omega
    have hne2 : ((rest.size : Int) != ((2 + n - i.size : Nat) : Int)) = true := by simpa using hne
    clear h1 h2 ha hsum
    go_enter Try.func8, Try.ntmps8
    go_wp2_with fail
    refine (unhide N1 _).mono ?_
    rintro e y ⟨rfl, hy⟩
    have hy' := hy.symm
    subst hy'
    clear hy
    go_wp2
    go_ret2
    exact ⟨rfl, Below.refl _ _⟩
  case pos =>
    rw [decide_eq_true ⟨h1, h2⟩]
    have heq : (rest.size : Int) = ((2 + n - i.size : Nat) : Int) := by omega
    have hne2 : ((rest.size : Int) != ((2 + n - i.size : Nat) : Int)) = false := by simpa using heq
    have HQ : Hid ((bif true then (i ++ rest).extract 2 (2 + n) else (⟨#[]⟩ : ByteArray)) = (i ++ rest).extract 2 (2 + n)) := hide rfl
    have sl2 : ∀ wx, (Instr.slice 9 (.string (i ++ rest)) (some (.int .i64 2)) (some (.int .i64 (2 + (n : Int)))) none).run Try.prog wx = .ok (.string ((i ++ rest).extract 2 (2 + n))) wx := fun wx => by
      rw [run_slice_string (P := Try.prog) wx 9 (i ++ rest) .i64 .i64 (2 : Int) (2 + (n : Int)) Try.underlying9 (by omega) (by omega) (by rw [hsum]; omega)]
      rw [show ((2 : Int) + (n : Int)).toNat = 2 + n by omega]
      rfl
    have HEQ := hide heq
    generalize (i ++ rest).extract 2 (2 + n) = body at *
    clear h1 h2 hsum heq
    go_enter Try.func8, Try.ntmps8
    go_wp2_with fail
    refine (unhide N1 _).mono ?_
    rintro e y ⟨rfl, hy⟩
    have hy' := hy.symm
    subst hy'
    clear hy
    go_wp2
    go_ret2
    exact ⟨by rw [unhide HQ]; rfl, Below.refl _ _⟩
end Go.Proofs.Ytckkhpegimkefaa
namespace Go.Proofs.Ytckkhpegimkefaa
open Go.RowKit
set_option linter.unusedVariables false

/-- 2^32 -/
def B32 : Nat := 4294967296
theorem B32_pos : 0 < B32 := by unfold B32; decide
theorem B32_two : 2 ≤ B32 := by unfold B32; decide
/-- the number of a list of words, the low one first -/
def natV : List Nat → Nat
  | [] => 0
  | x :: r => x + B32 * natV r
def okV (l : List Nat) : Prop := ∀ x ∈ l, x < B32
theorem okV_nil : okV [] := fun x hx => by cases hx
theorem okV_get {l : List Nat} (h : okV l) {i x : Nat} (hi : l[i]? = some x) : x < B32 := h x (List.mem_of_getElem? hi)
theorem okV_cons {x : Nat} {l : List Nat} (h : okV (x :: l)) : x < B32 ∧ okV l := ⟨h x (by simp), fun y hy => h y (by simp [hy])⟩
theorem okV_append {a b : List Nat} (ha : okV a) (hb : okV b) : okV (a ++ b) := fun x hx => by
  rcases List.mem_append.1 hx with h | h
  · exact ha x h
  · exact hb x h
theorem okV_take {a : List Nat} (h : okV a) (n : Nat) : okV (a.take n) := fun x hx => h x (List.mem_of_mem_take hx)
theorem okV_set {a : List Nat} (h : okV a) (i x : Nat) (hx : x < B32) : okV (a.set i x) := fun y hy => by
  rcases List.mem_or_eq_of_mem_set hy with h1 | h1
  · exact h y h1
  · rw [h1]; exact hx
theorem okV_zeros (n : Nat) : okV (List.replicate n 0) := fun x hx => by
  rw [(List.mem_replicate.1 hx).2]; exact B32_pos
theorem natV_append (a b : List Nat) : natV (a ++ b) = natV a + B32 ^ a.length * natV b := by
  induction a with
  | nil => simp [natV]
  | cons x r ih =>
    simp only [List.cons_append, natV, List.length_cons, Nat.pow_succ, ih]
    grind
theorem natV_lt {l : List Nat} (h : okV l) : natV l < B32 ^ l.length := by
  induction l with
  | nil => simp [natV]
  | cons x r ih =>
    obtain ⟨hx, hr'⟩ := okV_cons h
    have hr := ih hr'
    simp only [natV, List.length_cons, Nat.pow_succ]
    have h2 : B32 * (natV r + 1) ≤ B32 * B32 ^ r.length := Nat.mul_le_mul_left _ hr
    have h3 : B32 * (natV r + 1) = B32 * natV r + B32 := by rw [Nat.mul_add, Nat.mul_one]
    have h4 : B32 ^ r.length * B32 = B32 * B32 ^ r.length := Nat.mul_comm _ _
    omega
theorem natV_zeros (n : Nat) : natV (List.replicate n 0) = 0 := by
  induction n with
  | zero => rfl
  | succ n ih => simp [List.replicate_succ, natV, ih]
theorem natV_take_succ (l : List Nat) (i x : Nat) (h : l[i]? = some x) : natV (l.take (i + 1)) = natV (l.take i) + x * B32 ^ i := by
  have hi : i < l.length := (List.getElem?_eq_some_iff.1 h).1
  rw [List.take_add_one, h, natV_append, List.length_take, Nat.min_eq_left (by omega)]
  simp [natV, Nat.mul_comm]
/-- the words of a number, without a nought at the end -/
def dig (n : Nat) : List Nat := if h : n = 0 then [] else n % B32 :: dig (n / B32)
termination_by n
decreasing_by exact Nat.div_lt_self (by omega) B32_two
theorem dig_zero : dig 0 = [] := by rw [dig]; simp
theorem dig_pos {n : Nat} (h : n ≠ 0) : dig n = n % B32 :: dig (n / B32) := by rw [dig]; simp [h]
theorem natV_dig (n : Nat) : natV (dig n) = n := by
  induction n using Nat.strongRecOn with
  | _ n ih =>
    by_cases h : n = 0
    · subst h; rw [dig_zero]; rfl
    · rw [dig_pos h, natV, ih _ (Nat.div_lt_self (by omega) B32_two)]
      have := Nat.div_add_mod n B32
      omega
theorem okV_dig (n : Nat) : okV (dig n) := by
  induction n using Nat.strongRecOn with
  | _ n ih =>
    by_cases h : n = 0
    · subst h; rw [dig_zero]; exact okV_nil
    · rw [dig_pos h]
      intro x hx
      rcases List.mem_cons.1 hx with rfl | hx
      · exact Nat.mod_lt _ B32_pos
      · exact ih _ (Nat.div_lt_self (by omega) B32_two) x hx
theorem natV_cons_div {x : Nat} {r : List Nat} (hx : x < B32) : (x + B32 * natV r) / B32 = natV r ∧ (x + B32 * natV r) % B32 = x := by
  constructor
  · rw [Nat.add_mul_div_left _ _ B32_pos, Nat.div_eq_of_lt hx, Nat.zero_add]
  · rw [Nat.add_mul_mod_self_left, Nat.mod_eq_of_lt hx]
/-- a list without a nought at its end is the number's own -/
theorem dig_of {l : List Nat} (h : okV l) (hl : ∀ x, l.getLast? = some x → x ≠ 0) : dig (natV l) = l := by
  induction l with
  | nil => exact dig_zero
  | cons x r ih =>
    obtain ⟨hx, hr⟩ := okV_cons h
    obtain ⟨e1, e2⟩ := natV_cons_div (r := r) hx
    have hr0 : r = [] ∨ natV r ≠ 0 := by
      rcases Decidable.em (r = []) with h0 | h0
      · exact .inl h0
      · right
        have := ih hr (fun y hy => hl y (by rw [List.getLast?_cons, hy]; rfl))
        intro hz
        rw [hz, dig_zero] at this
        exact h0 this.symm
    have hne : natV (x :: r) ≠ 0 := by
      rcases hr0 with rfl | h0
      · have := hl x rfl
        simp only [natV]; omega
      · simp only [natV]
        have := Nat.mul_pos B32_pos (Nat.pos_of_ne_zero h0)
        omega
    rw [dig_pos hne]
    simp only [natV] at *
    rw [e1, e2]
    congr 1
    rcases hr0 with rfl | h0
    · exact dig_zero
    · exact ih hr (fun y hy => hl y (by rw [List.getLast?_cons, hy]; rfl))
/-- noughts at the end change nothing: the number's own words are the first ones -/
theorem dig_take {l : List Nat} (h : okV l) (n : Nat) (hn : n ≤ l.length) (hz : ∀ i x, n ≤ i → l[i]? = some x → x = 0) (hl : n = 0 ∨ ∃ x, l[n - 1]? = some x ∧ x ≠ 0) : dig (natV l) = l.take n := by
  have e : l = l.take n ++ l.drop n := (List.take_append_drop n l).symm
  have hd : l.drop n = List.replicate (l.length - n) 0 := by
    rw [← List.length_drop]
    apply List.eq_replicate_of_mem
    intro x hx
    obtain ⟨i, hi⟩ := List.getElem?_of_mem hx
    rw [List.getElem?_drop] at hi
    exact hz _ x (by omega) hi
  have hv : natV l = natV (l.take n) := by
    conv => lhs; rw [e]
    rw [natV_append, hd, natV_zeros, Nat.mul_zero, Nat.add_zero]
  rw [hv]
  refine dig_of (okV_take h n) (fun x hx => ?_)
  rcases hl with rfl | ⟨y, hy, hy0⟩
  · simp at hx
  · rw [List.getLast?_eq_getElem?, List.length_take, Nat.min_eq_left hn] at hx
    have hn0 : n - 1 < n := by
      rcases Nat.eq_zero_or_pos n with h0 | h0
      · subst h0; simp at hx
      · omega
    rw [List.getElem?_take_of_lt hn0, hy] at hx
    obtain rfl : y = x := by simpa using hx
    exact hy0
theorem dig_len (k : Nat) : ∀ n, n < B32 ^ k → (dig n).length ≤ k := by
  induction k with
  | zero =>
    intro n h
    obtain rfl : n = 0 := by simpa using h
    rw [dig_zero]; simp
  | succ k ih =>
    intro n h
    by_cases h0 : n = 0
    · subst h0; rw [dig_zero]; simp
    · rw [dig_pos h0, List.length_cons]
      have := ih (n / B32) (Nat.div_lt_of_lt_mul (by rw [Nat.mul_comm, ← Nat.pow_succ]; exact h))
      omega
theorem dig_length (l : List Nat) (h : okV l) : (dig (natV l)).length ≤ l.length := dig_len _ _ (natV_lt h)
theorem lt_dig (n : Nat) : n < B32 ^ (dig n).length := by
  have := natV_lt (okV_dig n)
  rwa [natV_dig] at this
theorem dig_last {n : Nat} (h : n ≠ 0) : ∃ x, (dig n).getLast? = some x ∧ x ≠ 0 := by
  induction n using Nat.strongRecOn with
  | _ n ih =>
    rw [dig_pos h]
    by_cases h0 : n / B32 = 0
    · rw [h0, dig_zero]
      refine ⟨n % B32, rfl, fun e => h ?_⟩
      have := Nat.div_add_mod n B32
      rw [h0, e] at this
      omega
    · obtain ⟨x, hx, hx0⟩ := ih _ (Nat.div_lt_self (by omega) B32_two) h0
      exact ⟨x, by rw [List.getLast?_cons, hx]; rfl, hx0⟩
end Go.Proofs.Ytckkhpegimkefaa
namespace Go.Proofs.Ytckkhpegimkefaa
open Go.RowKit
set_option linter.unusedVariables false

/-- words that lie in a row, to be read -/
def WRow (w : World) (ao : Option Addr) (ws : List Nat) : Prop := ws = [] ∨ ∃ g off, ao = some ⟨g, off, none⟩ ∧ g < w.heap.size ∧ ∀ i x, ws[i]? = some x → w.cell? ⟨g, off + i, none⟩ = some (.int .u32 (x : Nat))
theorem WRow.below {w w' : World} {ao : Option Addr} {ws : List Nat} (h : WRow w ao ws) (hb : Below w.heap.size w w') : WRow w' ao ws := by
  rcases h with h | ⟨g, off, e, hlt, hc⟩
  · exact .inl h
  · exact .inr ⟨g, off, e, Nat.lt_of_lt_of_le hlt hb.size, fun i x hi => (hb.cell (p := ⟨g, off + i, none⟩) hlt).trans (hc i x hi)⟩
theorem WRow.take {w : World} {ao : Option Addr} {ws : List Nat} (h : WRow w ao ws) (n : Nat) : WRow w ao (ws.take n) := by
  rcases h with rfl | ⟨g, off, e, hlt, hc⟩
  · exact .inl (by simp)
  · refine .inr ⟨g, off, e, hlt, fun i x hi => hc i x ?_⟩
    have hin : i < n := by
      have := (List.getElem?_eq_some_iff.1 hi).1
      rw [List.length_take] at this
      omega
    rwa [List.getElem?_take_of_lt hin] at hi
/-- a whole block of words -/
def VCells (row : List Nat) : Array Value := (row.map fun x : Nat => Value.int .u32 (x : Int)).toArray
def VRow (w : World) (g : Nat) (row : List Nat) : Prop := w.heap[g]? = some (.cells (VCells row) 83 (0, 0))
theorem VRow.cell {w : World} {g : Nat} {row : List Nat} (h : VRow w g row) (i x : Nat) (hi : row[i]? = some x) : w.cell? ⟨g, i, none⟩ = some (.int .u32 (x : Nat)) := by
  rw [cell_of_row _ _ i _ _ _ h]
  simp [VCells, hi]
theorem VRow.frozen {w : World} {g : Nat} {row : List Nat} (h : VRow w g row) (i : Nat) : w.frozen? ⟨g, i, none⟩ = false := frozen_of_row _ _ i _ _ h
theorem VRow.lt {w : World} {g : Nat} {row : List Nat} (h : VRow w g row) : g < w.heap.size := by
  rcases Nat.lt_or_ge g w.heap.size with h' | h'
  · exact h'
  · unfold VRow at h
    rw [Array.getElem?_eq_none h'] at h; cases h
theorem VRow.set {w : World} {g : Nat} {row : List Nat} (h : VRow w g row) (i x : Nat) : VRow (w.setCell ⟨g, i, none⟩ (.int .u32 (x : Nat))) g (row.set i x) := by
  unfold VRow at *
  have : (w.setCell ⟨g, i, none⟩ (.int .u32 (x : Nat))).heap[g]? = some (.cells ((VCells row).setIfInBounds i (.int .u32 (x : Nat))) 83 (0, 0)) := by
    simp [World.setCell, Array.getElem?_modify, h]
  rw [this]
  congr 2
  unfold VCells
  rw [List.setIfInBounds_toArray, List.map_set]
theorem VRow.wrow {w : World} {g : Nat} {row : List Nat} (h : VRow w g row) : WRow w (some ⟨g, 0, none⟩) row :=
  .inr ⟨g, 0, rfl, h.lt, fun i x hi => by rw [Nat.zero_add]; exact h.cell i x hi⟩
theorem VRow.below {w w' : World} {g : Nat} {row : List Nat} (h : VRow w g row) (hb : Below w.heap.size w w') : VRow w' g row := by
  have hg := h.lt
  unfold VRow at *
  rw [hb.block g hg, h]

set_option maxHeartbeats 1000000 in
theorem trim_any (ws : List Nat) (g off cap : Nat) (w : World) (hr : WRow w (some ⟨g, off, none⟩) ws) (hok : okV ws) (hl : (ws.length : Int) ≤ 1000000) (hcap : (ws.length : Int) ≤ (cap : Int)) (hc2 : (cap : Int) ≤ 1000000) :
    Calls Try.prog 81 #[.slice (some ⟨g, off, none⟩) ws.length cap] w fun e w' => e = .returned (.slice (some ⟨g, off, none⟩) (dig (natV ws)).length cap) ∧ w' = w := by
  have HR := hide hr; have HOK := hide hok
  clear hr hok
  go_enter Try.func81, Try.ntmps81
  go_wp2
  go_loopw [3] (fun n wr => ∃ k : Nat, k ≤ ws.length ∧ n = .int .i64 k ∧ Hid (∀ i x, k ≤ i → ws[i]? = some x → x = 0) ∧ wr = w) (fun n _ => (intOf n).toNat)
  case atStart => exact ⟨ws.length, Nat.le_refl _, rfl, hide (fun i x hi hx => by rw [List.getElem?_eq_none hi] at hx; cases hx), rfl⟩
  case round =>
    obtain ⟨k, hk, rfl, HZ, rfl⟩ := hrel
    have fin : (k = 0 ∨ ∃ x, ws[k - 1]? = some x ∧ x ≠ 0) → (dig (natV ws)).length = k := fun h => by
      rw [dig_take (unhide HOK) k hk (unhide HZ) h, List.length_take]
      omega
    have HFIN := hide fin
    clear fin
    have hkc : (k : Int) ≤ (cap : Int) := by omega
    cases k with
    | zero =>
      have HE := hide (unhide HFIN (.inl rfl))
      clear HFIN
      go_wp2
      go_ret
      exact ⟨by rw [unhide HE]; rfl, rfl⟩
    | succ j =>
      obtain ⟨x, hx⟩ : ∃ x, ws[j]? = some x := ⟨_, List.getElem?_eq_getElem (by omega)⟩
      rcases (unhide HR) with hnil | ⟨g', off', he, hb, hc⟩
      · rw [hnil] at hx; simp at hx
      obtain ⟨rfl, rfl⟩ : g = g' ∧ off = off' := by simpa using he
      have c0 := hc j x hx
      have hji : (j : Int) < (ws.length : Int) := by omega
      have hw1 : IntKind.i64.wrap (((j + 1 : Nat) : Int) - 1) = (j : Int) := by rw [IntKind.wrap_i64]; omega
      have hgt : decide (0 < ((j + 1 : Nat) : Int)) = true := decide_eq_true (by omega)
      by_cases hx0 : x = 0
      · subst hx0
        have HZ2 : Hid (∀ i x, j ≤ i → ws[i]? = some x → x = 0) := hide (fun i x hi hxi => by
          rcases Nat.lt_or_ge i (j + 1) with h | h
          · obtain rfl : i = j := by omega
            rw [hx] at hxi
            simpa using hxi.symm
          · exact unhide HZ i x h hxi)
        clear hx hc he
        go_wp2
        go_roundw
        case rel => exact ⟨j, by omega, by go_num, HZ2, by first | rfl | trivial⟩
        case measure => simp [intOf]; try omega
      · have HE := hide (unhide HFIN (.inr ⟨x, hx, hx0⟩))
        have hxI : ((x : Int) == 0) = false := by simp; omega
        clear hx hc he hx0 HFIN
        go_wp2
        go_ret
        exact ⟨by rw [unhide HE]; rfl, rfl⟩
theorem trim_nil (w : World) :
    Calls Try.prog 81 #[.slice none 0 0] w fun e w' => e = .returned (.slice none 0 0) ∧ w' = w := by
  go_enter Try.func81, Try.ntmps81
  go_wp2
  go_loopw [3] (fun n wr => n = .int .i64 0 ∧ wr = w) (fun n _ => 0)
  case atStart => exact ⟨rfl, rfl⟩
  case round =>
    obtain ⟨rfl, rfl⟩ := hrel
    go_wp2
    go_ret
    exact ⟨rfl, rfl⟩
end Go.Proofs.Ytckkhpegimkefaa
