/- Small things of no one function. -/
import Derived.Test.YtomgjfobagjlaaaProg
import Derived.WalkKit
import Derived.WalkSpells
import Derived.WalkLawsBesides
import Derived.Laws.BytesArg
namespace Go.Proofs.Ytomgjfobagjlaaa
open Go.RowKit

theorem hide {p : Prop} (h : p) : Hid p := h
theorem unhide {p : Prop} (h : Hid p) : p := h
theorem wraps_i64 (n : Int) (h₀ : 0 ≤ n) (h₁ : n < 2 ^ 63) : IntKind.i64.wrap n = n := by rw [IntKind.wrap_i64]; omega
theorem ret_bool {a b : Bool} (h : a = b) : Ending.returned (.bool a) = .returned (.bool b) := by rw [h]
theorem ret_int {k : IntKind} {a b : Int} (h : a = b) : Ending.returned (.int k a) = .returned (.int k b) := by rw [h]
end Go.Proofs.Ytomgjfobagjlaaa
namespace Go.Proofs.Ytomgjfobagjlaaa
open Go.RowKit

theorem infoByte : (Try.prog.info? 5).map (fun i => (i.zero, i.size, i.bytes)) = some (some (.int .u8 0), 1, 1) := by kernel_rfl

/-- k bytes of a number, the high one first -/
def bigL (n : Nat) : Nat → List Int
  | 0 => []
  | k + 1 => ((n / 256 ^ k % 256 : Nat) : Int) :: bigL n k

theorem bigL_length (n k : Nat) : (bigL n k).length = k := by
  induction k with
  | zero => rfl
  | succ k ih => simp [bigL, ih]

theorem strOfNums_append (xs ys : List Int) : strOfNums xs ++ strOfNums ys = strOfNums (xs ++ ys) := by
  apply ByteArray.ext
  simp [strOfNums]

theorem bigL_bytes (n k : Nat) : ∀ z ∈ bigL n k, 0 ≤ z ∧ z < 256 := by
  induction k with
  | zero => simp [bigL]
  | succ k ih =>
    intro z hz
    simp only [bigL, List.mem_cons] at hz
    rcases hz with h | h
    · omega
    · exact ih z h

theorem wrap_pow (k : Nat) (h : k < 8) : wrap64 (2 ^ (8 * k)) = ((256 ^ k : Nat) : Int) := by
  have hk : k = 0 ∨ k = 1 ∨ k = 2 ∨ k = 3 ∨ k = 4 ∨ k = 5 ∨ k = 6 ∨ k = 7 := by omega
  rcases hk with rfl | rfl | rfl | rfl | rfl | rfl | rfl | rfl <;> (unfold wrap64; decide)

theorem take_snoc (s : ByteArray) (k : Nat) (h : k < s.size) : s.data.toList.take (k + 1) = s.data.toList.take k ++ [s[k]] := by
  rw [List.take_succ_eq_append_getElem (by simpa using h)]; rfl

/-- the byte at a place -/
def byteAt (s : ByteArray) (i : Nat) : Nat := (s.data.toList.getD i 0).toNat
theorem byteAt_lt (s : ByteArray) (i : Nat) : byteAt s i < 256 := UInt8.toNat_lt _
theorem get_byte (s : ByteArray) (i : Nat) (h : i < s.size) : ((s[i]'h).toNat : Int) = (byteAt s i : Int) := by
  unfold byteAt
  have e : s.data.toList.getD i 0 = s[i]'h := by
    rw [List.getD_eq_getElem?_getD, List.getElem?_eq_getElem (by simpa using h)]; rfl
  rw [e]
/-- the byte that a number is cut to -/
def lowByte (n : Int) : Int := n % 256
theorem lowByte_mod (m : Int) : lowByte (m % 256) = m % 256 := by unfold lowByte; omega

theorem owned_cells {w : World} {base n : Nat} {v : Value} {xs : List Int} (h : w.ownsRow base 5 1 v n (xs.map (Value.int .u8))) :
    (v = .slice none 0 0 ∧ xs = []) ∨ ∃ g cap, v = .slice (some ⟨g, 0, none⟩) n cap ∧ xs.length = n ∧ ∀ i, i < n → w.cell? ⟨g, 0 + i, none⟩ = some (.int .u8 (xs.getD i 0)) := by
  have h' := h
  obtain ⟨h1, h2⟩ := h
  have hl : xs.length = n := by simpa using h1
  rcases h2 with ⟨rfl, rfl⟩ | ⟨g, cap, cur, rfl, hg, hh, r⟩
  · exact .inl ⟨rfl, List.length_eq_zero_iff.1 hl⟩
  · refine .inr ⟨g, cap, rfl, hl, fun i hi => ?_⟩
    have := h'.cells (g := g) rfl i (.int .u8 (xs.getD i 0)) (by simp [List.getElem?_eq_getElem (show i < xs.length by omega)])
    rw [show (⟨g, 0, none⟩ : Addr).add i = ⟨g, 0 + i, none⟩ from by unfold Addr.add; split <;> simp_all] at this
    exact this

set_option maxHeartbeats 1000000 in
theorem bytes_any (zs : List Int) (b off len cap : Nat) (w : World) (hlen : zs.length = len) (hl : len ≤ 1000) (hbB : b < w.heap.size)
    (hc : ∀ i, i < len → w.cell? ⟨b, off + i, none⟩ = some (.int .i64 (zs.getD i 0))) :
    Calls Try.prog 62 #[.slice (some ⟨b, off, none⟩) len cap] w fun e w' => e = .returned (.string (strOfNums (zs.map lowByte))) ∧ Below w.heap.size w w' := by
  obtain ⟨i0, hi, hz0, hz1, hz2⟩ := info_parts infoByte
  go_enter Try.func62, Try.ntmps62
  go_wp2
  go_loopw [3, 4] (fun v i wr => ∃ k : Nat, k ≤ len ∧ i = .int .i64 k ∧ wr.ownsRow w.heap.size 5 1 v k (((zs.take k).map lowByte).map (Value.int .u8)) ∧ Below w.heap.size w wr)
    (fun _ i _ => len - (intOf i).toNat)
  case atStart => exact ⟨0, Nat.zero_le _, rfl, World.ownsRow_nil _ _ _ _, Below.refl _ _⟩
  case round =>
    obtain ⟨k, hk, rfl, hown, hnx⟩ := hrel
    have hcx : k < len → wr.cell? ⟨b, off + k, none⟩ = some (.int .i64 (zs.getD k 0)) := fun h => (hnx.cell (by exact hbB)).trans (hc k h)
    by_cases hlt : k < len
    · obtain ⟨x, hx⟩ : ∃ x, x = zs.getD k 0 := ⟨_, rfl⟩
      have hcy := hcx hlt
      rw [← hx] at hcy
      have HX : Hid (x = zs.getD k 0) := hx
      clear hx hcx hc
      go_wp2_with (at_builtin; refine wpList_append_own _ rfl _ _ 45 rfl w.heap.size 5 i0 (.int .u8 0) 1 1 Try.underlying45 hi hz0 hz1 hz2 rfl (by decide) _ _ _ rfl (hown.alloc _) ⟨wr.heap.size, 0, none⟩ 1 1 [.int .u8 (x % 256)] rfl rfl (cell_one_new _ _ _) ?c2 ?c3 ?c4 ?c5 ?_)
      case c2 => intro u hu; simp at hu; subst hu; rfl
      case c3 => unfold maxLen; omega
      case c4 => omega
      case c5 => have := hnx.size; simp; omega
      intro v' w1 hown' hgrow _
      have hb1 : Below w.heap.size w w1 := (hnx.alloc hnx.size _).grown hgrow (by have := hnx.size; simp; omega) (fun q hq => ((hown.lt q hq).1))
      have hown2 : w1.ownsRow w.heap.size 5 1 v' (k + 1) (((zs.take (k + 1)).map lowByte).map (Value.int .u8)) := by
        rw [List.take_succ_eq_append_getElem (by omega)]
        have e : x = zs[k] := by rw [HX.out]; simp [List.getElem?_eq_getElem (show k < zs.length by omega)]
        rw [e] at hown'
        rw [List.map_append, List.map_append]
        simpa [lowByte] using hown'
      clear hown' hgrow hown hnx
      go_wp2
      go_roundw
      case rel => exact ⟨k + 1, by omega, by go_num, hown2, hb1⟩
      case measure => simp [intOf]; omega
    · have hkl : k = len := by omega
      subst hkl
      clear hcx hc
      rcases owned_cells hown with ⟨hv, hn⟩ | ⟨g, cap', hv, _, hcl⟩
      · have hcv := run_convert_bytes_nil (P := Try.prog) wr 45 5 Try.underlying45 Try.underlying5 0 0 9 Try.underlying9
        subst hv
        clear hown
        have hz : zs = [] := by simpa [List.take_of_length_le (Nat.le_of_eq hlen)] using hn
        subst hz
        go_wp2
        go_ret
        exact ⟨rfl, hnx⟩
      · have hcv := run_convert_bytes_arg (P := Try.prog) wr 45 5 Try.underlying45 Try.underlying5 g 0 k cap' _ (by simp; omega) hcl 9 Try.underlying9
        rw [List.take_of_length_le (Nat.le_of_eq hlen)] at hcv
        subst hv
        clear hown hcl
        go_wp2
        go_ret
        exact ⟨rfl, hnx⟩

/-- of one number -/
theorem bytes_one (x : Int) (b off cap : Nat) (w : World) (hbB : b < w.heap.size) (hc : w.cell? ⟨b, off, none⟩ = some (.int .i64 x)) :
    Calls Try.prog 62 #[.slice (some ⟨b, off, none⟩) 1 cap] w fun e w' => e = .returned (.string (strOfNums [lowByte x])) ∧ Below w.heap.size w w' :=
  bytes_any [x] b off 1 cap w rfl (by omega) hbB (fun i hi => by
    have h0 : i = 0 := by omega
    subst h0
    exact hc)

set_option maxHeartbeats 1000000 in
theorem big_any (n : Nat) (k : Nat) (w : World) (hk : k ≤ 8) (hn : n ≤ 9223372036854775807) :
    Calls Try.prog 60 #[.int .i64 n, .int .i64 k] w fun e w' => e = .returned (.string (strOfNums (bigL n k))) ∧ Below w.heap.size w w' := by
  go_enter Try.func60, Try.ntmps60
  go_wp2
  go_loopw [0, 5, 6] (fun m s i wr => ∃ j : Nat, j ≤ k ∧ i = .int .i64 j ∧ m = .int .i64 (n / 256 ^ j : Nat) ∧ s = .string (strOfNums (bigL n j)) ∧ Below w.heap.size w wr)
    (fun _ _ i _ => k - (intOf i).toNat)
  case atStart => exact ⟨0, Nat.zero_le _, rfl, by simp, rfl, Below.refl _ _⟩
  case round =>
    obtain ⟨j, hj, rfl, rfl, rfl, hnx⟩ := hrel
    obtain ⟨m, hm⟩ : ∃ m, m = n / 256 ^ j := ⟨_, rfl⟩
    have hmle : m ≤ 9223372036854775807 := by rw [hm]; exact Nat.le_trans (Nat.div_le_self _ _) hn
    rw [← hm]
    have HM : Hid (m = n / 256 ^ j) := hm
    clear hm
    by_cases hlt : j < k
    · have hsz1 : (strOfNums [(m : Int) % 256]).size ≤ 1 := by simp [strOfNums_size]
      have hsz2 : (strOfNums (bigL n j)).size ≤ 8 := by rw [strOfNums_size, bigL_length]; omega
      go_wp2_with fail
      refine (bytes_one ((m : Int) % 256) _ _ _ _ (by simp) (by simp)).mono ?_
      rintro e w1 ⟨rfl, hb1⟩
      rw [lowByte_mod]
      have hb2 : Below w.heap.size w w1 := (hnx.alloc hnx.size _).trans (hb1.mono (by have := hnx.size; simp; omega))
      clear hnx hb1
      go_wp2
      go_roundw
      case rel =>
        refine ⟨j + 1, by omega, by go_num, ?_, ?_, hb2⟩
        · rw [HM.out, Nat.pow_succ, ← Nat.div_div_eq_div_mul]; rfl
        · rw [strOfNums_append]; simp only [bigL, List.singleton_append, ← HM.out]; rfl
      case measure => simp [intOf]; omega
    · have hkl : j = k := by omega
      subst hkl
      go_wp2
      go_ret
      exact ⟨rfl, hnx⟩

end Go.Proofs.Ytomgjfobagjlaaa
namespace Go.Proofs.Ytomgjfobagjlaaa
open Go.RowKit
set_option linter.unusedVariables false

/-- 2^32 -/
def B32 : Nat := 4294967296
theorem B32_pos : 0 < B32 := by unfold B32; decide
theorem B32_two : 2 ≤ B32 := by unfold B32; decide
/-- the number of a list of words, the low one first -/
def natV : List Nat → Nat
  | [] => 0
  | x :: r => x + B32 * natV r
def okV (l : List Nat) : Prop := ∀ x ∈ l, x < B32
theorem okV_nil : okV [] := fun x hx => by cases hx
theorem okV_get {l : List Nat} (h : okV l) {i x : Nat} (hi : l[i]? = some x) : x < B32 := h x (List.mem_of_getElem? hi)
theorem okV_cons {x : Nat} {l : List Nat} (h : okV (x :: l)) : x < B32 ∧ okV l := ⟨h x (by simp), fun y hy => h y (by simp [hy])⟩
theorem okV_append {a b : List Nat} (ha : okV a) (hb : okV b) : okV (a ++ b) := fun x hx => by
  rcases List.mem_append.1 hx with h | h
  · exact ha x h
  · exact hb x h
theorem okV_take {a : List Nat} (h : okV a) (n : Nat) : okV (a.take n) := fun x hx => h x (List.mem_of_mem_take hx)
theorem okV_set {a : List Nat} (h : okV a) (i x : Nat) (hx : x < B32) : okV (a.set i x) := fun y hy => by
  rcases List.mem_or_eq_of_mem_set hy with h1 | h1
  · exact h y h1
  · rw [h1]; exact hx
theorem okV_zeros (n : Nat) : okV (List.replicate n 0) := fun x hx => by
  rw [(List.mem_replicate.1 hx).2]; exact B32_pos
theorem natV_append (a b : List Nat) : natV (a ++ b) = natV a + B32 ^ a.length * natV b := by
  induction a with
  | nil => simp [natV]
  | cons x r ih =>
    simp only [List.cons_append, natV, List.length_cons, Nat.pow_succ, ih]
    grind
theorem natV_lt {l : List Nat} (h : okV l) : natV l < B32 ^ l.length := by
  induction l with
  | nil => simp [natV]
  | cons x r ih =>
    obtain ⟨hx, hr'⟩ := okV_cons h
    have hr := ih hr'
    simp only [natV, List.length_cons, Nat.pow_succ]
    have h2 : B32 * (natV r + 1) ≤ B32 * B32 ^ r.length := Nat.mul_le_mul_left _ hr
    have h3 : B32 * (natV r + 1) = B32 * natV r + B32 := by rw [Nat.mul_add, Nat.mul_one]
    have h4 : B32 ^ r.length * B32 = B32 * B32 ^ r.length := Nat.mul_comm _ _
    omega
theorem natV_zeros (n : Nat) : natV (List.replicate n 0) = 0 := by
  induction n with
  | zero => rfl
  | succ n ih => simp [List.replicate_succ, natV, ih]
theorem natV_take_succ (l : List Nat) (i x : Nat) (h : l[i]? = some x) : natV (l.take (i + 1)) = natV (l.take i) + x * B32 ^ i := by
  have hi : i < l.length := (List.getElem?_eq_some_iff.1 h).1
  rw [List.take_add_one, h, natV_append, List.length_take, Nat.min_eq_left (by omega)]
  simp [natV, Nat.mul_comm]
/-- the words of a number, without a nought at the end -/
def dig (n : Nat) : List Nat := if h : n = 0 then [] else n % B32 :: dig (n / B32)
termination_by n
decreasing_by exact Nat.div_lt_self (by omega) B32_two
theorem dig_zero : dig 0 = [] := by rw [dig]; simp
theorem dig_pos {n : Nat} (h : n ≠ 0) : dig n = n % B32 :: dig (n / B32) := by rw [dig]; simp [h]
theorem natV_dig (n : Nat) : natV (dig n) = n := by
  induction n using Nat.strongRecOn with
  | _ n ih =>
    by_cases h : n = 0
    · subst h; rw [dig_zero]; rfl
    · rw [dig_pos h, natV, ih _ (Nat.div_lt_self (by omega) B32_two)]
      have := Nat.div_add_mod n B32
      omega
theorem okV_dig (n : Nat) : okV (dig n) := by
  induction n using Nat.strongRecOn with
  | _ n ih =>
    by_cases h : n = 0
    · subst h; rw [dig_zero]; exact okV_nil
    · rw [dig_pos h]
      intro x hx
      rcases List.mem_cons.1 hx with rfl | hx
      · exact Nat.mod_lt _ B32_pos
      · exact ih _ (Nat.div_lt_self (by omega) B32_two) x hx
theorem natV_cons_div {x : Nat} {r : List Nat} (hx : x < B32) : (x + B32 * natV r) / B32 = natV r ∧ (x + B32 * natV r) % B32 = x := by
  constructor
  · rw [Nat.add_mul_div_left _ _ B32_pos, Nat.div_eq_of_lt hx, Nat.zero_add]
  · rw [Nat.add_mul_mod_self_left, Nat.mod_eq_of_lt hx]
/-- a list without a nought at its end is the number's own -/
theorem dig_of {l : List Nat} (h : okV l) (hl : ∀ x, l.getLast? = some x → x ≠ 0) : dig (natV l) = l := by
  induction l with
  | nil => exact dig_zero
  | cons x r ih =>
    obtain ⟨hx, hr⟩ := okV_cons h
    obtain ⟨e1, e2⟩ := natV_cons_div (r := r) hx
    have hr0 : r = [] ∨ natV r ≠ 0 := by
      rcases Decidable.em (r = []) with h0 | h0
      · exact .inl h0
      · right
        have := ih hr (fun y hy => hl y (by rw [List.getLast?_cons, hy]; rfl))
        intro hz
        rw [hz, dig_zero] at this
        exact h0 this.symm
    have hne : natV (x :: r) ≠ 0 := by
      rcases hr0 with rfl | h0
      · have := hl x rfl
        simp only [natV]; omega
      · simp only [natV]
        have := Nat.mul_pos B32_pos (Nat.pos_of_ne_zero h0)
        omega
    rw [dig_pos hne]
    simp only [natV] at *
    rw [e1, e2]
    congr 1
    rcases hr0 with rfl | h0
    · exact dig_zero
    · exact ih hr (fun y hy => hl y (by rw [List.getLast?_cons, hy]; rfl))
/-- noughts at the end change nothing: the number's own words are the first ones -/
theorem dig_take {l : List Nat} (h : okV l) (n : Nat) (hn : n ≤ l.length) (hz : ∀ i x, n ≤ i → l[i]? = some x → x = 0) (hl : n = 0 ∨ ∃ x, l[n - 1]? = some x ∧ x ≠ 0) : dig (natV l) = l.take n := by
  have e : l = l.take n ++ l.drop n := (List.take_append_drop n l).symm
  have hd : l.drop n = List.replicate (l.length - n) 0 := by
    rw [← List.length_drop]
    apply List.eq_replicate_of_mem
    intro x hx
    obtain ⟨i, hi⟩ := List.getElem?_of_mem hx
    rw [List.getElem?_drop] at hi
    exact hz _ x (by omega) hi
  have hv : natV l = natV (l.take n) := by
    conv => lhs; rw [e]
    rw [natV_append, hd, natV_zeros, Nat.mul_zero, Nat.add_zero]
  rw [hv]
  refine dig_of (okV_take h n) (fun x hx => ?_)
  rcases hl with rfl | ⟨y, hy, hy0⟩
  · simp at hx
  · rw [List.getLast?_eq_getElem?, List.length_take, Nat.min_eq_left hn] at hx
    have hn0 : n - 1 < n := by
      rcases Nat.eq_zero_or_pos n with h0 | h0
      · subst h0; simp at hx
      · omega
    rw [List.getElem?_take_of_lt hn0, hy] at hx
    obtain rfl : y = x := by simpa using hx
    exact hy0
theorem dig_len (k : Nat) : ∀ n, n < B32 ^ k → (dig n).length ≤ k := by
  induction k with
  | zero =>
    intro n h
    obtain rfl : n = 0 := by simpa using h
    rw [dig_zero]; simp
  | succ k ih =>
    intro n h
    by_cases h0 : n = 0
    · subst h0; rw [dig_zero]; simp
    · rw [dig_pos h0, List.length_cons]
      have := ih (n / B32) (Nat.div_lt_of_lt_mul (by rw [Nat.mul_comm, ← Nat.pow_succ]; exact h))
      omega
theorem dig_length (l : List Nat) (h : okV l) : (dig (natV l)).length ≤ l.length := dig_len _ _ (natV_lt h)
theorem lt_dig (n : Nat) : n < B32 ^ (dig n).length := by
  have := natV_lt (okV_dig n)
  rwa [natV_dig] at this
theorem dig_last {n : Nat} (h : n ≠ 0) : ∃ x, (dig n).getLast? = some x ∧ x ≠ 0 := by
  induction n using Nat.strongRecOn with
  | _ n ih =>
    rw [dig_pos h]
    by_cases h0 : n / B32 = 0
    · rw [h0, dig_zero]
      refine ⟨n % B32, rfl, fun e => h ?_⟩
      have := Nat.div_add_mod n B32
      rw [h0, e] at this
      omega
    · obtain ⟨x, hx, hx0⟩ := ih _ (Nat.div_lt_self (by omega) B32_two) h0
      exact ⟨x, by rw [List.getLast?_cons, hx]; rfl, hx0⟩
end Go.Proofs.Ytomgjfobagjlaaa
