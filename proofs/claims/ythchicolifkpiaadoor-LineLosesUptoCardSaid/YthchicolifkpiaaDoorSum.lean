/- The sum of a frame: of the program (by a table) and of the reference (bit by bit). -/
import Derived.Test.YthchicolifkpiaaDoorCrc
import Derived.Test.YthchicolifkpiaaDoorLow
namespace Go.Proofs.YthchicolifkpiaaDoor
open Go.RowKit
set_option linter.unusedVariables false

/-- the table lies in memory as it was written out -/
def Tab (w : World) : Prop := ∀ i, i < 16 → w.cell? ⟨0, i, none⟩ = some (.int .u16 (stepsT.getD i 0))
theorem Tab.below {B : Nat} {w w' : World} (h : Tab w) (hb : Below B w w') (hB : 0 < B) : Tab w' := fun i hi => (hb.cell (p := ⟨0, i, none⟩) hB).trans (h i hi)

theorem xor_nat (k : IntKind) (j : Nat) (hj : j ≤ k.bits) (hk : ∀ n : Int, 0 ≤ n → n < 2 ^ j → k.wrap n = n) (a b : Nat) (ha : a < 2 ^ j) (hb : b < 2 ^ j) : bits .xor k a b = ((a ^^^ b : Nat) : Int) := by
  have hp : 2 ^ j ≤ 2 ^ k.bits := Nat.pow_le_pow_right (by decide) hj
  have hx : a ^^^ b < 2 ^ j := Nat.xor_lt_two_pow ha hb
  simp only [bits, BitVec.toNat_xor, BitVec.toNat_ofInt]
  have ea : ((a : Int) % ((2 ^ k.bits : Nat) : Int)).toNat = a := by
    rw [← Int.natCast_emod, Int.toNat_natCast, Nat.mod_eq_of_lt (Nat.lt_of_lt_of_le ha hp)]
  have eb : ((b : Int) % ((2 ^ k.bits : Nat) : Int)).toNat = b := by
    rw [← Int.natCast_emod, Int.toNat_natCast, Nat.mod_eq_of_lt (Nat.lt_of_lt_of_le hb hp)]
  rw [ea, eb]
  exact hk _ (by omega) (by exact_mod_cast hx)
theorem wraps_u16 (n : Int) (h₀ : 0 ≤ n) (h₁ : n < 2 ^ 16) : IntKind.u16.wrap n = n := by
  simp [IntKind.wrap, IntKind.bits, IntKind.signed]
  omega
theorem xor_u16 (a b : Nat) (ha : a < 65536) (hb : b < 65536) : bits .xor .u16 a b = ((a ^^^ b : Nat) : Int) := xor_nat .u16 16 (by decide) wraps_u16 a b ha hb

theorem nib_lt (x v : Nat) (hx : x < 65536) (hv : v < 16) : nib x v < 65536 := by rw [nib_eq x v hx hv]; exact nibBits_lt _ _
theorem idx_lt (x v : Nat) (hx : x < 65536) (hv : v < 16) : x / 4096 ^^^ v < 16 := Nat.xor_lt_two_pow (n := 4) (by omega) (by omega)
theorem steps_lt : ∀ i : Fin 16, stepsT.getD i.val 0 < 65536 := by decide
theorem nib_bits (x v : Nat) (hx : x < 65536) (hv : v < 16) : bits .xor .u16 (IntKind.u16.wrap ((x : Int) * 16)) ((stepsT.getD (x / 4096 ^^^ v) 0 : Nat) : Int) = (nib x v : Nat) := by
  have e : IntKind.u16.wrap ((x : Int) * 16) = ((x * 16 % 65536 : Nat) : Int) := by
    simp [IntKind.wrap, IntKind.bits, IntKind.signed]
  rw [e, xor_u16 _ _ (Nat.mod_lt _ (by decide)) (steps_lt ⟨_, idx_lt x v hx hv⟩)]
  rfl
theorem idx_bits (x v : Nat) (hx : x < 65536) (hv : v < 16) : bits .xor .u16 ((x : Int) / 4096) (v : Int) = ((x / 4096 ^^^ v : Nat) : Int) := by
  rw [show (x : Int) / 4096 = ((x / 4096 : Nat) : Int) by omega, xor_u16 _ _ (by omega) (by omega)]

set_option maxRecDepth 100000 in
set_option maxHeartbeats 1000000 in
theorem sum_any (s : ByteArray) (w : World) (hs : s.size ≤ maxLen) (ht : Tab w) :
    Calls Tryd.prog 34 #[.string s] w fun e w' => e = .returned (.int .u16 (sumN s.data.toList)) ∧ w' = w := by
  unfold maxLen at hs
  go_enter Tryd.func34, Tryd.ntmps34
  go_wp2
  go_loop [3, 7] (fun n i => ∃ k : Nat, k ≤ s.size ∧ i = .int .i64 k ∧ n = .int .u16 (sumN (s.data.toList.take k))) (fun _ i => s.size - (intOf i).toNat)
  case atStart => exact ⟨0, Nat.zero_le _, rfl, rfl⟩
  case round =>
    obtain ⟨k, hk, rfl, rfl⟩ := hrel
    by_cases hlt : k < s.size
    · obtain ⟨x, hx⟩ : ∃ x, x = sumN (s.data.toList.take k) := ⟨_, rfl⟩
      have hx6 : x < 65536 := by rw [hx]; exact sumN_lt _
      rw [← hx]
      obtain ⟨c, hc⟩ : ∃ c, c = s[k].toNat := ⟨_, rfl⟩
      have hc2 : c < 256 := by rw [hc]; exact s[k].toNat_lt
      have hsn : sumN (s.data.toList.take (k + 1)) = nib (nib x (c / 16)) (c % 16) := by
        rw [take_snoc s k hlt, sumN_snoc, ← hx, ← hc, nib_byte x c hx6 hc2]
      have hcb : ∀ h : k < s.size, ((s[k]'h).toNat : Int) = (c : Int) := fun _ => by rw [hc]
      have HS := hide hsn
      obtain ⟨hv, hhv⟩ : ∃ hv, hv = c / 16 := ⟨_, rfl⟩
      obtain ⟨lv, hlv⟩ : ∃ lv, lv = c % 16 := ⟨_, rfl⟩
      have hv16 : hv < 16 := by omega
      have lv16 : lv < 16 := by omega
      have d1 : (c : Int) / 16 = (hv : Int) := by omega
      have d2 : bits .and .u8 (c : Int) 15 = (lv : Int) := (u8_and15 (x := (c : Int)) (by omega) (by omega)).trans (by omega)
      have b1 := idx_bits x hv hx6 hv16
      have n1 := nib_bits x hv hx6 hv16
      have c1 := ht _ (idx_lt x hv hx6 hv16)
      have y6 := nib_lt x hv hx6 hv16
      rw [← hhv, ← hlv] at hsn
      clear HS
      have HS := hide hsn
      obtain ⟨y, hy⟩ : ∃ y, y = nib x hv := ⟨_, rfl⟩
      rw [← hy] at n1 y6 HS
      have b2 := idx_bits y lv y6 lv16
      have n2 := nib_bits y lv y6 lv16
      have c2 := ht _ (idx_lt y lv y6 lv16)
      have j1 := idx_lt x hv hx6 hv16
      have j2 := idx_lt y lv y6 lv16
      generalize x / 4096 ^^^ hv = i1 at b1 n1 c1 j1
      generalize y / 4096 ^^^ lv = i2 at b2 n2 c2 j2
      generalize stepsT.getD i1 0 = t1 at n1 c1
      generalize stepsT.getD i2 0 = t2 at n2 c2
      generalize nib y lv = z at n2 HS
      clear hsn hc hhv hlv hy hx ht
      go_wp2
      go_round
      case rel => exact ⟨k + 1, by omega, by go_num, by rw [unhide HS]⟩
      case measure => simp [intOf]; omega
    · rw [List.take_of_length_le (by simp; omega)]
      go_wp2
      go_ret
      exact ⟨rfl, rfl⟩

theorem and_1 (x : Int) (h₀ : 0 ≤ x) (h₁ : x ≤ 9223372036854775807) : bits .and .i64 x 1 = x % 2 := bits_mask .i64 63 (by decide) wraps_i64 1 (by decide) x h₀ (by omega)
theorem xor_i64 (a b : Nat) (ha : a < 65536) (hb : b < 65536) : bits .xor .i64 a b = ((a ^^^ b : Nat) : Int) := xor_nat .i64 63 (by decide) wraps_i64 a b (by omega) (by omega)

set_option maxRecDepth 100000 in
set_option maxHeartbeats 1000000 in
theorem rsum_any (s : ByteArray) (w : World) (hs : s.size ≤ maxLen) :
    Calls Tryd.prog 33 #[.string s] w fun e w' => e = .returned (.string (strOfNums (bigL (sumN s.data.toList) 2))) ∧ Below w.heap.size w w' := by
  unfold maxLen at hs
  go_enter Tryd.func33, Tryd.ntmps33
  go_wp2
  go_loop [3, 4] (fun n i => ∃ k : Nat, k ≤ s.size ∧ i = .int .i64 k ∧ n = .int .i64 (sumN (s.data.toList.take k))) (fun _ i => s.size - (intOf i).toNat)
  case atStart => exact ⟨0, Nat.zero_le _, rfl, rfl⟩
  case round =>
    obtain ⟨k, hk, rfl, rfl⟩ := hrel
    by_cases hlt : k < s.size
    · obtain ⟨x, hx⟩ : ∃ x, x = sumN (s.data.toList.take k) := ⟨_, rfl⟩
      have hx6 : x < 65536 := by rw [hx]; exact sumN_lt _
      obtain ⟨c, hc⟩ : ∃ c, c = s[k].toNat := ⟨_, rfl⟩
      have hc2 : c < 256 := by rw [hc]; exact s[k].toNat_lt
      have hsn : sumN (s.data.toList.take (k + 1)) = bitsTo x c 8 := by
        rw [take_snoc s k hlt, sumN_snoc, ← hx, ← hc, bitsTo_eight]
      have hcb : ∀ h : k < s.size, ((s[k]'h).toNat : Int) = (c : Int) := fun _ => by rw [hc]
      have HS := hide hsn
      rw [← hx]
      clear hsn hc hx
      go_wp2
      go_loop [3, 5] (fun n i => ∃ j : Nat, j ≤ 8 ∧ i = .int .i64 (7 - (j : Int)) ∧ n = .int .i64 (bitsTo x c j)) (fun _ i => (intOf i + 1).toNat)
      case atStart => exact ⟨0, by omega, rfl, rfl⟩
      case round =>
        obtain ⟨j, hj, rfl, rfl⟩ := hrel
        have hy6 := bitsTo_lt x c j hx6
        by_cases hlt2 : j < 8
        · obtain ⟨m, hm⟩ : ∃ m, m = 7 - j := ⟨_, rfl⟩
          rw [show (7 - (j : Int)) = (m : Int) by omega]
          obtain ⟨y, hy⟩ : ∃ y, y = bitsTo x c j := ⟨_, rfl⟩
          rw [← hy]
          rw [← hy] at hy6
          obtain ⟨b, hb⟩ : ∃ b, b = c / 2 ^ m % 2 := ⟨_, rfl⟩
          have hcm : c / 2 ^ m ≤ c := Nat.div_le_self _ _
          have hnext : bitsTo x c (j + 1) = bitStep y b := by rw [bitsTo, ← hy, hb, hm]
          have a1 : bits .and .i64 ((c : Int) / 2 ^ m) 1 = (b : Int) := by
            rw [show ((c : Int) / 2 ^ m) = ((c / 2 ^ m : Nat) : Int) by simp]
            rw [hb]
            generalize c / 2 ^ m = u at hcm
            rw [and_1 _ (by omega) (by omega)]
            omega
          have hb2 : b < 2 := by rw [hb]; exact Nat.mod_lt _ (by decide)
          have hm7 : m ≤ 7 := by omega
          have hq2 : b ^^^ y / 32768 < 2 := Nat.xor_lt_two_pow (n := 1) hb2 (by omega)
          have a2 : bits .xor .i64 (b : Int) ((y : Int) / 32768) = ((b ^^^ y / 32768 : Nat) : Int) := by
            rw [show ((y : Int) / 32768) = ((y / 32768 : Nat) : Int) by omega, xor_i64 _ _ (by omega) (by omega)]
          have a3 : bits .xor .i64 ((y : Int) * 2 % 65536) 4129 = ((y * 2 % 65536 ^^^ 4129 : Nat) : Int) := by
            rw [show ((y : Int) * 2 % 65536) = ((y * 2 % 65536 : Nat) : Int) by omega, show (4129 : Int) = ((4129 : Nat) : Int) by rfl, xor_i64 _ _ (by omega) (by omega)]
          by_cases hq : b ^^^ y / 32768 = 1
          · have hz : bitStep y b = y * 2 % 65536 ^^^ 4129 := by unfold bitStep; rw [if_pos hq]
            have t1 : 1 ≤ b ^^^ y / 32768 := by omega
            rw [hz] at hnext
            generalize b ^^^ y / 32768 = q at a2 t1 hq2
            generalize y * 2 % 65536 ^^^ 4129 = z at a3 hnext
            have HN := hide hnext
            have HM := hide hm
            clear hnext hm hz hq hb hy hcm
            go_wp2
            go_round
            case rel => exact ⟨j + 1, by omega, by have := unhide HM; go_num, by rw [unhide HN]⟩
            case measure => simp [intOf]
          · have hz : bitStep y b = y * 2 % 65536 := by unfold bitStep; rw [if_neg hq]
            have t1 : b ^^^ y / 32768 ≤ 0 := by omega
            rw [hz] at hnext
            generalize b ^^^ y / 32768 = q at a2 t1 hq2
            have HN := hide hnext
            have HM := hide hm
            clear hnext hm hz hq hb hy hcm
            go_wp2
            go_round
            case rel => exact ⟨j + 1, by omega, by have := unhide HM; go_num, by rw [unhide HN]; go_num⟩
            case measure => simp [intOf]
        · have hj8 : j = 8 := by omega
          subst hj8
          rw [show (7 - ((8 : Nat) : Int)) = -1 by rfl]
          obtain ⟨y, hy⟩ : ∃ y, y = bitsTo x c 8 := ⟨_, rfl⟩
          rw [← hy]
          have HY := hide hy
          clear hy
          go_wp2
          go_round
          case rel => exact ⟨k + 1, by omega, by go_num, by rw [unhide HS, unhide HY]⟩
          case measure => simp [intOf]; omega
    · rw [List.take_of_length_le (by simp; omega)]
      have h6 := sumN_lt s.data.toList
      go_wp2_with (go_at_call 39; refine (big_any (sumN s.data.toList) 2 _ (by omega) (by omega)).mono ?_; rintro e w1 ⟨rfl, hb1⟩)
      go_ret
      exact ⟨rfl, hb1⟩
end Go.Proofs.YthchicolifkpiaaDoor
