/- What a modulus is, by the document's own. -/
import Derived.Test.YtajkbkljonejnaaGreatDoorM29
import Derived.Deep.QuietTactic
import Derived.Test.YtajkbkljonejnaaGreatDoorM07
namespace Go.Proofs.YtajkbkljonejnaaGreatDoor
open Go.RowKit Go.Shelf
set_option linter.unusedVariables false
set_option maxHeartbeats 1000000 in
set_option maxRecDepth 100000 in
theorem rmodulus_any (s : ByteArray) (w : World) :
    Calls Tryz.prog 58 #[.string s] w fun e w' => e = .returned (.bool (isModB s)) ∧ w' = w := by
  by_cases h1 : 40 ≤ s.size
  · by_cases h2 : s.size ≤ 96
    · obtain ⟨c, hc⟩ : ∃ c : Nat, c = (s.data.toList.headD 0).toNat := ⟨_, rfl⟩
      obtain ⟨d, hd⟩ : ∃ d : Nat, d = (s.data.toList.getLastD 0).toNat := ⟨_, rfl⟩
      have hm : isModB s = (decide (128 ≤ c) && decide (d % 2 = 1)) := by
        unfold isModB
        rw [← hc, ← hd, decide_eq_true h1, decide_eq_true h2]
        simp
      rw [hm]
      have hcb : c < 256 := by rw [hc]; exact UInt8.toNat_lt _
      have hdb : d < 256 := by rw [hd]; exact UInt8.toNat_lt _
      obtain ⟨l, hl⟩ : ∃ l, l = s.size - 1 := ⟨_, rfl⟩
      have hli : (s.size : Int) - 1 = (l : Int) := by omega
      have hls : l < s.size := by omega
      have x0 : ∀ h, ((s[0]'h).toNat : Int) = (c : Int) := by
        intro h
        rw [hc]
        congr 2
        have hne : s.data.toList = s[0] :: s.data.toList.tail := by
          have : s.data.toList ≠ [] := by
            intro hh
            have hz : s.size = s.data.toList.length := by simp
            rw [hh, List.length_nil] at hz
            omega
          cases hh : s.data.toList with
          | nil => exact absurd hh this
          | cons a t =>
            have : s[0] = a := by
              show s.data[0] = a
              rw [← Array.getElem_toList]
              simp [hh]
            rw [this]; rfl
        rw [hne]; rfl
      have x1 : ∀ h, ((s[l]'h).toNat : Int) = (d : Int) := by
        intro h
        rw [hd]
        congr 2
        show s.data[l] = _
        rw [List.getLastD_eq_getLast?, List.getLast?_eq_getElem?, ← Array.getElem_toList]
        have hz : s.size = s.data.size := rfl
        rw [show s.data.toList.length - 1 = l by rw [hl, hz]; simp, List.getElem?_eq_getElem (by rw [Array.length_toList, ← hz]; omega)]
        rfl
      clear hc hd hm
      have k1 : (40 : Int) ≤ (s.size : Int) := by omega
      have k2 : (s.size : Int) ≤ 96 := by omega
      by_cases h3 : 128 ≤ c
      · rw [decide_eq_true h3, Bool.true_and]
        have k3 : (127 : Int) < (c : Int) := by omega
        have h4 : d % 2 = 0 ∨ d % 2 = 1 := by omega
        rcases h4 with h4 | h4
        · rw [h4]
          have k4 : (d : Int) % 2 = 0 := by omega
          clear h4 h3 hl
          go_enter Tryz.func58, Tryz.ntmps58
          go_wp2
          go_ret
          exact ⟨rfl, rfl⟩
        · rw [h4]
          have k4 : (d : Int) % 2 = 1 := by omega
          clear h4 h3 hl
          go_enter Tryz.func58, Tryz.ntmps58
          go_wp2
          go_ret
          exact ⟨rfl, rfl⟩
      · rw [decide_eq_false h3, Bool.false_and]
        have k3 : ¬ (127 : Int) < (c : Int) := by omega
        clear h3 hl
        go_enter Tryz.func58, Tryz.ntmps58
        go_wp2
        go_ret
        exact ⟨rfl, rfl⟩
    · have hm : isModB s = false := by unfold isModB; rw [decide_eq_false h2]; simp
      rw [hm]
      have k1 : (40 : Int) ≤ (s.size : Int) := by omega
      have k2 : ¬ (s.size : Int) ≤ 96 := by omega
      clear hm
      go_enter Tryz.func58, Tryz.ntmps58
      go_wp2
      go_ret
      exact ⟨rfl, rfl⟩
  · have hm : isModB s = false := by unfold isModB; rw [decide_eq_false h1]; simp
    rw [hm]
    have k1 : ¬ (40 : Int) ≤ (s.size : Int) := by omega
    clear hm
    go_enter Tryz.func58, Tryz.ntmps58
    go_wp2
    go_ret
    exact ⟨rfl, rfl⟩
end Go.Proofs.YtajkbkljonejnaaGreatDoor
namespace Go.Proofs.YtajkbkljonejnaaGreatDoor
open Go.RowKit Go.Shelf
set_option linter.unusedVariables false
def isFacB (s : ByteArray) : Bool := decide (1 ≤ s.size) && decide (s.size ≤ 96) && decide (¬ (s.data.toList.headD 0).toNat = 0)
theorem head_byte (s : ByteArray) (h0 : 1 ≤ s.size) : ∀ h, ((s[0]'h).toNat : Int) = ((s.data.toList.headD 0).toNat : Int) := by
  intro h
  congr 2
  have hne : s.data.toList = s[0] :: s.data.toList.tail := by
    have : s.data.toList ≠ [] := by
      intro hh
      have hz : s.size = s.data.toList.length := by simp
      rw [hh, List.length_nil] at hz
      omega
    cases hh : s.data.toList with
    | nil => exact absurd hh this
    | cons a t =>
      have : s[0] = a := by
        show s.data[0] = a
        rw [← Array.getElem_toList]
        simp [hh]
      rw [this]; rfl
  rw [hne]; rfl
set_option maxHeartbeats 1000000 in
set_option maxRecDepth 100000 in
theorem isFactor_any (s : ByteArray) (w : World) :
    Calls Tryz.prog 124 #[.string s] w fun e w' => e = .returned (.bool (isFacB s)) ∧ w' = w := by
  by_cases h1 : 1 ≤ s.size
  · by_cases h2 : s.size ≤ 96
    · have x0 := head_byte s h1
      have hm : isFacB s = decide (¬ (s.data.toList.headD 0).toNat = 0) := by
        unfold isFacB
        rw [decide_eq_true h1, decide_eq_true h2]
        simp
      rw [hm]
      clear hm
      have hcb : (s.data.toList.headD 0).toNat < 256 := UInt8.toNat_lt _
      generalize (s.data.toList.headD 0).toNat = c at *
      have k1 : (1 : Int) ≤ (s.size : Int) := by omega
      have k2 : (s.size : Int) ≤ 96 := by omega
      by_cases h3 : c = 0
      · rw [decide_eq_false (by omega)]
        have k3 : ((c : Int) != 0) = false := by simp [h3]
        clear h3
        go_enter Tryz.func124, Tryz.ntmps124
        go_wp2
        go_ret
        exact ⟨rfl, rfl⟩
      · rw [decide_eq_true h3]
        have k3 : ((c : Int) != 0) = true := by simp; omega
        clear h3
        go_enter Tryz.func124, Tryz.ntmps124
        go_wp2
        go_ret
        exact ⟨rfl, rfl⟩
    · have hm : isFacB s = false := by unfold isFacB; rw [decide_eq_false h2]; simp
      rw [hm]
      have k1 : (1 : Int) ≤ (s.size : Int) := by omega
      have k2 : ¬ (s.size : Int) ≤ 96 := by omega
      clear hm
      go_enter Tryz.func124, Tryz.ntmps124
      go_wp2
      go_ret
      exact ⟨rfl, rfl⟩
  · have hm : isFacB s = false := by unfold isFacB; rw [decide_eq_false h1]; simp
    rw [hm]
    have k1 : ¬ (1 : Int) ≤ (s.size : Int) := by omega
    clear hm
    go_enter Tryz.func124, Tryz.ntmps124
    go_wp2
    go_ret
    exact ⟨rfl, rfl⟩
end Go.Proofs.YtajkbkljonejnaaGreatDoor
namespace Go.Proofs.YtajkbkljonejnaaGreatDoor
open Go.RowKit Go.Shelf
set_option linter.unusedVariables false
set_option maxHeartbeats 1000000 in
theorem zeros_three (w : World) :
    Calls Tryz.prog 163 #[.int .u64 3] w fun e w' => e = .returned (.int .i64 62) ∧ w' = w := by
  have N0 := len64_any 3 (by decide) w
  rw [show Lib.bitLen 3 = 2 by first | rfl | decide | simp [Lib.bitLen]] at N0
  have N := hide N0
  clear N0
  go_enter Tryz.func163, Tryz.ntmps163
  go_wp2_with fail
  refine (unhide N).mono ?_
  rintro e w' ⟨rfl, rfl⟩
  go_wp2
  go_ret
  exact ⟨rfl, rfl⟩
end Go.Proofs.YtajkbkljonejnaaGreatDoor
namespace Go.Proofs.YtajkbkljonejnaaGreatDoor
open Go.RowKit Go.Shelf
set_option linter.unusedVariables false
set_option maxHeartbeats 1000000 in
set_option maxRecDepth 100000 in
theorem div3_zero (lo : Nat) (hlo : lo < B64) (w : World) :
    Calls Tryz.prog 157 #[.int .u64 0, .int .u64 lo, .int .u64 3] w fun e w' => e = .returned (.tuple #[.int .u64 (lo / 3 : Nat), .int .u64 (lo % 3 : Nat)]) ∧ Below w.heap.size w w' := by
  have k1 : IntKind.u64.wrap ((lo : Int) / 3) = ((lo / 3 : Nat) : Int) := by
    have hlo' : lo < 18446744073709551616 := hlo
    rw [show ((lo : Int) / 3) = ((lo / 3 : Nat) : Int) by omega]
    exact Mul64.wrapN (lo / 3) (Nat.lt_of_le_of_lt (Nat.div_le_self lo 3) hlo)
  go_enter Tryz.func157, Tryz.ntmps157
  go_wp2_with fail
  go_quiet (fail)
  go_wp2
  go_ret2
  exact ⟨rfl, below_drewN (Below.refl _ _) _⟩
end Go.Proofs.YtajkbkljonejnaaGreatDoor
namespace Go.Proofs.YtajkbkljonejnaaGreatDoor
open Go.RowKit Go.Shelf
set_option linter.unusedVariables false
set_option maxRecDepth 100000
theorem div3_plain {hi lo A q1 r1 U q0 r0 : Nat} (h1 : hi ≤ 2) (hlo : lo < 18446744073709551616) (hA : A = hi * 4611686018427387904 + lo / 4) (e1 : A = q1 * 3221225472 + r1) (hr1 : r1 < 3221225472)
    (hU : U = r1 * 4294967296 + lo % 4 * 1073741824) (e2 : U = q0 * 3221225472 + r0) (hr0 : r0 < 3221225472) :
    q1 < 4294967296 ∧ U < 18446744073709551616 ∧ q0 < 4294967296 ∧ q1 * 4294967296 + q0 = (hi * 18446744073709551616 + lo) / 3 ∧ r0 / 1073741824 = (hi * 18446744073709551616 + lo) % 3 := by
  refine ⟨by omega, by omega, by omega, by omega, by omega⟩
theorem wr (x : Int) : IntKind.u64.wrap x = x % 18446744073709551616 := by rw [IntKind.wrap_u64]
theorem wrN {x : Int} {n : Nat} (h : x = (n : Int)) (hn : n < 18446744073709551616) : IntKind.u64.wrap x = (n : Int) := by rw [wr]; omega
theorem a11 {hi lo A : Nat} (h1 : hi ≤ 2) (hlo : lo < 18446744073709551616) (hA : A = hi * 4611686018427387904 + lo / 4) : bits .or .u64 (IntKind.u64.wrap ((hi : Int) * 4611686018427387904)) ((lo : Int) / 4) = (A : Int) := by
  have e1 : IntKind.u64.wrap ((hi : Int) * 4611686018427387904) = ((hi * 4611686018427387904 : Nat) : Int) := wrN (by omega) (by omega)
  have e2 : ((lo : Int) / 4) = ((lo / 4 : Nat) : Int) := by omega
  rw [e1, e2, or_nat .u64 64 (by decide) (fun n h0 h1 => by rw [wr]; omega) _ _ (by omega) (by omega)]
  have e3 : hi * 4611686018427387904 = hi <<< 62 := by rw [Nat.shiftLeft_eq]
  rw [e3, ← Nat.shiftLeft_add_eq_or_of_lt (by omega : lo / 4 < 2 ^ 62), Nat.shiftLeft_eq, hA]
theorem a12 {lo b : Nat} (hb : b = lo % 4) : IntKind.u64.wrap ((lo : Int) * 4611686018427387904) = ((b * 4611686018427387904 : Nat) : Int) := by
  rw [wr]; omega
theorem a13 {b : Nat} (hb : b < 4) : ((b : Int) * 4611686018427387904 / 4294967296) = ((b * 1073741824 : Nat) : Int) := by omega
theorem a14 {b : Nat} (hb : b < 4) : bits .and .u64 ((b : Int) * 4611686018427387904) 4294967295 = 0 := by
  have h : b = 0 ∨ b = 1 ∨ b = 2 ∨ b = 3 := by omega
  rcases h with rfl | rfl | rfl | rfl <;> decide
theorem a15 {A q1 r1 : Nat} (e1 : A = q1 * 3221225472 + r1) (l1 : r1 < 3221225472) (p1 : q1 < 4294967296) : IntKind.u64.wrap ((A : Int) / 3221225472) = (q1 : Int) := wrN (by omega) (by omega)
theorem a16 {A q1 r1 : Nat} (e1 : A = q1 * 3221225472 + r1) (l1 : r1 < 3221225472) (p1 : q1 < 4294967296) : IntKind.u64.wrap ((A : Int) - IntKind.u64.wrap ((q1 : Int) * 3221225472)) = (r1 : Int) := by
  rw [wrN (x := (q1 : Int) * 3221225472) (n := q1 * 3221225472) (by omega) (by omega)]
  exact wrN (by omega) (by omega)
theorem a17 {A b q1 r1 U : Nat} (e1 : A = q1 * 3221225472 + r1) (l1 : r1 < 3221225472) (p1 : q1 < 4294967296) (hb : b < 4) (hU : U = r1 * 4294967296 + b * 1073741824) (p2 : U < 18446744073709551616) :
    IntKind.u64.wrap (IntKind.u64.wrap (IntKind.u64.wrap ((A : Int) * 4294967296) + (b : Int) * 1073741824) - IntKind.u64.wrap ((q1 : Int) * 13835058055282163712)) = (U : Int) := by
  rw [wr, wr, wr, wr]; omega
theorem a17b {b r1 U : Nat} (l1 : r1 < 3221225472) (hb : b < 4) (hU : U = r1 * 4294967296 + b * 1073741824) (p2 : U < 18446744073709551616) :
    IntKind.u64.wrap (IntKind.u64.wrap (4294967296 * (r1 : Int)) + (b : Int) * 1073741824) = (U : Int) := by
  rw [wr, wr]; omega
theorem a20 {r0 : Nat} (l2 : r0 < 3221225472) : IntKind.u64.wrap (4294967296 * (r0 : Int)) = ((r0 * 4294967296 : Nat) : Int) := wrN (by omega) (by omega)
theorem a28 {q1 q0 : Nat} (p1 : q1 < 4294967296) (p3 : q0 < 4294967296) : IntKind.u64.wrap (IntKind.u64.wrap ((q1 : Int) * 4294967296) + (q0 : Int)) = ((q1 * 4294967296 + q0 : Nat) : Int) := by
  rw [wr, wr]; omega
theorem a29 {U q0 r0 : Nat} (e2 : U = q0 * 3221225472 + r0) (l2 : r0 < 3221225472) (p3 : q0 < 4294967296) (p2 : U < 18446744073709551616) :
    IntKind.u64.wrap (IntKind.u64.wrap (IntKind.u64.wrap ((U : Int) * 4294967296)) - IntKind.u64.wrap ((q0 : Int) * 13835058055282163712)) / 4611686018427387904 = ((r0 / 1073741824 : Nat) : Int) := by
  have e : IntKind.u64.wrap (IntKind.u64.wrap (IntKind.u64.wrap ((U : Int) * 4294967296)) - IntKind.u64.wrap ((q0 : Int) * 13835058055282163712)) = ((r0 * 4294967296 : Nat) : Int) := by rw [wr, wr, wr, wr]; omega
  rw [e]; omega
end Go.Proofs.YtajkbkljonejnaaGreatDoor
