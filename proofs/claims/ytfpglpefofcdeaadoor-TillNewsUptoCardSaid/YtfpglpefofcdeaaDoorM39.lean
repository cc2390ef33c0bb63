/- The reference: item, outer, Deal, DealText. -/
import Derived.Test.YtfpglpefofcdeaaDoorM37
import Derived.Test.YtfpglpefofcdeaaDoorM34
namespace Go.Proofs.YtfpglpefofcdeaaDoor
open Go.RowKit
set_option linter.unusedVariables false

/-- how a length is written, whatever it is -/
def lenR (n : Nat) : List Int := if n < 128 then [(n : Int)] else if n < 256 then [129, (n : Int)] else 130 :: bigL n 2
theorem lenR_length (n : Nat) : (lenR n).length = lenLen n := by unfold lenR lenLen; split <;> (try split) <;> rfl
theorem lenR_small {n : Nat} (h : n < 65536) : lenR n = lenL n := by
  unfold lenR lenL
  split
  · rfl
  · split
    · rfl
    · simp only [bigL, Nat.pow_one, Nat.pow_zero, Nat.div_one]
      have e1 : ((n / 256 % 256 : Nat) : Int) = (n : Int) / 256 := by omega
      have e2 : ((n % 256 : Nat) : Int) = (n : Int) % 256 := by omega
      rw [e1, e2]
def szS (s : ByteArray) : ByteArray := strOfNums (lenR s.size) ++ s
def itS (t : Int) (s : ByteArray) : ByteArray := strOfNums [t] ++ szS s
theorem bytes1T (x : Int) (h0 : 0 ≤ x ∧ x < 256) (b cap : Nat) (w : World) (c0 : w.cell? ⟨b, 0, none⟩ = some (.int .i64 x)) :
    Calls Tryd.prog 49 #[.slice (some ⟨b, 0, none⟩) 1 cap] w fun e w' => e = .returned (.string (strOfNums [x])) ∧ Below w.heap.size w w' := by
  have h := bytes_one x b 0 cap w (World.block_lt_of_cell? w _ c0) c0
  rw [show lowByte x = x from by unfold lowByte; omega] at h
  exact h
set_option maxHeartbeats 2000000 in
theorem rsized_any (s : ByteArray) (w : World) (hs : s.size ≤ 9000000) :
    Calls Tryd.prog 69 #[.string s] w fun e w' => e = .returned (.string (szS s)) ∧ Below w.heap.size w w' := by
  have hsi : (s.size : Int) ≤ 9000000 := by omega
  by_cases h1 : s.size < 128
  · have e : szS s = strOfNums [(s.size : Int)] ++ s := by unfold szS lenR; rw [if_pos h1]
    rw [e]
    have t1 : (s.size : Int) < 128 := by omega
    have n1 := fun b cap w c0 => bytes1T (s.size : Int) (by omega) b cap w c0
    have ha := fun w' => run_string_add_sum (P := Tryd.prog) w' (strOfNums [(s.size : Int)]) s (by rw [strOfNums_size]; simp; omega)
    generalize strOfNums [(s.size : Int)] = a at *
    have N1 := hide n1
    clear n1 e h1
    go_enter Tryd.func69, Tryd.ntmps69
    go_wp2_with fail
    refine (unhide N1 _ _ _ (new_cellQ rfl rfl)).mono ?_
    rintro e w1 ⟨rfl, hb1⟩
    have HB := hide (ext_callQ ((Below.refl w.heap.size w).alloc (Nat.le_refl _) _) hb1)
    clear hb1
    go_wp2
    go_ret
    exact ⟨rfl, unhide HB⟩
  by_cases h2 : s.size < 256
  · have e : szS s = strOfNums [129, (s.size : Int)] ++ s := by unfold szS lenR; rw [if_neg h1, if_pos h2]
    rw [e]
    have t1 : ¬ (s.size : Int) < 128 := by omega
    have t2 : (s.size : Int) < 256 := by omega
    have n1 := fun b cap w c0 c1 => bytesP2 129 (s.size : Int) (by omega) (by omega) b cap w c0 c1
    have ha := fun w' => run_string_add_sum (P := Tryd.prog) w' (strOfNums [129, (s.size : Int)]) s (by rw [strOfNums_size]; simp; omega)
    generalize strOfNums [129, (s.size : Int)] = a at *
    have N1 := hide n1
    clear n1 e h1 h2
    go_enter Tryd.func69, Tryd.ntmps69
    go_wp2_with fail
    refine (unhide N1 _ _ _ (new_cellQ rfl rfl) (new_cellQ rfl rfl)).mono ?_
    rintro e w1 ⟨rfl, hb1⟩
    have HB := hide (ext_callQ ((Below.refl w.heap.size w).alloc (Nat.le_refl _) _) hb1)
    clear hb1
    go_wp2
    go_ret
    exact ⟨rfl, unhide HB⟩
  · have e : szS s = strOfNums [130] ++ strOfNums (bigL s.size 2) ++ s := by
      unfold szS lenR
      rw [if_neg h1, if_neg h2, strOfNums_append]
      rfl
    rw [e]
    have t1 : ¬ (s.size : Int) < 128 := by omega
    have t2 : ¬ (s.size : Int) < 256 := by omega
    have n1 := fun b cap w c0 => bytes1T 130 (by decide) b cap w c0
    have n2 := fun w => big_any s.size 2 w (by decide) (by omega)
    have z1 : (strOfNums [130]).size = 1 := by rw [strOfNums_size]; rfl
    have z2 : (strOfNums (bigL s.size 2)).size = 2 := by rw [strOfNums_size, bigL_length]
    have ha := fun w' => run_string_add_sum (P := Tryd.prog) w' (strOfNums [130]) (strOfNums (bigL s.size 2)) (by omega)
    have hb := fun w' => run_string_add_sum (P := Tryd.prog) w' (strOfNums [130] ++ strOfNums (bigL s.size 2)) s (by rw [ByteArray.size_append]; omega)
    generalize strOfNums [130] = a at *
    generalize strOfNums (bigL s.size 2) = b at *
    have N1 := hide n1; have N2 := hide n2
    clear n1 n2 e h1 h2 z1 z2
    go_enter Tryd.func69, Tryd.ntmps69
    go_wp2_with fail
    refine (unhide N1 _ _ _ (new_cellQ rfl rfl)).mono ?_
    rintro e w1 ⟨rfl, hb1⟩
    have HB := hide (ext_callQ ((Below.refl w.heap.size w).alloc (Nat.le_refl _) _) hb1)
    clear hb1
    go_wp2_with fail
    refine (unhide N2 _).mono ?_
    rintro e w2 ⟨rfl, hb2⟩
    have HB2 := hide (ext_callQ (unhide HB) hb2)
    clear hb2
    go_wp2
    go_ret
    exact ⟨rfl, unhide HB2⟩
theorem szS_size (s : ByteArray) : (szS s).size = lenLen s.size + s.size := by unfold szS; rw [ByteArray.size_append, strOfNums_size, lenR_length]
theorem itS_size (t : Int) (s : ByteArray) : (itS t s).size = 1 + (lenLen s.size + s.size) := by unfold itS; rw [ByteArray.size_append, strOfNums_size, szS_size]; rfl
set_option maxHeartbeats 2000000 in
theorem ritem_any (t : Int) (s : ByteArray) (w : World) (ht : 0 ≤ t ∧ t < 256) (hs : s.size ≤ 9000000) :
    Calls Tryd.prog 48 #[.int .i64 t, .string s] w fun e w' => e = .returned (.string (itS t s)) ∧ Below w.heap.size w w' := by
  have e : itS t s = strOfNums [t] ++ szS s := rfl
  rw [e]
  have n1 := fun b cap w c0 => bytes1T t ht b cap w c0
  have n2 := fun w => rsized_any s w hs
  have z1 : (strOfNums [t]).size = 1 := by rw [strOfNums_size]; rfl
  have z2 := szS_size s
  have z3 := lenLen_le s.size
  have ha := fun w' => run_string_add_sum (P := Tryd.prog) w' (strOfNums [t]) (szS s) (by omega)
  generalize strOfNums [t] = a at *
  generalize szS s = b at *
  have N1 := hide n1; have N2 := hide n2
  clear n1 n2 e z1 z2 z3 ht hs
  go_enter Tryd.func48, Tryd.ntmps48
  go_wp2_with fail
  refine (unhide N1 _ _ _ (new_cellQ rfl rfl)).mono ?_
  rintro e w1 ⟨rfl, hb1⟩
  have HB := hide (ext_callQ ((Below.refl w.heap.size w).alloc (Nat.le_refl _) _) hb1)
  clear hb1
  go_wp2_with fail
  refine (unhide N2 _).mono ?_
  rintro e w2 ⟨rfl, hb2⟩
  have HB2 := hide (ext_callQ (unhide HB) hb2)
  clear hb2
  go_wp2
  go_ret
  exact ⟨rfl, unhide HB2⟩
/-- what outer answers -/
def outE (t : Int) (s : ByteArray) : Int := if 65535 < (itS t s).size then 2 else 0
def outS (t : Int) (s : ByteArray) : ByteArray := if 65535 < (itS t s).size then ⟨#[]⟩ else itS t s
set_option maxHeartbeats 2000000 in
theorem router_any (t : Int) (s : ByteArray) (w : World) (ht : 0 ≤ t ∧ t < 256) (hs : s.size ≤ 9000000) :
    Calls Tryd.prog 51 #[.int .i64 t, .string s] w fun e w' => e = .returned (.tuple #[.string (outS t s), .int .i64 (outE t s)]) ∧ Below w.heap.size w w' := by
  have n1 := fun w => ritem_any t s w ht hs
  have hz := itS_size t s
  have hS : outS t s = if 65535 < (itS t s).size then ⟨#[]⟩ else itS t s := rfl
  have hE : outE t s = if 65535 < (itS t s).size then 2 else 0 := rfl
  generalize itS t s = a at *
  generalize outS t s = oS at *
  generalize outE t s = oE at *
  have N1 := hide n1
  clear n1 ht
  by_cases h : 65535 < a.size
  · rw [if_pos h] at hS hE
    subst hS hE
    have t1 : (65535 : Int) < (a.size : Int) := by omega
    clear h hz hs
    go_enter Tryd.func51, Tryd.ntmps51
    go_wp2_with fail
    refine (unhide N1 _).mono ?_
    rintro e w1 ⟨rfl, hb1⟩
    go_wp2
    go_ret2
    exact ⟨rfl, hb1⟩
  · rw [if_neg h] at hS hE
    subst hS hE
    have t1 : ¬ (65535 : Int) < (oS.size : Int) := by omega
    have t2 : ¬ (65535 : Int) < (s.size : Int) := by omega
    clear h hz hs
    go_enter Tryd.func51, Tryd.ntmps51
    go_wp2_with fail
    refine (unhide N1 _).mono ?_
    rintro e w1 ⟨rfl, hb1⟩
    go_wp2
    go_ret2
    exact ⟨rfl, hb1⟩
theorem tRamount_any (n : Int) (w : World) :
    Calls Tryd.prog 28 #[.int .i64 n] w fun e w' => e = .returned (.bool (inT n 0 999999999999)) ∧ w' = w := by
  by_cases h1 : 0 ≤ n
  · by_cases h2 : n ≤ 999999999999
    · have HD : Hid (inT n 0 999999999999 = true) := hide (decide_eq_true ⟨h1, h2⟩)
      generalize inT n 0 999999999999 = r at *
      go_enter Tryd.func28, Tryd.ntmps28
      go_wp2
      go_ret
      exact ⟨ret_boolQ (unhide HD).symm, rfl⟩
    · have HD : Hid (inT n 0 999999999999 = false) := hide (decide_eq_false (fun h => h2 h.2))
      generalize inT n 0 999999999999 = r at *
      go_enter Tryd.func28, Tryd.ntmps28
      go_wp2
      go_ret
      exact ⟨ret_boolQ (unhide HD).symm, rfl⟩
  · have HD : Hid (inT n 0 999999999999 = false) := hide (decide_eq_false (fun h => h1 h.1))
    generalize inT n 0 999999999999 = r at *
    go_enter Tryd.func28, Tryd.ntmps28
    go_wp2
    go_ret
    exact ⟨ret_boolQ (unhide HD).symm, rfl⟩
theorem rbits_any (n : Int) (w : World) :
    Calls Tryd.prog 14 #[.int .i64 n] w fun e w' => e = .returned (.bool (inT n 0 4095)) ∧ w' = w := by
  by_cases h1 : 0 ≤ n
  · by_cases h2 : n ≤ 4095
    · have HD : Hid (inT n 0 4095 = true) := hide (decide_eq_true ⟨h1, h2⟩)
      have h3 : n < 4096 := by omega
      generalize inT n 0 4095 = r at *
      go_enter Tryd.func14, Tryd.ntmps14
      go_wp2
      go_ret
      exact ⟨ret_boolQ (unhide HD).symm, rfl⟩
    · have HD : Hid (inT n 0 4095 = false) := hide (decide_eq_false (fun h => h2 h.2))
      have h3 : ¬ n < 4096 := by omega
      generalize inT n 0 4095 = r at *
      go_enter Tryd.func14, Tryd.ntmps14
      go_wp2
      go_ret
      exact ⟨ret_boolQ (unhide HD).symm, rfl⟩
  · have HD : Hid (inT n 0 4095 = false) := hide (decide_eq_false (fun h => h1 h.1))
    generalize inT n 0 4095 = r at *
    go_enter Tryd.func14, Tryd.ntmps14
    go_wp2
    go_ret
    exact ⟨ret_boolQ (unhide HD).symm, rfl⟩
theorem dealE_out {d : XDeal} (h : ¬ ((0 ≤ d.amount ∧ d.amount ≤ 999999999999) ∧ (0 ≤ d.shop ∧ d.shop ≤ 4294967295) ∧ (0 ≤ d.trace ∧ d.trace ≤ 4294967295) ∧ (0 ≤ d.day ∧ d.day ≤ 65535) ∧ (0 ≤ d.bits ∧ d.bits ≤ 4095))) : dealE d = 3 := by
  unfold dealE
  cases h1 : inT d.amount 0 999999999999 with
  | false => rfl
  | true =>
  cases h2 : inT d.shop 0 4294967295 with
  | false => rfl
  | true =>
  cases h3 : inT d.trace 0 4294967295 with
  | false => rfl
  | true =>
  cases h4 : inT d.day 0 65535 with
  | false => rfl
  | true =>
  cases h5 : inT d.bits 0 4095 with
  | false => rfl
  | true => exact absurd ⟨inT_true.1 h1, inT_true.1 h2, inT_true.1 h3, inT_true.1 h4, inT_true.1 h5⟩ h
theorem dealE_all {d : XDeal} (h1 : 0 ≤ d.amount ∧ d.amount ≤ 999999999999) (h2 : 0 ≤ d.shop ∧ d.shop ≤ 4294967295) (h3 : 0 ≤ d.trace ∧ d.trace ≤ 4294967295) (h4 : 0 ≤ d.day ∧ d.day ≤ 65535) (h5 : 0 ≤ d.bits ∧ d.bits ≤ 4095) : dealE d = if d.nonce.size = 8 then 0 else 1 := by
  unfold dealE
  rw [inT_true.2 h1, inT_true.2 h2, inT_true.2 h3, inT_true.2 h4, inT_true.2 h5]
  rfl
set_option maxRecDepth 100000 in
set_option maxHeartbeats 4000000 in
theorem rdeal_any (d : XDeal) (w : World) :
    Calls Tryd.prog 70 #[valDeal d] w fun e w' => e = .returned (.int .i64 (dealE d)) ∧ Below w.heap.size w w' := by
  have n1 := fun w => tRamount_any d.amount w
  have n5 := fun w => rbits_any d.bits w
  have HO := hide (@dealE_out d); have HA := hide (@dealE_all d)
  generalize dealE d = R at *
  obtain ⟨sh, tr, am, ca, dy, bt, no⟩ := d
  unfold valDeal
  simp only at n1 n5 HO HA ⊢
  have HB := hide ((Below.refl w.heap.size w).alloc (Nat.le_refl _) (.cells #[.int .i64 sh, .int .i64 tr, .int .i64 am, .bool ca, .int .i64 dy, .int .i64 bt, .string no] 40))
  by_cases k1 : 0 ≤ am ∧ am ≤ 999999999999
  case neg =>
    obtain rfl : R = 3 := unhide HO (fun h => k1 h.1)
    rw [inT_false k1] at n1
    have N1 := hide n1
    clear n1 n5 k1 HO HA
    go_enter Tryd.func70, Tryd.ntmps70
    go_wp2_with fail
    refine (unhide N1 _).mono ?_
    rintro e w1 ⟨rfl, rfl⟩
    go_wp2
    go_ret
    exact ⟨rfl, unhide HB⟩
  rw [inT_true.2 k1] at n1
  have N1 := hide n1
  clear n1
  by_cases k2 : sh < 0
  · obtain rfl : R = 3 := unhide HO (fun h => by obtain ⟨_, h, _⟩ := h; omega)
    clear n5 HO HA
    go_enter Tryd.func70, Tryd.ntmps70
    go_wp2_with fail
    refine (unhide N1 _).mono ?_
    rintro e w1 ⟨rfl, rfl⟩
    go_wp2
    go_ret
    exact ⟨rfl, unhide HB⟩
  by_cases k3 : 4294967296 ≤ sh
  · obtain rfl : R = 3 := unhide HO (fun h => by obtain ⟨_, h, _⟩ := h; omega)
    clear n5 HO HA
    go_enter Tryd.func70, Tryd.ntmps70
    go_wp2_with fail
    refine (unhide N1 _).mono ?_
    rintro e w1 ⟨rfl, rfl⟩
    go_wp2
    go_ret
    exact ⟨rfl, unhide HB⟩
  by_cases k4 : tr < 0
  · obtain rfl : R = 3 := unhide HO (fun h => by obtain ⟨_, _, h, _⟩ := h; omega)
    clear n5 HO HA
    go_enter Tryd.func70, Tryd.ntmps70
    go_wp2_with fail
    refine (unhide N1 _).mono ?_
    rintro e w1 ⟨rfl, rfl⟩
    go_wp2
    go_ret
    exact ⟨rfl, unhide HB⟩
  by_cases k5 : 4294967296 ≤ tr
  · obtain rfl : R = 3 := unhide HO (fun h => by obtain ⟨_, _, h, _⟩ := h; omega)
    clear n5 HO HA
    go_enter Tryd.func70, Tryd.ntmps70
    go_wp2_with fail
    refine (unhide N1 _).mono ?_
    rintro e w1 ⟨rfl, rfl⟩
    go_wp2
    go_ret
    exact ⟨rfl, unhide HB⟩
  by_cases k6 : dy < 0
  · obtain rfl : R = 3 := unhide HO (fun h => by obtain ⟨_, _, _, h, _⟩ := h; omega)
    clear n5 HO HA
    go_enter Tryd.func70, Tryd.ntmps70
    go_wp2_with fail
    refine (unhide N1 _).mono ?_
    rintro e w1 ⟨rfl, rfl⟩
    go_wp2
    go_ret
    exact ⟨rfl, unhide HB⟩
  by_cases k7 : 65535 < dy
  · obtain rfl : R = 3 := unhide HO (fun h => by obtain ⟨_, _, _, h, _⟩ := h; omega)
    clear n5 HO HA
    go_enter Tryd.func70, Tryd.ntmps70
    go_wp2_with fail
    refine (unhide N1 _).mono ?_
    rintro e w1 ⟨rfl, rfl⟩
    go_wp2
    go_ret
    exact ⟨rfl, unhide HB⟩
  by_cases k8 : 0 ≤ bt ∧ bt ≤ 4095
  case neg =>
    obtain rfl : R = 3 := unhide HO (fun h => k8 h.2.2.2.2)
    rw [inT_false k8] at n5
    have N5 := hide n5
    clear n5 k8 HO HA
    go_enter Tryd.func70, Tryd.ntmps70
    go_wp2_with fail
    refine (unhide N1 _).mono ?_
    rintro e w1 ⟨rfl, rfl⟩
    go_wp2_with fail
    refine (unhide N5 _).mono ?_
    rintro e w1 ⟨rfl, rfl⟩
    go_wp2
    go_ret
    exact ⟨rfl, unhide HB⟩
  have hR : R = if no.size = 8 then 0 else 1 := unhide HA k1 ⟨by omega, by omega⟩ ⟨by omega, by omega⟩ ⟨by omega, by omega⟩ k8
  rw [inT_true.2 k8] at n5
  have N5 := hide n5
  clear n5 k8 k1 HO HA
  by_cases h8 : no.size = 8
  · rw [if_pos h8] at hR
    subst hR
    have t8 : ((no.size : Int) != 8) = false := by simp; omega
    clear h8
    go_enter Tryd.func70, Tryd.ntmps70
    go_wp2_with fail
    refine (unhide N1 _).mono ?_
    rintro e w1 ⟨rfl, rfl⟩
    go_wp2_with fail
    refine (unhide N5 _).mono ?_
    rintro e w1 ⟨rfl, rfl⟩
    go_wp2
    go_ret
    exact ⟨rfl, unhide HB⟩
  · rw [if_neg h8] at hR
    subst hR
    have t8 : ((no.size : Int) != 8) = true := by simp; omega
    clear h8
    go_enter Tryd.func70, Tryd.ntmps70
    go_wp2_with fail
    refine (unhide N1 _).mono ?_
    rintro e w1 ⟨rfl, rfl⟩
    go_wp2_with fail
    refine (unhide N5 _).mono ?_
    rintro e w1 ⟨rfl, rfl⟩
    go_wp2
    go_ret
    exact ⟨rfl, unhide HB⟩
end Go.Proofs.YtfpglpefofcdeaaDoor
