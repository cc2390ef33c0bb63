/- Order of the reference: what is wrong with one. -/
import Derived.Test.YtajkbkljonejnaaGreatDoorM03
namespace Go.Proofs.YtajkbkljonejnaaGreatDoor
open Go.RowKit
set_option linter.unusedVariables false
def orderE (x : XOrder) : Int := bif okindB x then 4 else bif orangeB x then 3 else bif oformB x then 1 else 0
def mosts : List Int := [0, 999999999999, 999999999999, 255, 0, 0, 0, 255, 0]
theorem mosts_at (wh : Int) (h : 1 ≤ wh ∧ wh ≤ 8) : mosts[wh.toNat]? = some (mostN wh) := by
  have hc : wh = 1 ∨ wh = 2 ∨ wh = 3 ∨ wh = 4 ∨ wh = 5 ∨ wh = 6 ∨ wh = 7 ∨ wh = 8 := by omega
  rcases hc with rfl | rfl | rfl | rfl | rfl | rfl | rfl | rfl <;> rfl
theorem textB_mid {wh : Int} {tx : ByteArray} (h7 : wh ≠ 7) (h8 : wh ≠ 8) : textB wh tx = tx.toList.isEmpty := by rw [textB, if_neg h7, if_neg h8, emptyO]
theorem mcell (w0 w : World) (e : TypeId) (wh : Nat) (m : Int) (h : mosts[wh]? = some m) :
    (w.alloc (.cells (mosts.map (Value.int .i64)).toArray e)).cell? ⟨w.heap.size, wh, none⟩ = some (.int .i64 m) := by
  rw [cell_of_row _ _ wh _ e _ (heap_alloc_new w _)]
  simp [h]
set_option maxHeartbeats 2000000 in
theorem rorder_any (x : XOrder) (hx : x.text.size ≤ maxLen) (w : World) :
    Calls Tryz.prog 90 #[valOrder x] w fun e w' => e = .returned (.int .i64 (orderE x)) ∧ Below w.heap.size w w' := by
  obtain ⟨wh, n, tx⟩ := x
  have n1 := fun w => rdigits_anyO tx 4 12 hx w
  have hbx := fun o : Obj => (Below.refl w.heap.size w).alloc (Nat.le_refl _) o
  have hby := fun o o' : Obj => (hbx o).alloc (by simp) o'
  have HB := hide hbx; have HB2 := hide hby
  clear hbx hby
  unfold valOrder
  simp only
  by_cases hk : 1 ≤ wh ∧ wh ≤ 8
  case neg =>
    have HE : Hid (orderE ⟨wh, n, tx⟩ = 4) := hide (by rw [orderE, okindB, inB_falseO.2 hk]; rfl)
    by_cases h1 : wh < 1
    · go_enter Tryz.func90, Tryz.ntmps90
      go_wp2
      go_ret
      exact ⟨ret_int (unhide HE).symm, unhide HB _⟩
    · have h2 : 8 < wh := by omega
      go_enter Tryz.func90, Tryz.ntmps90
      go_wp2
      go_ret
      exact ⟨ret_int (unhide HE).symm, unhide HB _⟩
  have hm := mosts_at wh hk
  obtain ⟨k, rfl⟩ := Int.eq_ofNat_of_zero_le (show 0 ≤ wh by omega)
  rw [Int.toNat_natCast] at hm
  obtain ⟨hk1, hk8⟩ := hk
  have HE : Hid (orderE ⟨k, n, tx⟩ = bif orangeB ⟨k, n, tx⟩ then 3 else bif oformB ⟨k, n, tx⟩ then 1 else 0) := hide (by rw [orderE, okindB, inB_trueO.2 ⟨hk1, hk8⟩]; rfl)
  have HOR : Hid (orangeB ⟨k, n, tx⟩ = !inBO n 0 (mostN k)) := hide rfl
  have HOF : Hid (oformB ⟨k, n, tx⟩ = !textB k tx) := hide rfl
  generalize orderE ⟨k, n, tx⟩ = oe at *
  generalize orangeB ⟨k, n, tx⟩ = orr at *
  generalize oformB ⟨k, n, tx⟩ = off at *
  have HMM : Hid (mostN k = mostN k) := hide rfl
  generalize hMM : mostN k = m at HMM hm HOR
  have HM7 : Hid (mostN k = m) := hide hMM
  clear hMM HMM
  have hcm : ((w.alloc (.cells #[.int .i64 k, .int .i64 n, .string tx] 94)).alloc (.cells #[.int .i64 0, .int .i64 999999999999, .int .i64 999999999999, .int .i64 255, .int .i64 0, .int .i64 0, .int .i64 0, .int .i64 255, .int .i64 0] 3)).cell? ⟨w.heap.size + 1, k, none⟩ = some (.int .i64 m) := by
    have := mcell w (w.alloc (.cells #[.int .i64 k, .int .i64 n, .string tx] 94)) 3 k m hm
    rw [show (w.alloc (.cells #[.int .i64 k, .int .i64 n, .string tx] 94)).heap.size = w.heap.size + 1 by simp] at this
    exact this
  clear hm
  by_cases hr : 0 ≤ n ∧ n ≤ m
  case neg =>
    have HE3 : Hid (oe = 3) := hide (by rw [unhide HE, unhide HOR, inB_falseO.2 hr]; rfl)
    by_cases h1 : n < 0
    · go_enter Tryz.func90, Tryz.ntmps90
      go_wp2
      go_ret
      exact ⟨ret_int (unhide HE3).symm, unhide HB2 _ _⟩
    · have h2 : m < n := by omega
      go_enter Tryz.func90, Tryz.ntmps90
      go_wp2
      go_ret
      exact ⟨ret_int (unhide HE3).symm, unhide HB2 _ _⟩
  have HE3 : Hid (oe = bif !textB k tx then 1 else 0) := hide (by rw [unhide HE, unhide HOR, inB_trueO.2 hr, unhide HOF]; rfl)
  obtain ⟨hr1, hr2⟩ := hr
  clear HE HOR HOF
  by_cases h7 : (k : Int) = 7
  · obtain rfl : k = 7 := by omega
    obtain rfl : 255 = m := unhide HM7
    have HT : Hid (textB (7 : Nat) tx = decide (tx.size = 16)) := hide rfl
    clear hcm h7
    by_cases h16 : (tx.size : Int) = 16
    · have HE4 : Hid (oe = 0) := hide (by rw [unhide HE3, unhide HT, decide_eq_true (by omega)]; rfl)
      go_enter Tryz.func90, Tryz.ntmps90
      go_wp2
      go_ret
      exact ⟨ret_int (unhide HE4).symm, unhide HB2 _ _⟩
    · have HE4 : Hid (oe = 1) := hide (by rw [unhide HE3, unhide HT, decide_eq_false (by omega)]; rfl)
      go_enter Tryz.func90, Tryz.ntmps90
      go_wp2
      go_ret
      exact ⟨ret_int (unhide HE4).symm, unhide HB2 _ _⟩
  by_cases h8 : (k : Int) = 8
  · obtain rfl : k = 8 := by omega
    obtain rfl : 0 = m := unhide HM7
    have HT : Hid (textB (8 : Nat) tx = digitsBO tx 4 12) := hide rfl
    clear hcm h8 h7
    rw [unhide HT] at HE3
    generalize digitsBO tx 4 12 = q at *
    have N1 := hide n1
    clear n1
    cases q with
    | true =>
      go_enter Tryz.func90, Tryz.ntmps90
      go_wp2_with fail
      refine (unhide N1 _).mono ?_
      rintro e w1 ⟨rfl, hw1⟩
      subst hw1
      go_wp2
      go_ret
      exact ⟨ret_int (unhide HE3).symm, unhide HB2 _ _⟩
    | false =>
      go_enter Tryz.func90, Tryz.ntmps90
      go_wp2_with fail
      refine (unhide N1 _).mono ?_
      rintro e w1 ⟨rfl, hw1⟩
      subst hw1
      go_wp2
      go_ret
      exact ⟨ret_int (unhide HE3).symm, unhide HB2 _ _⟩
  have hlt7 : (k : Int) < 7 := by omega
  have HT := hide (textB_mid (tx := tx) h7 h8)
  rw [unhide HT] at HE3
  clear HT n1
  generalize hq : tx.toList.isEmpty = q at *
  cases q with
  | true =>
    go_enter Tryz.func90, Tryz.ntmps90
    go_wp2
    go_ret
    exact ⟨ret_int (unhide HE3).symm, unhide HB2 _ _⟩
  | false =>
    go_enter Tryz.func90, Tryz.ntmps90
    go_wp2
    go_ret
    exact ⟨ret_int (unhide HE3).symm, unhide HB2 _ _⟩
end Go.Proofs.YtajkbkljonejnaaGreatDoor
