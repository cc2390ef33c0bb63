/- Deals of the program: DealText. -/
import Derived.Test.YtajkbkljonejnaaGreatDoorM38
import Derived.Test.YtajkbkljonejnaaGreatDoorM37
import Derived.Deep.AppendLies
import Derived.Deep.RegionHeld3
import Derived.Deep.RegionWith
import Derived.Deep.RegionLaw
import Derived.Test.YtajkbkljonejnaaGreatDoorM00
namespace Go.Proofs.YtajkbkljonejnaaGreatDoor
open Go.RowKit
set_option linter.unusedVariables false
end Go.Proofs.YtajkbkljonejnaaGreatDoor
namespace Go.Proofs.YtajkbkljonejnaaGreatDoor
open Go.RowKit
set_option linter.unusedVariables false
theorem set3 (L : List Value) (a b c x y z : Value) (m : Nat) (h : L.length = m) : (((L ++ [a, b, c]).set m x).set (m + 1) y).set (m + 2) z = L ++ [x, y, z] := by
  subst h
  induction L with
  | nil => rfl
  | cons u r ih => exact congrArg (List.cons u) ih
end Go.Proofs.YtajkbkljonejnaaGreatDoor
namespace Go.Proofs.YtajkbkljonejnaaGreatDoor
open Go.RowKit
set_option linter.unusedVariables false
end Go.Proofs.YtajkbkljonejnaaGreatDoor
namespace Go.Proofs.YtajkbkljonejnaaGreatDoor
open Go.RowKit
set_option linter.unusedVariables false
theorem tRamount_any (n : Int) (w : World) :
    Calls Tryz.prog 21 #[.int .i64 n] w fun e w' => e = .returned (.bool (inT n 0 999999999999)) ∧ w' = w := by
  by_cases h1 : 0 ≤ n
  · by_cases h2 : n ≤ 999999999999
    · have HD : Hid (inT n 0 999999999999 = true) := hide (decide_eq_true ⟨h1, h2⟩)
      generalize inT n 0 999999999999 = r at *
      go_enter Tryz.func21, Tryz.ntmps21
      go_wp2
      go_ret
      exact ⟨ret_boolQ (unhide HD).symm, rfl⟩
    · have HD : Hid (inT n 0 999999999999 = false) := hide (decide_eq_false (fun h => h2 h.2))
      generalize inT n 0 999999999999 = r at *
      go_enter Tryz.func21, Tryz.ntmps21
      go_wp2
      go_ret
      exact ⟨ret_boolQ (unhide HD).symm, rfl⟩
  · have HD : Hid (inT n 0 999999999999 = false) := hide (decide_eq_false (fun h => h1 h.1))
    generalize inT n 0 999999999999 = r at *
    go_enter Tryz.func21, Tryz.ntmps21
    go_wp2
    go_ret
    exact ⟨ret_boolQ (unhide HD).symm, rfl⟩
end Go.Proofs.YtajkbkljonejnaaGreatDoor
