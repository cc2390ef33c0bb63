/- Turn and Back of the program. -/
import Derived.Test.YtdlglcpghkoejaaMillP4
namespace Go.Proofs.Ytdlglcpghkoejaa
open Go.RowKit
set_option linter.unusedVariables false

theorem len_ne (s : ByteArray) (h : s.size ≠ 16) : ((s.size : Int) != 16) = true := by rw [bne_iff_ne]; omega
theorem len_eq (s : ByteArray) (h : s.size = 16) : ((s.size : Int) != 16) = false := by rw [bne_eq_false_iff_eq]; omega

set_option maxHeartbeats 2000000 in
set_option maxRecDepth 100000 in
theorem stir_forth (k s : ByteArray) (hk : k.size = 16) (hs : s.size = 16) (w : World) :
    Calls Try.prog 51 #[.string k, .string s, .func (.func 52) #[] #[]] w fun e w' => e = .returned (.tuple #[.string (turnS k s), .int .i64 0]) ∧ Below w.heap.size w w' := by
  have r1 := fun w => read_any k (by omega) w
  have r2 := fun w => read_any s (by omega) w
  have r3 := fun w => forth_any (blkOf k.data.toList) (blkOf s.data.toList) (blkOf_ok _) (blkOf_ok _) w
  have r4 := fun w => text_any (fwd (blkOf k.data.toList) 12 (blkOf s.data.toList)) (fwd_ok _ _ _ (blkOf_ok _)) w
  have e4 : blkS (fwd (blkOf k.data.toList) 12 (blkOf s.data.toList)) = turnS k s := rfl
  rw [e4] at r4
  have t1 := len_eq k hk
  have t2 := len_eq s hs
  generalize turnS k s = t at *
  generalize fwd (blkOf k.data.toList) 12 (blkOf s.data.toList) = v at *
  generalize blkOf k.data.toList = a at *
  generalize blkOf s.data.toList = b at *
  generalize blkV a = av at *
  generalize blkV b = bv at *
  generalize blkV v = vv at *
  have R1 := hide r1; have R2 := hide r2; have R3 := hide r3; have R4 := hide r4
  clear r1 r2 r3 r4 e4 hk hs
  go_enter Try.func51, Try.ntmps51
  go_wp2_with fail
  refine (unhide R1 _).mono ?_
  rintro e x1 ⟨rfl, b1⟩
  go_wp2_with fail
  refine (unhide R2 _).mono ?_
  rintro e x2 ⟨rfl, b2⟩
  go_wp2_with fail
  refine (unhide R3 _).mono ?_
  rintro e x3 ⟨rfl, b3⟩
  go_wp2_with fail
  refine (unhide R4 _).mono ?_
  rintro e x4 ⟨rfl, b4⟩
  go_wp2
  go_ret2
  have h2 := b1.trans (b2.mono b1.size)
  have h3 := h2.trans (b3.mono h2.size)
  exact ⟨rfl, h3.trans (b4.mono h3.size)⟩
theorem stir_forth_no (k s : ByteArray) (h : k.size ≠ 16 ∨ s.size ≠ 16) (v : Value) (w : World) :
    Calls Try.prog 51 #[.string k, .string s, v] w fun e w' => e = .returned (.tuple #[.string ⟨#[]⟩, .int .i64 1]) ∧ w' = w := by
  by_cases hk : k.size = 16
  · have t1 := len_eq k hk
    have t2 := len_ne s (by omega)
    clear h hk
    go_enter Try.func51, Try.ntmps51
    go_wp2
    go_ret2
    exact ⟨rfl, rfl⟩
  · have t1 := len_ne k hk
    clear h hk
    go_enter Try.func51, Try.ntmps51
    go_wp2
    go_ret2
    exact ⟨rfl, rfl⟩
theorem turn_yes (k s : ByteArray) (hk : k.size = 16) (hs : s.size = 16) (w : World) :
    Calls Try.prog 36 #[.string k, .string s] w fun e w' => e = .returned (.tuple #[.string (turnS k s), .int .i64 0]) ∧ Below w.heap.size w w' := by
  go_enter Try.func36, Try.ntmps36
  go_wp2_with fail
  refine (stir_forth k s hk hs _).mono ?_
  rintro e x1 ⟨rfl, b1⟩
  go_wp2
  go_ret2
  exact ⟨rfl, b1⟩
theorem turn_no (k s : ByteArray) (h : k.size ≠ 16 ∨ s.size ≠ 16) (w : World) :
    Calls Try.prog 36 #[.string k, .string s] w fun e w' => e = .returned (.tuple #[.string ⟨#[]⟩, .int .i64 1]) ∧ w' = w := by
  go_enter Try.func36, Try.ntmps36
  go_wp2_with fail
  refine (stir_forth_no k s h _ _).mono ?_
  rintro e x1 ⟨rfl, rfl⟩
  go_wp2
  go_ret2
  exact ⟨rfl, rfl⟩
theorem stir_back_no (k s : ByteArray) (h : k.size ≠ 16 ∨ s.size ≠ 16) (v : Value) (w : World) :
    Calls Try.prog 51 #[.string k, .string s, v] w fun e w' => e = .returned (.tuple #[.string ⟨#[]⟩, .int .i64 1]) ∧ w' = w := by
  by_cases hk : k.size = 16
  · have t1 := len_eq k hk
    have t2 := len_ne s (by omega)
    clear h hk
    go_enter Try.func51, Try.ntmps51
    go_wp2
    go_ret2
    exact ⟨rfl, rfl⟩
  · have t1 := len_ne k hk
    clear h hk
    go_enter Try.func51, Try.ntmps51
    go_wp2
    go_ret2
    exact ⟨rfl, rfl⟩
/-- is it a key and a block? -/
def both16 (k s : ByteArray) : Bool := decide (k.size = 16 ∧ s.size = 16)
def turnE (k s : ByteArray) : Int := if k.size = 16 ∧ s.size = 16 then 0 else 1
def turnT (k s : ByteArray) : ByteArray := if k.size = 16 ∧ s.size = 16 then turnS k s else ⟨#[]⟩
def backT (k s : ByteArray) : ByteArray := if k.size = 16 ∧ s.size = 16 then backS k s else ⟨#[]⟩
theorem turn_all (k s : ByteArray) (w : World) :
    Calls Try.prog 36 #[.string k, .string s] w fun e w' => e = .returned (.tuple #[.string (turnT k s), .int .i64 (turnE k s)]) ∧ Below w.heap.size w w' := by
  unfold turnT turnE
  by_cases h : k.size = 16 ∧ s.size = 16
  · rw [if_pos h, if_pos h]
    exact turn_yes k s h.1 h.2 w
  · rw [if_neg h, if_neg h]
    exact (turn_no k s (by omega) w).mono fun e w' ⟨he, hw⟩ => ⟨he, by rw [hw]; exact Below.refl _ _⟩
end Go.Proofs.Ytdlglcpghkoejaa
