/- Close and Unclose of the program and of the reference. -/
import Derived.Test.YtdlglcpghkoejaaMillS
namespace Go.Proofs.Ytdlglcpghkoejaa
open Go.RowKit
set_option linter.unusedVariables false

def closeE (k s : ByteArray) : Int := if k.size ≠ 16 then 1 else if 20000 < s.size then 2 else 0
def closeS (k s : ByteArray) : ByteArray := if k.size ≠ 16 then ⟨#[]⟩ else if 20000 < s.size then ⟨#[]⟩ else s ++ sealS k s
/-- What stands ahead of the last eight bytes. -/
def bareS (s : ByteArray) : ByteArray := s.extract 0 (s.size - 8)
def tailS (s : ByteArray) : ByteArray := s.extract (s.size - 8) s.size
def unclE (k s : ByteArray) : Int :=
  if k.size ≠ 16 ∨ s.size < 8 then 1 else if 20008 < s.size then 2 else if tailS s = sealS k (bareS s) then 0 else 9
def unclS (k s : ByteArray) : ByteArray :=
  if k.size ≠ 16 ∨ s.size < 8 then ⟨#[]⟩ else if 20008 < s.size then ⟨#[]⟩ else if tailS s = sealS k (bareS s) then bareS s else ⟨#[]⟩
theorem sealS_size (k t : ByteArray) : (sealS k t).size = 8 := by
  rw [sealS, ByteArray.size_extract, turnS_size]; rfl
theorem bareS_size (s : ByteArray) : (bareS s).size = s.size - 8 := by rw [bareS, ByteArray.size_extract]; omega
theorem bare_tail (s : ByteArray) : bareS s ++ tailS s = s := by
  rw [bareS, tailS, ByteArray.extract_append_extract]
  rw [Nat.min_eq_left (by omega), Nat.max_eq_right (by omega), ByteArray.extract_zero_size]
theorem bare_app (s t : ByteArray) (h : t.size = 8) : bareS (s ++ t) = s := by
  rw [bareS, ByteArray.size_append, h, Nat.add_sub_cancel]
  exact ByteArray.extract_append_eq_left rfl
theorem tail_app (s t : ByteArray) (h : t.size = 8) : tailS (s ++ t) = t := by
  rw [tailS, ByteArray.size_append, h, Nat.add_sub_cancel]
  exact ByteArray.extract_append_eq_right rfl (by rw [h])
theorem tail_iff (s t : ByteArray) (h : t.size = 8) : bareS s ++ t = s ↔ tailS s = t := by
  constructor
  · intro e; rw [← e, tail_app _ _ h]
  · rintro rfl; exact bare_tail s
theorem uncl_clo (k s : ByteArray) (hk : k.size = 16) (hs : s.size ≤ 20000) : unclE k (s ++ sealS k s) = 0 ∧ unclS k (s ++ sealS k s) = s := by
  have h := sealS_size k s
  have hz : (s ++ sealS k s).size = s.size + 8 := by rw [ByteArray.size_append, h]
  unfold unclE unclS
  have h1 : ¬ (k.size ≠ 16 ∨ s.size + 8 < 8) := by omega
  have h2 : ¬ 20008 < s.size + 8 := by omega
  rw [bare_app _ _ h, tail_app _ _ h, hz, if_neg h1, if_neg h1, if_neg h2, if_neg h2, if_pos rfl, if_pos rfl]
  exact ⟨rfl, rfl⟩

theorem Below.refl' (w : World) : Below w.heap.size w w := Below.refl _ _
set_option maxHeartbeats 2000000 in
set_option maxRecDepth 100000 in
theorem close_any (k s : ByteArray) (w : World) :
    Calls Try.prog 5 #[.string k, .string s] w fun e w' => e = .returned (.tuple #[.string (closeS k s), .int .i64 (closeE k s)]) ∧ Below w.heap.size w w' := by
  unfold closeS closeE
  by_cases hk : k.size = 16
  · have hk' : ¬ k.size ≠ 16 := by omega
    rw [if_neg hk', if_neg hk']
    have t0 := len_eq k hk
    by_cases hs : 20000 < s.size
    · rw [if_pos hs, if_pos hs]
      have t1 : (20000 : Int) < (s.size : Int) := by omega
      clear hs hk hk'
      go_enter Try.func5, Try.ntmps5
      go_wp2
      go_ret2
      exact ⟨rfl, Below.refl' w⟩
    · rw [if_neg hs, if_neg hs]
      have t1 : (s.size : Int) ≤ 20000 := by omega
      have N1 := hide (fun w => seal_yes k s hk (by omega) w)
      have hx : ((sealS k s).size : Int) = 8 := by rw [sealS_size]; rfl
      generalize sealS k s = x at *
      clear hs hk hk'
      go_enter Try.func5, Try.ntmps5
      go_wp2_with fail
      refine (unhide N1 _).mono ?_
      rintro e x1 ⟨rfl, b1⟩
      go_wp2
      go_ret2
      exact ⟨rfl, b1⟩
  · rw [if_pos hk, if_pos hk]
    have t0 := len_ne k hk
    clear hk
    go_enter Try.func5, Try.ntmps5
    go_wp2
    go_ret2
    exact ⟨rfl, Below.refl' w⟩
set_option maxHeartbeats 2000000 in
set_option maxRecDepth 100000 in
theorem rclose_any (k s : ByteArray) (w : World) :
    Calls Try.prog 6 #[.string k, .string s] w fun e w' => e = .returned (.tuple #[.string (closeS k s), .int .i64 (closeE k s)]) ∧ Below w.heap.size w w' := by
  unfold closeS closeE
  by_cases hk : k.size = 16
  · have hk' : ¬ k.size ≠ 16 := by omega
    rw [if_neg hk', if_neg hk']
    have t0 := len_eq k hk
    by_cases hs : 20000 < s.size
    · rw [if_pos hs, if_pos hs]
      have t1 : (20000 : Int) < (s.size : Int) := by omega
      clear hs hk hk'
      go_enter Try.func6, Try.ntmps6
      go_wp2
      go_ret2
      exact ⟨rfl, Below.refl' w⟩
    · rw [if_neg hs, if_neg hs]
      have t1 : (s.size : Int) ≤ 20000 := by omega
      have N1 := hide (fun w => rseal_any k s hk (by omega) w)
      have hx : ((sealS k s).size : Int) = 8 := by rw [sealS_size]; rfl
      generalize sealS k s = x at *
      clear hs hk hk'
      go_enter Try.func6, Try.ntmps6
      go_wp2_with fail
      refine (unhide N1 _).mono ?_
      rintro e x1 ⟨rfl, b1⟩
      go_wp2
      go_ret2
      exact ⟨rfl, b1⟩
  · rw [if_pos hk, if_pos hk]
    have t0 := len_ne k hk
    clear hk
    go_enter Try.func6, Try.ntmps6
    go_wp2
    go_ret2
    exact ⟨rfl, Below.refl' w⟩
set_option maxHeartbeats 2000000 in
set_option maxRecDepth 100000 in
theorem unclose_any (k s : ByteArray) (w : World) :
    Calls Try.prog 7 #[.string k, .string s] w fun e w' => e = .returned (.tuple #[.string (unclS k s), .int .i64 (unclE k s)]) ∧ Below w.heap.size w w' := by
  unfold unclS unclE
  by_cases hk : k.size = 16
  · have t0 := len_eq k hk
    by_cases h8 : s.size < 8
    · rw [if_pos (.inr h8), if_pos (.inr h8)]
      have t1 : (s.size : Int) < 8 := by omega
      clear h8 hk
      go_enter Try.func7, Try.ntmps7
      go_wp2
      go_ret2
      exact ⟨rfl, Below.refl' w⟩
    · have hk' : ¬ (k.size ≠ 16 ∨ s.size < 8) := by omega
      rw [if_neg hk', if_neg hk']
      have t8 : (8 : Int) ≤ (s.size : Int) := by omega
      by_cases hs : 20008 < s.size
      · rw [if_pos hs, if_pos hs]
        have t1 : (20008 : Int) < (s.size : Int) := by omega
        clear hs hk h8 hk'
        go_enter Try.func7, Try.ntmps7
        go_wp2
        go_ret2
        exact ⟨rfl, Below.refl' w⟩
      · rw [if_neg hs, if_neg hs]
        have t1 : (s.size : Int) ≤ 20008 := by omega
        have N1 := hide (fun w => sealed_yes k (bareS s) (tailS s) hk (by rw [bareS_size]; omega) w)
        have hz : (((s.size : Int) - 8).toNat) = s.size - 8 := by omega
        by_cases he : tailS s = sealS k (bareS s)
        · rw [if_pos he, if_pos he]
          rw [decide_eq_true he] at N1
          clear he hs hk h8 hk'
          go_enter Try.func7, Try.ntmps7
          go_wp2_with fail
          go_quiet (fail)
          go_wp2_with fail
          refine (unhide N1 _).mono ?_
          rintro e x1 ⟨rfl, b1⟩
          go_wp2
          go_ret2
          exact ⟨rfl, ⟨b1.os, b1.tape, b1.output, b1.size, b1.block⟩⟩
        · rw [if_neg he, if_neg he]
          rw [decide_eq_false he] at N1
          clear he hs hk h8 hk'
          go_enter Try.func7, Try.ntmps7
          go_wp2_with fail
          go_quiet (fail)
          go_wp2_with fail
          refine (unhide N1 _).mono ?_
          rintro e x1 ⟨rfl, b1⟩
          go_wp2
          go_ret2
          exact ⟨rfl, ⟨b1.os, b1.tape, b1.output, b1.size, b1.block⟩⟩
  · rw [if_pos (.inl hk), if_pos (.inl hk)]
    have t0 := len_ne k hk
    clear hk
    go_enter Try.func7, Try.ntmps7
    go_wp2
    go_ret2
    exact ⟨rfl, Below.refl' w⟩
theorem txt_ne {x y : ByteArray} (h : ¬ x = y) : (x.toList == y.toList) = false := seal_ne h
set_option maxHeartbeats 2000000 in
set_option maxRecDepth 100000 in
theorem runclose_any (k s : ByteArray) (w : World) :
    Calls Try.prog 8 #[.string k, .string s] w fun e w' => e = .returned (.tuple #[.string (unclS k s), .int .i64 (unclE k s)]) ∧ Below w.heap.size w w' := by
  unfold unclS unclE
  by_cases hk : k.size = 16
  · have t0 := len_eq k hk
    by_cases h8 : s.size < 8
    · rw [if_pos (.inr h8), if_pos (.inr h8)]
      have t1 : (s.size : Int) < 8 := by omega
      clear h8 hk
      go_enter Try.func8, Try.ntmps8
      go_wp2
      go_ret2
      exact ⟨rfl, Below.refl' w⟩
    · have hk' : ¬ (k.size ≠ 16 ∨ s.size < 8) := by omega
      rw [if_neg hk', if_neg hk']
      have t8 : (8 : Int) ≤ (s.size : Int) := by omega
      by_cases hs : 20008 < s.size
      · rw [if_pos hs, if_pos hs]
        have t1 : (20008 : Int) < (s.size : Int) := by omega
        clear hs hk h8 hk'
        go_enter Try.func8, Try.ntmps8
        go_wp2
        go_ret2
        exact ⟨rfl, Below.refl' w⟩
      · rw [if_neg hs, if_neg hs]
        have t1 : (s.size : Int) ≤ 20008 := by omega
        have N1 := hide (fun w => rseal_any k (bareS s) hk (by rw [bareS_size]; omega) w)
        have hz : (((s.size : Int) - 8).toNat) = s.size - 8 := by omega
        have hi := tail_iff s _ (sealS_size k (bareS s))
        by_cases he : tailS s = sealS k (bareS s)
        · rw [if_pos he, if_pos he]
          have h2 : ((bareS s ++ sealS k (bareS s)).toList == s.toList) = true := seal_eq (hi.2 he)
          have hx : ((sealS k (bareS s)).size : Int) = 8 := by rw [sealS_size]; rfl
          have hy : ((bareS s).size : Int) ≤ 20000 := by rw [bareS_size]; omega
          generalize sealS k (bareS s) = x at *
          unfold bareS at h2 hy
          clear he hs hk h8 hi hk'
          go_enter Try.func8, Try.ntmps8
          go_wp2_with fail
          refine (unhide N1 _).mono ?_
          rintro e x1 ⟨rfl, b1⟩
          go_wp2
          go_ret2
          exact ⟨rfl, b1⟩
        · rw [if_neg he, if_neg he]
          have h2 : ((bareS s ++ sealS k (bareS s)).toList == s.toList) = false := seal_ne (fun e => he (hi.1 e))
          have hx : ((sealS k (bareS s)).size : Int) = 8 := by rw [sealS_size]; rfl
          have hy : ((bareS s).size : Int) ≤ 20000 := by rw [bareS_size]; omega
          generalize sealS k (bareS s) = x at *
          unfold bareS at h2 hy
          clear he hs hk h8 hi hk'
          go_enter Try.func8, Try.ntmps8
          go_wp2_with fail
          refine (unhide N1 _).mono ?_
          rintro e x1 ⟨rfl, b1⟩
          go_wp2
          go_ret2
          exact ⟨rfl, b1⟩
  · rw [if_pos (.inl hk), if_pos (.inl hk)]
    have t0 := len_ne k hk
    clear hk
    go_enter Try.func8, Try.ntmps8
    go_wp2
    go_ret2
    exact ⟨rfl, Below.refl' w⟩
end Go.Proofs.Ytdlglcpghkoejaa
