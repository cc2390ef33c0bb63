/- The library's stable sort of at most twenty applications. -/
import Derived.Test.YtlnoilfnpgogbaePIns
namespace Go.Proofs.Ytlnoilfnpgogbae
open Go.RowKit
set_option linter.unusedVariables false

theorem isort_none (v : Value) (n : Nat) (hn : (n : Int) ≤ 20) (w : World) :
    Calls Try.prog 51 #[v, .int .i64 n, .int .i64 n, .func (.func 29) #[] #[]] w fun e w' => e = .returned (.tuple #[]) ∧ w' = w := by
  go_enter Try.func51, Try.ntmps51
  go_wp2
  go_loopw [8] (fun i wr => i = .int .i64 ((n : Int) + 1) ∧ wr = w) (fun _ _ => 0)
  case atStart => exact ⟨rfl, rfl⟩
  case round =>
    obtain ⟨rfl, rfl⟩ := hrel
    have h1 : ¬ (n : Int) + 1 < (n : Int) := by omega
    go_wp2
    go_end0
    exact ⟨rfl, rfl⟩
set_option maxHeartbeats 1000000 in
theorem stable_less (l : List XApp) (v : Value) (w : World) (Q : World → Prop) (h20 : (l.length : Int) < 20)
    (hc : Calls Try.prog 51 #[v, .int .i64 0, .int .i64 l.length, .func (.func 29) #[] #[]] w fun e w' => e = .returned (.tuple #[]) ∧ Q w') :
    Calls Try.prog 42 #[v, .int .i64 l.length, .func (.func 29) #[] #[]] w fun e w' => e = .returned (.tuple #[]) ∧ Q w' := by
  have N1 := hide hc
  clear hc
  go_enter Try.func42, Try.ntmps42
  go_wp2
  go_loopw [7, 8] (fun a b wr => a = .int .i64 0 ∧ b = .int .i64 20 ∧ wr = w) (fun _ _ _ => 0)
  case atStart => exact ⟨rfl, rfl, rfl⟩
  case round =>
    obtain ⟨rfl, rfl, rfl⟩ := hrel
    have h1 : ¬ (20 : Int) ≤ (l.length : Int) := by omega
    go_wp2_with fail
    refine (unhide N1).mono ?_
    rintro e w1 ⟨rfl, hq⟩
    have HQ := hide hq
    clear hq
    go_wp2
    go_loopw [6] (fun b wr => b = .int .i64 20 ∧ wr = w1) (fun _ _ => 0)
    case atStart => exact ⟨rfl, rfl⟩
    case round =>
      obtain ⟨rfl, rfl⟩ := hrel
      have h2 : ¬ (20 : Int) < (l.length : Int) := by omega
      go_wp2
      go_end0
      exact ⟨rfl, unhide HQ⟩
set_option maxHeartbeats 1000000 in
theorem stable_full (l : List XApp) (v : Value) (w : World) (Q : World → Prop) (h20 : (l.length : Int) = 20)
    (hc : Calls Try.prog 51 #[v, .int .i64 0, .int .i64 20, .func (.func 29) #[] #[]] w fun e w' => e = .returned (.tuple #[]) ∧ Q w') :
    Calls Try.prog 42 #[v, .int .i64 20, .func (.func 29) #[] #[]] w fun e w' => e = .returned (.tuple #[]) ∧ Q w' := by
  have N1 := hide hc
  have n2 := fun w => isort_none v 20 (by decide) w
  have N2 : Hid (∀ w, Calls Try.prog 51 #[v, .int .i64 20, .int .i64 20, .func (.func 29) #[] #[]] w fun e w' => e = .returned (.tuple #[]) ∧ w' = w) := hide n2
  clear hc n2 h20
  go_enter Try.func42, Try.ntmps42
  go_wp2
  go_loopw [7, 8] (fun a b wr => (a = .int .i64 0 ∧ b = .int .i64 20 ∧ wr = w) ∨ (a = .int .i64 20 ∧ b = .int .i64 40 ∧ Q wr)) (fun _ b _ => 60 - (intOf b).toNat)
  case atStart => exact .inl ⟨rfl, rfl, rfl⟩
  case round =>
    rcases hrel with ⟨rfl, rfl, rfl⟩ | ⟨rfl, rfl, hq⟩
    · go_wp2_with fail
      refine (unhide N1).mono ?_
      rintro e w1 ⟨rfl, hq⟩
      have HQ := hide hq
      clear hq
      go_wp2
      go_roundw
      case rel => exact .inr ⟨rfl, rfl, unhide HQ⟩
      case measure => simp [intOf]
    · have HQ := hide hq
      clear hq
      go_wp2_with fail
      refine (unhide N2 _).mono ?_
      rintro e w1 ⟨rfl, rfl⟩
      go_wp2
      go_loopw [6] (fun b wr => b = .int .i64 20 ∧ wr = w1) (fun _ _ => 0)
      case atStart => exact ⟨rfl, rfl⟩
      case round =>
        obtain ⟨rfl, rfl⟩ := hrel
        go_wp2
        go_end0
        exact ⟨rfl, unhide HQ⟩
theorem stable_of (l : List XApp) (v : Value) (w : World) (Q : World → Prop) (h20 : l.length ≤ 20)
    (hc : Calls Try.prog 51 #[v, .int .i64 0, .int .i64 l.length, .func (.func 29) #[] #[]] w fun e w' => e = .returned (.tuple #[]) ∧ Q w') :
    Calls Try.prog 42 #[v, .int .i64 l.length, .func (.func 29) #[] #[]] w fun e w' => e = .returned (.tuple #[]) ∧ Q w' := by
  rcases Nat.lt_or_ge l.length 20 with h | h
  · exact stable_less l v w Q (by omega) hc
  · have e : (l.length : Int) = 20 := by omega
    rw [e] at hc ⊢
    exact stable_full l v w Q e hc
theorem sort_some (l : List XApp) (g cap : Nat) (w : World) (hr : ARow w g l) (h1 : 1 ≤ l.length) (h20 : l.length ≤ 20) :
    Calls Try.prog 28 #[.slice (some ⟨g, 0, none⟩) l.length cap, .func (.func 29) #[] #[]] w fun e w' => e = .returned (.tuple #[]) ∧ (∃ S, ARow w' g S ∧ S.length = l.length ∧ Good S l) ∧ Below g w w' := by
  have N1 := hide (stable_of l (.slice (some ⟨g, 0, none⟩) l.length cap) w _ h20 (isort_any l g cap w hr h1 h20))
  clear hr
  go_enter Try.func28, Try.ntmps28
  go_wp2_with fail
  refine (unhide N1).mono ?_
  rintro e w1 ⟨rfl, hq⟩
  have HQ := hide hq
  clear hq
  go_wp2
  go_end0
  exact ⟨rfl, unhide HQ⟩
theorem sort_none (ao : Option Addr) (cap : Nat) (w : World) :
    Calls Try.prog 28 #[.slice ao 0 cap, .func (.func 29) #[] #[]] w fun e w' => e = .returned (.tuple #[]) ∧ w' = w := by
  have n1 := stable_of [] (.slice ao 0 cap) w (fun w' => w' = w) (by decide) (isort_none _ 0 (by decide) w)
  have N1 : Hid (Calls Try.prog 42 #[.slice ao 0 cap, .int .i64 0, .func (.func 29) #[] #[]] w fun e w' => e = .returned (.tuple #[]) ∧ w' = w) := hide n1
  clear n1
  go_enter Try.func28, Try.ntmps28
  go_wp2_with fail
  refine (unhide N1).mono ?_
  rintro e w1 ⟨rfl, hq⟩
  have HQ := hide hq
  clear hq
  go_wp2
  go_end0
  exact ⟨rfl, unhide HQ⟩
end Go.Proofs.Ytlnoilfnpgogbae
