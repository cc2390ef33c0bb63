/- same of two rows that hold one list of applications. -/
import Derived.Test.YtlnoilfnpgogbaeRCanW
namespace Go.Proofs.Ytlnoilfnpgogbae
open Go.RowKit
set_option linter.unusedVariables false

set_option maxRecDepth 100000 in
set_option maxHeartbeats 2000000 in
theorem sameA_rows (L : List XApp) (g h c d : Nat) (w : World) (hg : ARow w g L) (hh : ARow w h L) (hl : L.length ≤ 1000) :
    Calls Try.prog 12 #[.slice (some ⟨g, 0, none⟩) L.length c, .slice (some ⟨h, 0, none⟩) L.length d] w fun e w' => e = .returned (.bool true) ∧ Below w.heap.size w w' := by
  have hl' : (L.length : Int) ≤ 1000 := by omega
  have HG := hide hg; have HH := hide hh
  clear hg hh
  go_enter Try.func12, Try.ntmps12
  go_wp2
  go_loopw [13] (fun i wr => ∃ k : Nat, k ≤ L.length ∧ i = .int .i64 k ∧ ∃ q, wr = w.drewN q) (fun i _ => L.length - (intOf i).toNat)
  case atStart => exact ⟨0, Nat.zero_le _, rfl, 0, rfl⟩
  case round =>
    obtain ⟨k, hk, rfl, q, rfl⟩ := hrel
    by_cases hlt : k < L.length
    · obtain ⟨x, hx⟩ : ∃ s, L[k]? = some s := ⟨_, List.getElem?_eq_getElem hlt⟩
      obtain ⟨c0, c1, c2, c3⟩ := (unhide HG).cell k x hx
      obtain ⟨d0, d1, d2, d3⟩ := (unhide HH).cell k x hx
      have hki : (k : Int) < (L.length : Int) := by omega
      clear hx
      go_wp2_with fail
      go_quiet (fail)
      go_wp2
      go_roundw
      case rel => exact ⟨k + 1, by omega, by go_num, _, rfl⟩
      case measure => simp [intOf]; omega
    · go_wp2
      go_ret
      exact ⟨rfl, below_drewN (Below.refl _ _) _⟩
set_option maxHeartbeats 1000000 in
theorem sameA_none (ao bo : Option Addr) (c d : Nat) (w : World) :
    Calls Try.prog 12 #[.slice ao 0 c, .slice bo 0 d] w fun e w' => e = .returned (.bool true) ∧ Below w.heap.size w w' := by
  go_enter Try.func12, Try.ntmps12
  go_wp2
  go_loopw [13] (fun i wr => i = .int .i64 0 ∧ wr = w) (fun _ _ => 0)
  case atStart => exact ⟨rfl, rfl⟩
  case round =>
    obtain ⟨rfl, rfl⟩ := hrel
    go_wp2
    go_ret
    exact ⟨rfl, Below.refl _ _⟩
theorem AGiven.some_len {w0 w' : World} {v : Value} {S : List XApp} (h : AGiven w0 w' v S) : ∃ ao cap, v = .slice ao S.length cap ∧ (S = [] ∨ ∃ g, ao = some ⟨g, 0, none⟩ ∧ ARow w' g S) := by
  rcases h with ⟨rfl, ao, cap, rfl⟩ | ⟨g, cap, rfl, _, hA⟩
  · exact ⟨ao, cap, rfl, .inl rfl⟩
  · exact ⟨_, cap, rfl, .inr ⟨g, rfl, hA⟩⟩
theorem sameA_any (L : List XApp) (ao bo : Option Addr) (c d : Nat) (w : World) (hg : L = [] ∨ ∃ g, ao = some ⟨g, 0, none⟩ ∧ ARow w g L) (hh : L = [] ∨ ∃ g, bo = some ⟨g, 0, none⟩ ∧ ARow w g L) (hl : L.length ≤ 1000) :
    Calls Try.prog 12 #[.slice ao L.length c, .slice bo L.length d] w fun e w' => e = .returned (.bool true) ∧ Below w.heap.size w w' := by
  rcases hg with rfl | ⟨g, rfl, hg⟩
  · exact sameA_none ao bo c d w
  · rcases hh with rfl | ⟨h, rfl, hh⟩
    · exact sameA_none _ bo c d w
    · exact sameA_rows L g h c d w hg hh hl
theorem candS_length (l : List XApp) (sh : List XKnown) : (candS l sh).length ≤ 1000 := by
  unfold candS
  split
  · rename_i h
    have ha : appsE l = 0 := by
      rcases Decidable.em (appsE l = 0) with h' | h'
      · exact h'
      · rw [candE, if_pos h'] at h; exact h
    have h1 := passes_length (candF l sh) 1 16
    have h2 := candF_length l sh
    have h3 := (appsE_zero ha).1
    unfold candL
    omega
  · simp
end Go.Proofs.Ytlnoilfnpgogbae
