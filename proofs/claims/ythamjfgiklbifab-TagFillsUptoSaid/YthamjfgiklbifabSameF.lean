/- same of two rows of fields: are they alike? -/
import Derived.Test.YthamjfgiklbifabRPrintF
namespace Go.Proofs.Ythamjfgiklbifab
open Go.RowKit
set_option linter.unusedVariables false

theorem take_eq_succ (a b : List (Int × Int)) (k : Nat) (ha : k < a.length) (hb : k < b.length) (h : a.take k = b.take k) : a.take (k + 1) = b.take (k + 1) ↔ a.getD k (0, 0) = b.getD k (0, 0) := by
  have ea := List.take_succ_eq_append_getElem ha
  have eb := List.take_succ_eq_append_getElem hb
  have ga : a.getD k (0, 0) = a[k] := by simp [List.getD_eq_getElem?_getD, List.getElem?_eq_getElem ha]
  have gb : b.getD k (0, 0) = b[k] := by simp [List.getD_eq_getElem?_getD, List.getElem?_eq_getElem hb]
  rw [ea, eb, h, ga, gb]
  simp only [List.append_cancel_left_eq, List.cons.injEq, and_true]

set_option maxRecDepth 1000000 in
set_option maxHeartbeats 4000000 in
theorem sameF_any (fs gs : List (Int × Int)) (ao bo : Option Addr) (c d : Nat) (w : World) (hf : FRow w ao fs) (hg : FRow w bo gs) (hl : (fs.length : Int) ≤ 9000000000000) (hl2 : (gs.length : Int) ≤ 9000000000000) :
    Calls Try.prog 19 #[.slice ao fs.length c, .slice bo gs.length d] w fun e w' => e = .returned (.bool (decide (fs = gs))) ∧ Below w.heap.size w w' := by
  by_cases hlen : fs.length = gs.length
  · have t1 : ((fs.length : Int) != (gs.length : Int)) = false := by rw [bne_eq_false_iff_eq]; omega
    have hle : fs.length ≤ gs.length := by omega
    have hge : gs.length ≤ fs.length := by omega
    have HL := hide hlen
    clear hlen
    go_enter Try.func19, Try.ntmps19
    go_wp2
    go_loopw [13] (fun i wr => ∃ k : Nat, k ≤ fs.length ∧ i = .int .i64 k ∧ Hid (fs.take k = gs.take k) ∧ ∃ q, wr = w.drewN q) (fun i _ => fs.length - (intOf i).toNat)
    case atStart => exact ⟨0, Nat.zero_le _, rfl, hide rfl, 0, rfl⟩
    case round =>
      obtain ⟨k, hk, rfl, hsame, q, rfl⟩ := hrel
      by_cases hlt : k < fs.length
      · rcases hf with hnil | ⟨b, off, rfl, hb, hc⟩
        · rw [hnil] at hlt; simp at hlt
        rcases hg with hnil | ⟨b', off', rfl, hb', hc'⟩
        · have : gs.length = 0 := by rw [hnil]; rfl
          omega
        obtain ⟨c0, c1⟩ := hc k hlt
        obtain ⟨c2, c3⟩ := hc' k (by omega)
        have hiff := take_eq_succ fs gs k hlt (by omega) (unhide hsame)
        have hki : (k : Int) < (fs.length : Int) := by omega
        have hki2 : (k : Int) < (gs.length : Int) := by omega
        generalize fs.getD k (0, 0) = f at *
        generalize gs.getD k (0, 0) = g at *
        obtain ⟨ft, fl⟩ := f
        obtain ⟨gt, gl⟩ := g
        simp only at c0 c1 c2 c3
        have HI := hide hiff
        clear hc hc' hiff
        by_cases h1 : ft = gt
        · subst h1
          by_cases h2 : fl = gl
          · subst h2
            go_wp2_with fail
            go_quiet (fail)
            go_wp2
            go_roundw
            case rel => exact ⟨k + 1, by omega, by go_num, hide ((unhide HI).2 (by first | rfl | trivial)), _, rfl⟩
            case measure => simp [intOf]; omega
          · have hne : ¬ fs = gs := fun e => by
              rw [e] at HI
              have := (unhide HI).1 rfl
              simp at this
              exact h2 this
            have HN := hide hne
            clear hne
            go_wp2_with fail
            go_quiet (fail)
            go_wp2
            go_ret
            exact ⟨ret_bool (decide_eq_false (unhide HN)).symm, below_drewN (below_drewN (Below.refl _ _) _) _⟩
        · have hne : ¬ fs = gs := fun e => by
            rw [e] at HI
            have := (unhide HI).1 rfl
            simp at this
            exact h1 this.1
          have HN := hide hne
          clear hne
          go_wp2_with fail
          go_quiet (fail)
          go_wp2
          go_ret
          exact ⟨ret_bool (decide_eq_false (unhide HN)).symm, below_drewN (below_drewN (Below.refl _ _) _) _⟩
      · have heq : fs = gs := by
          have := unhide hsame
          rw [List.take_of_length_le (by omega), List.take_of_length_le (by omega)] at this
          exact this
        have HQ := hide heq
        clear heq hsame
        go_wp2
        go_ret
        exact ⟨ret_bool (decide_eq_true (unhide HQ)).symm, below_drewN (Below.refl _ _) _⟩
  · have t1 : ((fs.length : Int) != (gs.length : Int)) = true := by rw [bne_iff_ne]; omega
    have hne : ¬ fs = gs := fun e => hlen (by rw [e])
    have HN := hide hne
    clear hne hlen
    go_enter Try.func19, Try.ntmps19
    go_wp2
    go_ret
    exact ⟨ret_bool (decide_eq_false (unhide HN)).symm, Below.refl _ _⟩
end Go.Proofs.Ythamjfgiklbifab
