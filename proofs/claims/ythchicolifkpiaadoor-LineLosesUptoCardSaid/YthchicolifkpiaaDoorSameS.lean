/- same of two rows of texts: are they alike? -/
import Derived.Test.YthchicolifkpiaaDoorPGive
namespace Go.Proofs.YthchicolifkpiaaDoor
open Go.RowKit
set_option linter.unusedVariables false

theorem take_eq_text (a b : List ByteArray) (k : Nat) (x y : ByteArray) (ha : a[k]? = some x) (hb : b[k]? = some y) (h : a.take k = b.take k) : a.take (k + 1) = b.take (k + 1) ↔ x = y := by
  rw [List.take_add_one, List.take_add_one, ha, hb, h]
  simp
theorem toList_ne {x y : ByteArray} (h : ¬ x = y) : (x.toList == y.toList) = false := by
  rw [beq_eq_false_iff_ne, bytes_toList, bytes_toList]
  exact fun e => h (ByteArray.ext (Array.toList_inj.1 e))
theorem ret_boolS {x y : Bool} (h : x = y) : Ending.returned (.bool x) = .returned (.bool y) := by rw [h]

set_option maxRecDepth 1000000 in
set_option maxHeartbeats 4000000 in
theorem sameS_any (fs gs : List ByteArray) (ao bo : Option Addr) (c d : Nat) (w : World) (hf : SRow w ao fs) (hg : SRow w bo gs) (hl : (fs.length : Int) ≤ 9000000000000) (hl2 : (gs.length : Int) ≤ 9000000000000) :
    Calls Tryd.prog 14 #[.slice ao fs.length c, .slice bo gs.length d] w fun e w' => e = .returned (.bool (decide (fs = gs))) ∧ Below w.heap.size w w' := by
  by_cases hlen : fs.length = gs.length
  · have t1 : ((fs.length : Int) != (gs.length : Int)) = false := by rw [bne_eq_false_iff_eq]; omega
    have hle : fs.length ≤ gs.length := by omega
    have hge : gs.length ≤ fs.length := by omega
    clear hlen
    go_enter Tryd.func14, Tryd.ntmps14
    go_wp2
    go_loopw [13] (fun i wr => ∃ k : Nat, k ≤ fs.length ∧ i = .int .i64 k ∧ Hid (fs.take k = gs.take k) ∧ ∃ q, wr = w.drewN q) (fun i _ => fs.length - (intOf i).toNat)
    case atStart => exact ⟨0, Nat.zero_le _, rfl, hide rfl, 0, rfl⟩
    case round =>
      obtain ⟨k, hk, rfl, hsame, q, rfl⟩ := hrel
      by_cases hlt : k < fs.length
      · rcases hf with hnil | ⟨b, off, rfl, hb, hc⟩
        · rw [hnil] at hlt; simp at hlt
        rcases hg with hnil | ⟨b', off', rfl, hb', hc'⟩
        · have : gs.length = 0 := by rw [hnil]; rfl
          omega
        have hkg : k < gs.length := by omega
        obtain ⟨x, hx⟩ : ∃ s, fs[k]? = some s := ⟨fs[k], List.getElem?_eq_getElem hlt⟩
        obtain ⟨y, hy⟩ : ∃ s, gs[k]? = some s := ⟨gs[k], List.getElem?_eq_getElem hkg⟩
        have c0 := hc k x hx
        have c1 := hc' k y hy
        have HI := hide (take_eq_text fs gs k x y hx hy (unhide hsame))
        have hki : (k : Int) < (fs.length : Int) := by omega
        have hki2 : (k : Int) < (gs.length : Int) := by omega
        clear hc hc' hx hy
        by_cases h1 : x = y
        · subst h1
          go_wp2_with fail
          go_quiet (fail)
          go_wp2
          go_roundw
          case rel => exact ⟨k + 1, by omega, by go_num, hide ((unhide HI).2 (by first | rfl | trivial)), _, rfl⟩
          case measure => simp [intOf]; omega
        · have hxy := toList_ne h1
          have HN := hide (show ¬ fs = gs from fun e => by
            rw [e] at HI
            exact h1 ((unhide HI).1 rfl))
          go_wp2_with fail
          go_quiet (fail)
          go_wp2
          go_ret
          exact ⟨ret_boolS (decide_eq_false (unhide HN)).symm, belowDrewN (belowDrewN (Below.refl _ _) _) _⟩
      · have heq : fs = gs := by
          have := unhide hsame
          rw [List.take_of_length_le (by omega), List.take_of_length_le (by omega)] at this
          exact this
        have HQ := hide heq
        clear heq hsame
        go_wp2
        go_ret
        exact ⟨ret_boolS (decide_eq_true (unhide HQ)).symm, belowDrewN (Below.refl _ _) _⟩
  · have t1 : ((fs.length : Int) != (gs.length : Int)) = true := by rw [bne_iff_ne]; omega
    have HN := hide (show ¬ fs = gs from fun e => hlen (by rw [e]))
    clear hlen
    go_enter Tryd.func14, Tryd.ntmps14
    go_wp2
    go_ret
    exact ⟨ret_boolS (decide_eq_false (unhide HN)).symm, Below.refl _ _⟩
end Go.Proofs.YthchicolifkpiaaDoor
