/- The literal that answers whether a shop knows a name. -/
import Derived.Test.YtlnoilfnpgogbaePKnow
import Derived.Deep.QuietTactic
import Derived.BigQuiet
namespace Go.Proofs.Ytlnoilfnpgogbae
open Go.RowKit Go.WideMaps Go.Maps
set_option linter.unusedVariables false

/-- is a name known? -/
def knowsB (f : List UInt8 → Int) (nm : List UInt8) : Bool := (f nm != 0) || (List.range nm.length).any (fun n => f (nm.take n) == 2)
theorem extract_take (s : ByteArray) (n : Nat) (h : n ≤ s.size) : (s.extract 0 n).data.toList = s.data.toList.take n := by
  simp [ByteArray.data_extract, Array.toList_extract]
theorem rangeAny_succ (n : Nat) (p : Nat → Bool) : (List.range (n + 1)).any p = ((List.range n).any p || p n) := by
  rw [List.range_succ, List.any_append]; simp
theorem rangeAny_mono (p : Nat → Bool) (n m : Nat) (h : (List.range n).any p = true) (hnm : n ≤ m) : (List.range m).any p = true := by
  rw [List.any_eq_true] at h ⊢
  obtain ⟨x, hx, hp⟩ := h
  exact ⟨x, by simp at hx ⊢; omega, hp⟩

set_option maxRecDepth 100000 in
set_option maxHeartbeats 2000000 in
theorem knows_any (f : List UInt8 → Int) (nm : ByteArray) (D : DataW Unit) (gb gm : Nat) (w : World) (hmb : MBox w gb gm) (hown : w.ownsMap Try.prog 9 (plainElem Try.prog 3) gm 50 D) (hrd : Reads D f) (hnm : nm.size ≤ 16) :
    Calls Try.prog 41 #[.string nm, .pointer (some ⟨gb, 0, none⟩)] w fun e w' => e = .returned (.bool (knowsB f nm.data.toList)) ∧ ∃ q, w' = w.drewN q := by
  have hlk : ∀ (s : ByteArray), s.size ≤ 16 → ∀ q, (Instr.lookup 70 (.map (some gm)) (.string s) false).run Try.prog (w.drewN q) = .ok (.int .i64 (f s.data.toList)) (w.drewN q) := fun s hs q => by
    have hown' : (w.drewN q).ownsMap Try.prog 9 (plainElem Try.prog 3) gm 50 D := hown
    obtain ⟨c, hrun, hat, _⟩ := hown'.lookup_int lawS Try.underlying70 Try.underlying3 (zeroI _) (keyOf_string_mk Try.underlying9 (s := s) (by unfold maxLen; omega))
    have := hat.symm.trans (hrd s.data.toList)
    injection this with h; injection h with _ h
    rw [hrun, h]
  have hcell : ∀ q, (w.drewN q).cell? ⟨gb, 0, none⟩ = some (.map (some gm)) := fun q => cell_of_row _ _ _ _ _ _ hmb
  have h0 := hlk nm hnm 0
  have c0 : w.cell? ⟨gb, 0, none⟩ = some (.map (some gm)) := hcell 0
  have hl0 : (Instr.lookup 70 (.map (some gm)) (.string nm) false).run Try.prog w = .ok (.int .i64 (f nm.data.toList)) w := h0
  have hsz : nm.data.toList.length = nm.size := by simp
  have HLK := hide hlk; have HC := hide hcell
  clear hlk hcell hown hrd h0 hmb
  by_cases hz : f nm.data.toList = 0
  · rw [hz] at hl0
    have HK : Hid (knowsB f nm.data.toList = (List.range nm.size).any (fun n => f (nm.data.toList.take n) == 2)) := hide (by rw [knowsB, hz, hsz]; rfl)
    clear hz hsz
    go_enter Try.func41, Try.ntmps41
    go_wp2
    clear hl0 c0
    go_loopw [11] (fun i wr => ∃ n q : Nat, n ≤ nm.size ∧ i = .int .i64 n ∧ wr = w.drewN q ∧ Hid ((List.range n).any (fun n => f (nm.data.toList.take n) == 2) = false)) (fun i _ => nm.size - (intOf i).toNat)
    case atStart => exact ⟨0, 0, Nat.zero_le _, rfl, rfl, hide rfl⟩
    case round =>
      obtain ⟨n, q, hn, rfl, rfl, HN⟩ := hrel
      by_cases hlt : n < nm.size
      · have hs := rangeAny_succ n (fun n => f (nm.data.toList.take n) == 2)
        rw [unhide HN, Bool.false_or] at hs
        have hx := extract_take nm n (by omega)
        have hxz : (nm.extract 0 n).size ≤ 16 := by simp; omega
        have hlq := unhide HLK (nm.extract 0 n) hxz
        rw [hx] at hlq
        have hcq := unhide HC
        have g0 : (0 : Int) ≤ (n : Int) := by omega
        have g1 : (n : Int) ≤ (nm.size : Int) := by omega
        generalize f (nm.data.toList.take n) = v at *
        have HS := hide hs
        clear hs hx hxz HLK HC
        by_cases hv : v = 2
        · have HT : Hid (knowsB f nm.data.toList = true) := hide (by rw [unhide HK]; exact rangeAny_mono _ (n + 1) _ (by rw [unhide HS, hv]; rfl) (by omega))
          go_wp2
          go_quiet (fail)
          go_wp2
          go_ret
          exact ⟨ret_bool (unhide HT).symm, q + nq, by simp [World.drewN, Nat.add_assoc]⟩
        · have HS2 := hide ((unhide HS).trans (show (v == 2) = false by simpa using hv))
          go_wp2
          go_quiet (fail)
          go_wp2
          go_roundw
          case rel => exact ⟨n + 1, _, by omega, by go_num, rfl, HS2⟩
          case measure => simp [intOf]; omega
      · have hnl : n = nm.size := by omega
        have HT : Hid (knowsB f nm.data.toList = false) := hide (by rw [unhide HK, ← hnl]; exact unhide HN)
        go_wp2
        go_ret
        exact ⟨ret_bool (unhide HT).symm, _, rfl⟩
  · have HT : Hid (knowsB f nm.data.toList = true) := hide (by rw [knowsB, show (f nm.data.toList != 0) = true by simpa using hz]; rfl)
    have hz' : (f nm.data.toList != 0) = true := by simpa using hz
    generalize f nm.data.toList = v at *
    clear hz hsz HLK HC
    go_enter Try.func41, Try.ntmps41
    go_wp2
    go_ret
    exact ⟨ret_bool (unhide HT).symm, 0, rfl⟩
end Go.Proofs.Ytlnoilfnpgogbae
