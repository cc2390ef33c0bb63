/- Words of 32 bits in memory; trim, words. -/
import Derived.Test.YtomgjfobagjlaaaM00
import Derived.Deep.QuietTactic
import Derived.BigQuiet
import Derived.WalkSmall
namespace Go.Proofs.Ytomgjfobagjlaaa
open Go.RowKit
set_option linter.unusedVariables false

/-- words that lie in a row, to be read -/
def WRow (w : World) (ao : Option Addr) (ws : List Nat) : Prop := ws = [] ∨ ∃ g off, ao = some ⟨g, off, none⟩ ∧ g < w.heap.size ∧ ∀ i x, ws[i]? = some x → w.cell? ⟨g, off + i, none⟩ = some (.int .u32 (x : Nat))
theorem WRow.below {w w' : World} {ao : Option Addr} {ws : List Nat} (h : WRow w ao ws) (hb : Below w.heap.size w w') : WRow w' ao ws := by
  rcases h with h | ⟨g, off, e, hlt, hc⟩
  · exact .inl h
  · exact .inr ⟨g, off, e, Nat.lt_of_lt_of_le hlt hb.size, fun i x hi => (hb.cell (p := ⟨g, off + i, none⟩) hlt).trans (hc i x hi)⟩
theorem WRow.take {w : World} {ao : Option Addr} {ws : List Nat} (h : WRow w ao ws) (n : Nat) : WRow w ao (ws.take n) := by
  rcases h with rfl | ⟨g, off, e, hlt, hc⟩
  · exact .inl (by simp)
  · refine .inr ⟨g, off, e, hlt, fun i x hi => hc i x ?_⟩
    have hin : i < n := by
      have := (List.getElem?_eq_some_iff.1 hi).1
      rw [List.length_take] at this
      omega
    rwa [List.getElem?_take_of_lt hin] at hi
/-- a whole block of words -/
def VCells (row : List Nat) : Array Value := (row.map fun x : Nat => Value.int .u32 (x : Int)).toArray
def VRow (w : World) (g : Nat) (row : List Nat) : Prop := w.heap[g]? = some (.cells (VCells row) 77 (0, 0))
theorem VRow.cell {w : World} {g : Nat} {row : List Nat} (h : VRow w g row) (i x : Nat) (hi : row[i]? = some x) : w.cell? ⟨g, i, none⟩ = some (.int .u32 (x : Nat)) := by
  rw [cell_of_row _ _ i _ _ _ h]
  simp [VCells, hi]
theorem VRow.frozen {w : World} {g : Nat} {row : List Nat} (h : VRow w g row) (i : Nat) : w.frozen? ⟨g, i, none⟩ = false := frozen_of_row _ _ i _ _ h
theorem VRow.lt {w : World} {g : Nat} {row : List Nat} (h : VRow w g row) : g < w.heap.size := by
  rcases Nat.lt_or_ge g w.heap.size with h' | h'
  · exact h'
  · unfold VRow at h
    rw [Array.getElem?_eq_none h'] at h; cases h
theorem VRow.set {w : World} {g : Nat} {row : List Nat} (h : VRow w g row) (i x : Nat) : VRow (w.setCell ⟨g, i, none⟩ (.int .u32 (x : Nat))) g (row.set i x) := by
  unfold VRow at *
  have : (w.setCell ⟨g, i, none⟩ (.int .u32 (x : Nat))).heap[g]? = some (.cells ((VCells row).setIfInBounds i (.int .u32 (x : Nat))) 77 (0, 0)) := by
    simp [World.setCell, Array.getElem?_modify, h]
  rw [this]
  congr 2
  unfold VCells
  rw [List.setIfInBounds_toArray, List.map_set]
theorem VRow.wrow {w : World} {g : Nat} {row : List Nat} (h : VRow w g row) : WRow w (some ⟨g, 0, none⟩) row :=
  .inr ⟨g, 0, rfl, h.lt, fun i x hi => by rw [Nat.zero_add]; exact h.cell i x hi⟩
theorem VRow.below {w w' : World} {g : Nat} {row : List Nat} (h : VRow w g row) (hb : Below w.heap.size w w') : VRow w' g row := by
  have hg := h.lt
  unfold VRow at *
  rw [hb.block g hg, h]

set_option maxHeartbeats 1000000 in
theorem trim_any (ws : List Nat) (g off cap : Nat) (w : World) (hr : WRow w (some ⟨g, off, none⟩) ws) (hok : okV ws) (hl : (ws.length : Int) ≤ 1000000) (hcap : (ws.length : Int) ≤ (cap : Int)) (hc2 : (cap : Int) ≤ 1000000) :
    Calls Try.prog 71 #[.slice (some ⟨g, off, none⟩) ws.length cap] w fun e w' => e = .returned (.slice (some ⟨g, off, none⟩) (dig (natV ws)).length cap) ∧ w' = w := by
  have HR := hide hr; have HOK := hide hok
  clear hr hok
  go_enter Try.func71, Try.ntmps71
  go_wp2
  go_loopw [3] (fun n wr => ∃ k : Nat, k ≤ ws.length ∧ n = .int .i64 k ∧ Hid (∀ i x, k ≤ i → ws[i]? = some x → x = 0) ∧ wr = w) (fun n _ => (intOf n).toNat)
  case atStart => exact ⟨ws.length, Nat.le_refl _, rfl, hide (fun i x hi hx => by rw [List.getElem?_eq_none hi] at hx; cases hx), rfl⟩
  case round =>
    obtain ⟨k, hk, rfl, HZ, rfl⟩ := hrel
    have fin : (k = 0 ∨ ∃ x, ws[k - 1]? = some x ∧ x ≠ 0) → (dig (natV ws)).length = k := fun h => by
      rw [dig_take (unhide HOK) k hk (unhide HZ) h, List.length_take]
      omega
    have HFIN := hide fin
    clear fin
    have hkc : (k : Int) ≤ (cap : Int) := by omega
    cases k with
    | zero =>
      have HE := hide (unhide HFIN (.inl rfl))
      clear HFIN
      go_wp2
      go_ret
      exact ⟨by rw [unhide HE]; rfl, rfl⟩
    | succ j =>
      obtain ⟨x, hx⟩ : ∃ x, ws[j]? = some x := ⟨_, List.getElem?_eq_getElem (by omega)⟩
      rcases (unhide HR) with hnil | ⟨g', off', he, hb, hc⟩
      · rw [hnil] at hx; simp at hx
      obtain ⟨rfl, rfl⟩ : g = g' ∧ off = off' := by simpa using he
      have c0 := hc j x hx
      have hji : (j : Int) < (ws.length : Int) := by omega
      have hw1 : IntKind.i64.wrap (((j + 1 : Nat) : Int) - 1) = (j : Int) := by rw [IntKind.wrap_i64]; omega
      have hgt : decide (0 < ((j + 1 : Nat) : Int)) = true := decide_eq_true (by omega)
      by_cases hx0 : x = 0
      · subst hx0
        have HZ2 : Hid (∀ i x, j ≤ i → ws[i]? = some x → x = 0) := hide (fun i x hi hxi => by
          rcases Nat.lt_or_ge i (j + 1) with h | h
          · obtain rfl : i = j := by omega
            rw [hx] at hxi
            simpa using hxi.symm
          · exact unhide HZ i x h hxi)
        clear hx hc he
        go_wp2
        go_roundw
        case rel => exact ⟨j, by omega, by go_num, HZ2, by first | rfl | trivial⟩
        case measure => simp [intOf]; try omega
      · have HE := hide (unhide HFIN (.inr ⟨x, hx, hx0⟩))
        have hxI : ((x : Int) == 0) = false := by simp; omega
        clear hx hc he hx0 HFIN
        go_wp2
        go_ret
        exact ⟨by rw [unhide HE]; rfl, rfl⟩
theorem trim_nil (w : World) :
    Calls Try.prog 71 #[.slice none 0 0] w fun e w' => e = .returned (.slice none 0 0) ∧ w' = w := by
  go_enter Try.func71, Try.ntmps71
  go_wp2
  go_loopw [3] (fun n wr => n = .int .i64 0 ∧ wr = w) (fun n _ => 0)
  case atStart => exact ⟨rfl, rfl⟩
  case round =>
    obtain ⟨rfl, rfl⟩ := hrel
    go_wp2
    go_ret
    exact ⟨rfl, rfl⟩
end Go.Proofs.Ytomgjfobagjlaaa
namespace Go.Proofs.Ytomgjfobagjlaaa
open Go.RowKit

/-- the number that bytes say, the high one first -/
def valN (l : List UInt8) : Nat := l.foldl (fun n b => n * 256 + b.toNat) 0
theorem valN_snoc (l : List UInt8) (b : UInt8) : valN (l ++ [b]) = valN l * 256 + b.toNat := by simp [valN, List.foldl_append]
theorem foldl_ge (l : List UInt8) : ∀ a : Nat, a ≤ l.foldl (fun n b => n * 256 + b.toNat) a := by
  induction l with
  | nil => intro a; simp
  | cons b l ih => intro a; rw [List.foldl_cons]; exact Nat.le_trans (by omega) (ih _)
theorem valN_take_le (l : List UInt8) (k : Nat) : valN (l.take k) ≤ valN l := by
  rw (occs := .pos [2]) [← List.take_append_drop k l]
  unfold valN
  rw [List.foldl_append]
  exact foldl_ge _ _
theorem valN_lt (l : List UInt8) : valN l < 256 ^ l.length := by
  have h : ∀ (l : List UInt8) (a : Nat), l.foldl (fun n b => n * 256 + b.toNat) a < (a + 1) * 256 ^ l.length := by
    intro l
    induction l with
    | nil => intro a; simp
    | cons b l ih =>
      intro a
      rw [List.foldl_cons, List.length_cons, Nat.pow_succ]
      refine Nat.lt_of_lt_of_le (ih _) ?_
      have hb : b.toNat < 256 := b.toNat_lt
      calc (a * 256 + b.toNat + 1) * 256 ^ l.length ≤ ((a + 1) * 256) * 256 ^ l.length := Nat.mul_le_mul_right _ (by omega)
        _ = (a + 1) * (256 ^ l.length * 256) := by rw [Nat.mul_assoc, Nat.mul_comm 256]
  simpa [valN] using h l 0
set_option maxHeartbeats 1000000 in
theorem value_any (s : ByteArray) (w : World) (hs : s.size ≤ 8) (hv : valN s.data.toList ≤ 9223372036854775807) :
    Calls Try.prog 32 #[.string s] w fun e w' => e = .returned (.int .i64 (valN s.data.toList)) ∧ w' = w := by
  go_enter Try.func32, Try.ntmps32
  go_wp2
  go_loop [3, 4] (fun n i => ∃ k : Nat, k ≤ s.size ∧ i = .int .i64 k ∧ n = .int .i64 (valN (s.data.toList.take k))) (fun _ i => s.size - (intOf i).toNat)
  case atStart => exact ⟨0, Nat.zero_le _, rfl, rfl⟩
  case round =>
    obtain ⟨k, hk, rfl, rfl⟩ := hrel
    by_cases hlt : k < s.size
    · have hsn := valN_snoc (s.data.toList.take k) s[k]
      rw [← take_snoc s k hlt] at hsn
      have hle := valN_take_le s.data.toList (k + 1)
      obtain ⟨m, hm⟩ : ∃ m, m = valN (s.data.toList.take k) := ⟨_, rfl⟩
      rw [← hm] at hsn ⊢
      have hmb : (m : Int) * 256 + (s[k].toNat : Int) ≤ 9223372036854775807 := by omega
      have HS : Hid (valN (s.data.toList.take (k + 1)) = m * 256 + s[k].toNat) := hsn
      clear hsn hle hm hv
      go_wp2
      go_round
      case rel => exact ⟨k + 1, by omega, by go_num, by rw [HS.out]; go_num⟩
      case measure => simp [intOf]; omega
    · go_wp2
      go_ret
      exact ⟨ret_int (by rw [List.take_of_length_le (by simp; omega)]), rfl⟩

end Go.Proofs.Ytomgjfobagjlaaa
