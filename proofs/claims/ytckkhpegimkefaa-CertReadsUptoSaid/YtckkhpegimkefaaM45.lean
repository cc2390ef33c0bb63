/- A text as a number, by the document's own: whole. -/
import Derived.Test.YtckkhpegimkefaaM28
import Derived.Lib.ConvBytes
import Derived.Test.YtckkhpegimkefaaM20
import Derived.Test.YtckkhpegimkefaaM19
import Derived.Deep.QuietTactic
import Derived.Test.YtckkhpegimkefaaM01
namespace Go.Proofs.Ytckkhpegimkefaa
open Go.RowKit
set_option linter.unusedVariables false
set_option linter.unusedSimpArgs false
set_option maxRecDepth 100000

theorem bytesWorld_belowW (w : World) (e : TypeId) (s : ByteArray) : Below w.heap.size w (Lib.bytesWorld w e s) :=
  ⟨rfl, rfl, rfl, by rw [Lib.bytesWorld_size]; omega, fun q hq => Lib.bytesWorld_at_old w e s q hq⟩
set_option maxHeartbeats 1000000 in
theorem whole_any (s : ByteArray) (w : World) (hs : (s.size : Int) ≤ 1000) :
    Calls Try.prog 21 #[.string s] w fun e w' => (e = .returned (.pointer (some ⟨w.heap.size, 0, none⟩)) ∧ IntAt w' w.heap.size (valN s.data.toList)) ∧ Below w.heap.size w w' ∧ w.heap.size < w'.heap.size := by
  obtain ⟨W1, hW1⟩ : ∃ W1, W1 = w.alloc (.cells #[.bool false, .slice none 0 0] 60) := ⟨_, rfl⟩
  have hX1 : W1.heap[w.heap.size]? = some (.cells #[.bool false, .slice none 0 0] 60 (0, 0)) := by rw [hW1]; exact heap_alloc_new _ _
  have hB1 : Below w.heap.size w W1 := by rw [hW1]; exact (Below.refl _ _).alloc (Nat.le_refl _) _
  obtain ⟨W2, hW2⟩ : ∃ W2, W2 = Lib.bytesWorld W1 5 s := ⟨_, rfl⟩
  have hB2 : Below W1.heap.size W1 W2 := by rw [hW2]; exact bytesWorld_belowW _ _ _
  have hX2 : BoxAt3 W2 w.heap.size false (.slice none 0 0) := ⟨(hB2.block _ (heap_lt hX1)).trans hX1, _, _, _, rfl⟩
  have hcell : ∀ i (h : i < s.size), W2.cell? ⟨W1.heap.size, i, none⟩ = some (.int .u8 ((s[i]'h).toNat : Int)) := fun i h => by
    rw [hW2, Lib.bytesWorld_cell W1 5 s i h]
    have e : s.data.toList.getD i 0 = s[i]'h := by
      rw [List.getD_eq_getElem?_getD, List.getElem?_eq_getElem (by simpa using h)]; rfl
    rw [e]
  have hsz : W2.heap.size = W1.heap.size + 1 := by rw [hW2, Lib.bytesWorld_size]
  have hlt : w.heap.size < W2.heap.size := by have := heap_lt hX1; omega
  have N0 := setBytes_any s W1.heap.size (grownCap W1 s.size 0 5) w.heap.size false (.slice none 0 0) W2 hcell (by omega) hX2 hs
  have hcv := Lib.run_convert_string_bytes (P := Try.prog) W1 9 48 5 s Try.underlying9 Try.underlying48 Try.underlying5
  rw [← hW2] at hcv
  have HB := hide (hB1.trans (hB2.mono hB1.size))
  have HLT := hide hlt
  have HN := hide N0
  generalize grownCap W1 s.size 0 5 = CP at *
  generalize hg1 : W1.heap.size = g1 at *
  have hcv' : ∀ v w', (convert 9 48 (.string s)).run Try.prog W1 = .ok v w' → True := fun _ _ _ => trivial
  clear hX1 hB1 hB2 hX2 hcell hsz hcv' N0 hW2 hg1 hlt hs
  rw [hW1] at hcv
  clear hW1
  go_enter Try.func21, Try.ntmps21
  go_wp2_with fail
  refine (unhide HN).mono ?_
  rintro e y ⟨rfl, hI, hb, _, hz⟩
  have HI := hide hI; have HBB := hide ((unhide HB).trans (hb w.heap.size (Nat.le_refl _)))
  have HZ := hide (Nat.lt_of_lt_of_le (unhide HLT) hz)
  clear hI hb hz
  go_wp2
  go_ret
  exact ⟨⟨rfl, unhide HI⟩, unhide HBB, unhide HZ⟩
end Go.Proofs.Ytckkhpegimkefaa
namespace Go.Proofs.Ytckkhpegimkefaa
open Go.RowKit Go.Shelf
set_option linter.unusedVariables false

set_option maxHeartbeats 1000000 in
set_option maxRecDepth 100000 in
theorem rmodulus_any (s : ByteArray) (w : World) :
    Calls Try.prog 20 #[.string s] w fun e w' => e = .returned (.bool (isModB s)) ∧ w' = w := by
  by_cases h1 : 40 ≤ s.size
  · by_cases h2 : s.size ≤ 96
    · obtain ⟨c, hc⟩ : ∃ c : Nat, c = (s.data.toList.headD 0).toNat := ⟨_, rfl⟩
      obtain ⟨d, hd⟩ : ∃ d : Nat, d = (s.data.toList.getLastD 0).toNat := ⟨_, rfl⟩
      have hm : isModB s = (decide (128 ≤ c) && decide (d % 2 = 1)) := by
        unfold isModB
        rw [← hc, ← hd, decide_eq_true h1, decide_eq_true h2]
        simp
      rw [hm]
      have hcb : c < 256 := by rw [hc]; exact UInt8.toNat_lt _
      have hdb : d < 256 := by rw [hd]; exact UInt8.toNat_lt _
      obtain ⟨l, hl⟩ : ∃ l, l = s.size - 1 := ⟨_, rfl⟩
      have hli : (s.size : Int) - 1 = (l : Int) := by omega
      have hls : l < s.size := by omega
      have x0 : ∀ h, ((s[0]'h).toNat : Int) = (c : Int) := by
        intro h
        rw [hc]
        congr 2
        have hne : s.data.toList = s[0] :: s.data.toList.tail := by
          have : s.data.toList ≠ [] := by
            intro hh
            have hz : s.size = s.data.toList.length := by simp
            rw [hh, List.length_nil] at hz
            omega
          cases hh : s.data.toList with
          | nil => exact absurd hh this
          | cons a t =>
            have : s[0] = a := by
              show s.data[0] = a
              rw [← Array.getElem_toList]
              simp [hh]
            rw [this]; rfl
        rw [hne]; rfl
      have x1 : ∀ h, ((s[l]'h).toNat : Int) = (d : Int) := by
        intro h
        rw [hd]
        congr 2
        show s.data[l] = _
        rw [List.getLastD_eq_getLast?, List.getLast?_eq_getElem?, ← Array.getElem_toList]
        have hz : s.size = s.data.size := rfl
        rw [show s.data.toList.length - 1 = l by rw [hl, hz]; simp, List.getElem?_eq_getElem (by rw [Array.length_toList, ← hz]; omega)]
        rfl
      clear hc hd hm
      have k1 : (40 : Int) ≤ (s.size : Int) := by omega
      have k2 : (s.size : Int) ≤ 96 := by omega
      by_cases h3 : 128 ≤ c
      · rw [decide_eq_true h3, Bool.true_and]
        have k3 : (127 : Int) < (c : Int) := by omega
        have h4 : d % 2 = 0 ∨ d % 2 = 1 := by omega
        rcases h4 with h4 | h4
        · rw [h4]
          have k4 : (d : Int) % 2 = 0 := by omega
          clear h4 h3 hl
          go_enter Try.func20, Try.ntmps20
          go_wp2
          go_ret
          exact ⟨rfl, rfl⟩
        · rw [h4]
          have k4 : (d : Int) % 2 = 1 := by omega
          clear h4 h3 hl
          go_enter Try.func20, Try.ntmps20
          go_wp2
          go_ret
          exact ⟨rfl, rfl⟩
      · rw [decide_eq_false h3, Bool.false_and]
        have k3 : ¬ (127 : Int) < (c : Int) := by omega
        clear h3 hl
        go_enter Try.func20, Try.ntmps20
        go_wp2
        go_ret
        exact ⟨rfl, rfl⟩
    · have hm : isModB s = false := by unfold isModB; rw [decide_eq_false h2]; simp
      rw [hm]
      have k1 : (40 : Int) ≤ (s.size : Int) := by omega
      have k2 : ¬ (s.size : Int) ≤ 96 := by omega
      clear hm
      go_enter Try.func20, Try.ntmps20
      go_wp2
      go_ret
      exact ⟨rfl, rfl⟩
  · have hm : isModB s = false := by unfold isModB; rw [decide_eq_false h1]; simp
    rw [hm]
    have k1 : ¬ (40 : Int) ≤ (s.size : Int) := by omega
    clear hm
    go_enter Try.func20, Try.ntmps20
    go_wp2
    go_ret
    exact ⟨rfl, rfl⟩
end Go.Proofs.Ytckkhpegimkefaa
namespace Go.Proofs.Ytckkhpegimkefaa
open Go.RowKit Go.Shelf
set_option linter.unusedVariables false

/-- may it be one of the two? -/
def isFacB (s : ByteArray) : Bool := decide (1 ≤ s.size) && decide (s.size ≤ 96) && decide (¬ (s.data.toList.headD 0).toNat = 0)
theorem head_byte (s : ByteArray) (h0 : 1 ≤ s.size) : ∀ h, ((s[0]'h).toNat : Int) = ((s.data.toList.headD 0).toNat : Int) := by
  intro h
  congr 2
  have hne : s.data.toList = s[0] :: s.data.toList.tail := by
    have : s.data.toList ≠ [] := by
      intro hh
      have hz : s.size = s.data.toList.length := by simp
      rw [hh, List.length_nil] at hz
      omega
    cases hh : s.data.toList with
    | nil => exact absurd hh this
    | cons a t =>
      have : s[0] = a := by
        show s.data[0] = a
        rw [← Array.getElem_toList]
        simp [hh]
      rw [this]; rfl
  rw [hne]; rfl

end Go.Proofs.Ytckkhpegimkefaa
namespace Go.Proofs.Ytckkhpegimkefaa
open Go.RowKit Go.Shelf
set_option linter.unusedVariables false

end Go.Proofs.Ytckkhpegimkefaa
namespace Go.Proofs.Ytckkhpegimkefaa
open Go.RowKit Go.Shelf
set_option linter.unusedVariables false

end Go.Proofs.Ytckkhpegimkefaa
namespace Go.Proofs.Ytckkhpegimkefaa
open Go.RowKit Go.Shelf
set_option linter.unusedVariables false
set_option maxRecDepth 100000

/-- what the long division by 3 * 2^62 comes to -/
theorem div3_plain {hi lo A q1 r1 U q0 r0 : Nat} (h1 : hi ≤ 2) (hlo : lo < 18446744073709551616) (hA : A = hi * 4611686018427387904 + lo / 4) (e1 : A = q1 * 3221225472 + r1) (hr1 : r1 < 3221225472)
    (hU : U = r1 * 4294967296 + lo % 4 * 1073741824) (e2 : U = q0 * 3221225472 + r0) (hr0 : r0 < 3221225472) :
    q1 < 4294967296 ∧ U < 18446744073709551616 ∧ q0 < 4294967296 ∧ q1 * 4294967296 + q0 = (hi * 18446744073709551616 + lo) / 3 ∧ r0 / 1073741824 = (hi * 18446744073709551616 + lo) % 3 := by
  refine ⟨by omega, by omega, by omega, by omega, by omega⟩
theorem wr (x : Int) : IntKind.u64.wrap x = x % 18446744073709551616 := by rw [IntKind.wrap_u64]
theorem wrN {x : Int} {n : Nat} (h : x = (n : Int)) (hn : n < 18446744073709551616) : IntKind.u64.wrap x = (n : Int) := by rw [wr]; omega
theorem a11 {hi lo A : Nat} (h1 : hi ≤ 2) (hlo : lo < 18446744073709551616) (hA : A = hi * 4611686018427387904 + lo / 4) : bits .or .u64 (IntKind.u64.wrap ((hi : Int) * 4611686018427387904)) ((lo : Int) / 4) = (A : Int) := by
  have e1 : IntKind.u64.wrap ((hi : Int) * 4611686018427387904) = ((hi * 4611686018427387904 : Nat) : Int) := wrN (by omega) (by omega)
  have e2 : ((lo : Int) / 4) = ((lo / 4 : Nat) : Int) := by omega
  rw [e1, e2, or_nat .u64 64 (by decide) (fun n h0 h1 => by rw [wr]; omega) _ _ (by omega) (by omega)]
  have e3 : hi * 4611686018427387904 = hi <<< 62 := by rw [Nat.shiftLeft_eq]
  rw [e3, ← Nat.shiftLeft_add_eq_or_of_lt (by omega : lo / 4 < 2 ^ 62), Nat.shiftLeft_eq, hA]
theorem a12 {lo b : Nat} (hb : b = lo % 4) : IntKind.u64.wrap ((lo : Int) * 4611686018427387904) = ((b * 4611686018427387904 : Nat) : Int) := by
  rw [wr]; omega
theorem a13 {b : Nat} (hb : b < 4) : ((b : Int) * 4611686018427387904 / 4294967296) = ((b * 1073741824 : Nat) : Int) := by omega
theorem a14 {b : Nat} (hb : b < 4) : bits .and .u64 ((b : Int) * 4611686018427387904) 4294967295 = 0 := by
  have h : b = 0 ∨ b = 1 ∨ b = 2 ∨ b = 3 := by omega
  rcases h with rfl | rfl | rfl | rfl <;> decide
theorem a15 {A q1 r1 : Nat} (e1 : A = q1 * 3221225472 + r1) (l1 : r1 < 3221225472) (p1 : q1 < 4294967296) : IntKind.u64.wrap ((A : Int) / 3221225472) = (q1 : Int) := wrN (by omega) (by omega)
theorem a16 {A q1 r1 : Nat} (e1 : A = q1 * 3221225472 + r1) (l1 : r1 < 3221225472) (p1 : q1 < 4294967296) : IntKind.u64.wrap ((A : Int) - IntKind.u64.wrap ((q1 : Int) * 3221225472)) = (r1 : Int) := by
  rw [wrN (x := (q1 : Int) * 3221225472) (n := q1 * 3221225472) (by omega) (by omega)]
  exact wrN (by omega) (by omega)
theorem a17 {A b q1 r1 U : Nat} (e1 : A = q1 * 3221225472 + r1) (l1 : r1 < 3221225472) (p1 : q1 < 4294967296) (hb : b < 4) (hU : U = r1 * 4294967296 + b * 1073741824) (p2 : U < 18446744073709551616) :
    IntKind.u64.wrap (IntKind.u64.wrap (IntKind.u64.wrap ((A : Int) * 4294967296) + (b : Int) * 1073741824) - IntKind.u64.wrap ((q1 : Int) * 13835058055282163712)) = (U : Int) := by
  rw [wr, wr, wr, wr]; omega
theorem a17b {b r1 U : Nat} (l1 : r1 < 3221225472) (hb : b < 4) (hU : U = r1 * 4294967296 + b * 1073741824) (p2 : U < 18446744073709551616) :
    IntKind.u64.wrap (IntKind.u64.wrap (4294967296 * (r1 : Int)) + (b : Int) * 1073741824) = (U : Int) := by
  rw [wr, wr]; omega
theorem a20 {r0 : Nat} (l2 : r0 < 3221225472) : IntKind.u64.wrap (4294967296 * (r0 : Int)) = ((r0 * 4294967296 : Nat) : Int) := wrN (by omega) (by omega)
theorem a28 {q1 q0 : Nat} (p1 : q1 < 4294967296) (p3 : q0 < 4294967296) : IntKind.u64.wrap (IntKind.u64.wrap ((q1 : Int) * 4294967296) + (q0 : Int)) = ((q1 * 4294967296 + q0 : Nat) : Int) := by
  rw [wr, wr]; omega
theorem a29 {U q0 r0 : Nat} (e2 : U = q0 * 3221225472 + r0) (l2 : r0 < 3221225472) (p3 : q0 < 4294967296) (p2 : U < 18446744073709551616) :
    IntKind.u64.wrap (IntKind.u64.wrap (IntKind.u64.wrap ((U : Int) * 4294967296)) - IntKind.u64.wrap ((q0 : Int) * 13835058055282163712)) / 4611686018427387904 = ((r0 / 1073741824 : Nat) : Int) := by
  have e : IntKind.u64.wrap (IntKind.u64.wrap (IntKind.u64.wrap ((U : Int) * 4294967296)) - IntKind.u64.wrap ((q0 : Int) * 13835058055282163712)) = ((r0 * 4294967296 : Nat) : Int) := by rw [wr, wr, wr, wr]; omega
  rw [e]; omega
end Go.Proofs.Ytckkhpegimkefaa
