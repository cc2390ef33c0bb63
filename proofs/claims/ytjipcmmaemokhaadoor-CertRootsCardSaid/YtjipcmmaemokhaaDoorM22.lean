/- The big numbers' sums, by the numbers themselves; a number divided by 3. -/
import Derived.Test.YtjipcmmaemokhaaDoorM21
import Derived.Test.YtjipcmmaemokhaaDoorM00
import Derived.Deep.RegionHeld3
import Derived.Lib.ConvBytes
namespace Go.Proofs.YtjipcmmaemokhaaDoor
open Go.RowKit
set_option linter.unusedVariables false

end Go.Proofs.YtjipcmmaemokhaaDoor
namespace Go.Proofs.YtjipcmmaemokhaaDoor
open Go.RowKit
set_option linter.unusedVariables false

theorem or_words (r x : Nat) (hx : x < 4294967296) : r * 4294967296 ||| x = r * 4294967296 + x := by
  have := Nat.two_pow_add_eq_or_of_lt (i := 32) (b := x) hx r
  rw [show (2 : Nat) ^ 32 = 4294967296 from rfl] at this
  rw [Nat.mul_comm, ← this]
theorem small_step {Q D : List Nat} {x r r1 q : Nat} (hv : natV D = natV Q * 3 + r) (h1 : r1 = r * 4294967296 + x) (hq : q = r1 / 3) : natV (x :: D) = natV (q :: Q) * 3 + r1 % 3 := by
  simp only [natV]
  rw [hv]
  have h2 : r1 = r * B32 + x := h1
  have h3 := Nat.div_add_mod r1 3
  rw [← hq] at h3
  have h4 : B32 * (natV Q * 3 + r) = B32 * natV Q * 3 + r * B32 := by grind
  have h5 : (q + B32 * natV Q) * 3 = 3 * q + B32 * natV Q * 3 := by grind
  omega
end Go.Proofs.YtjipcmmaemokhaaDoor
namespace Go.Proofs.YtjipcmmaemokhaaDoor
open Go.RowKit
set_option linter.unusedVariables false

theorem heap_lt {w : World} {g : Nat} {o : Obj} (h : w.heap[g]? = some o) : g < w.heap.size := by
  rcases Nat.lt_or_ge g w.heap.size with h' | h'
  · exact h'
  · rw [Array.getElem?_eq_none h'] at h; cases h
theorem keep_cellB {w w' : World} {a : Addr} {v : Value} (h : Below w.heap.size w w') (hc : w.cell? a = some v) : w'.cell? a = some v := (h.cell (World.block_lt_of_cell? w a hc)).trans hc
theorem ext_callB {W x y : World} (h : Below W.heap.size W x) (k : Below x.heap.size x y) : Below W.heap.size W y := h.trans (k.mono h.size)
theorem B32_bytes (K : Nat) : B32 ^ K = 256 ^ (4 * K) := by rw [Nat.pow_mul]; rfl
theorem B32_mono {a b : Nat} (h : a ≤ b) : B32 ^ a ≤ B32 ^ b := Nat.pow_le_pow_right B32_pos h
theorem small_lt (x : Nat) (h : x < 4294967296) (K : Nat) (hK : 1 ≤ K) : x < B32 ^ K := by
  refine Nat.lt_of_lt_of_le (m := B32 ^ 1) ?_ (B32_mono hK)
  rw [Nat.pow_one]
  exact h
theorem valN_small (l : List UInt8) (K : Nat) (h : l.length ≤ 4 * K) : valN l < B32 ^ K := by
  refine Nat.lt_of_lt_of_le (valN_lt l) ?_
  rw [B32_bytes]
  exact Nat.pow_le_pow_right (by decide) h
end Go.Proofs.YtjipcmmaemokhaaDoor
namespace Go.Proofs.YtjipcmmaemokhaaDoor
open Go.RowKit
set_option linter.unusedVariables false
set_option linter.unusedSimpArgs false
set_option maxRecDepth 100000

theorem bytesWorld_belowW (w : World) (e : TypeId) (s : ByteArray) : Below w.heap.size w (Lib.bytesWorld w e s) :=
  ⟨rfl, rfl, rfl, by rw [Lib.bytesWorld_size]; omega, fun q hq => Lib.bytesWorld_at_old w e s q hq⟩
end Go.Proofs.YtjipcmmaemokhaaDoor
