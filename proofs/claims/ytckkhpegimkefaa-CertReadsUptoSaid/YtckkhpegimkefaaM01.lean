/- The mill of the program: words, rounds, read, text. -/
import Derived.Test.YtckkhpegimkefaaM00
import Derived.Deep.QuietTactic
import Derived.BigQuiet
import Derived.Lib.Strings
namespace Go.Proofs.Ytckkhpegimkefaa
open Go.RowKit
set_option linter.unusedVariables false

theorem wraps_u32 (n : Int) (h₀ : 0 ≤ n) (h₁ : n < 2 ^ 32) : IntKind.u32.wrap n = n := by
  simp [IntKind.wrap, IntKind.bits, IntKind.signed]
  omega
theorem wrap_u32_nat (n : Nat) : IntKind.u32.wrap (n : Int) = ((n % 4294967296 : Nat) : Int) := by
  simp [IntKind.wrap, IntKind.bits, IntKind.signed]
theorem or_nat (k : IntKind) (j : Nat) (hj : j ≤ k.bits) (hk : ∀ n : Int, 0 ≤ n → n < 2 ^ j → k.wrap n = n) (a b : Nat) (ha : a < 2 ^ j) (hb : b < 2 ^ j) : bits .or k a b = ((a ||| b : Nat) : Int) := by
  have hp : 2 ^ j ≤ 2 ^ k.bits := Nat.pow_le_pow_right (by decide) hj
  have hx : a ||| b < 2 ^ j := Nat.or_lt_two_pow ha hb
  simp only [bits, BitVec.toNat_or, BitVec.toNat_ofInt]
  have ea : ((a : Int) % ((2 ^ k.bits : Nat) : Int)).toNat = a := by
    rw [← Int.natCast_emod, Int.toNat_natCast, Nat.mod_eq_of_lt (Nat.lt_of_lt_of_le ha hp)]
  have eb : ((b : Int) % ((2 ^ k.bits : Nat) : Int)).toNat = b := by
    rw [← Int.natCast_emod, Int.toNat_natCast, Nat.mod_eq_of_lt (Nat.lt_of_lt_of_le hb hp)]
  rw [ea, eb]
  exact hk _ (by omega) (by exact_mod_cast hx)
theorem xor_natM (k : IntKind) (j : Nat) (hj : j ≤ k.bits) (hk : ∀ n : Int, 0 ≤ n → n < 2 ^ j → k.wrap n = n) (a b : Nat) (ha : a < 2 ^ j) (hb : b < 2 ^ j) : bits .xor k a b = ((a ^^^ b : Nat) : Int) := by
  have hp : 2 ^ j ≤ 2 ^ k.bits := Nat.pow_le_pow_right (by decide) hj
  have hx : a ^^^ b < 2 ^ j := Nat.xor_lt_two_pow ha hb
  simp only [bits, BitVec.toNat_xor, BitVec.toNat_ofInt]
  have ea : ((a : Int) % ((2 ^ k.bits : Nat) : Int)).toNat = a := by
    rw [← Int.natCast_emod, Int.toNat_natCast, Nat.mod_eq_of_lt (Nat.lt_of_lt_of_le ha hp)]
  have eb : ((b : Int) % ((2 ^ k.bits : Nat) : Int)).toNat = b := by
    rw [← Int.natCast_emod, Int.toNat_natCast, Nat.mod_eq_of_lt (Nat.lt_of_lt_of_le hb hp)]
  rw [ea, eb]
  exact hk _ (by omega) (by exact_mod_cast hx)
theorem or_u32 (a b : Nat) (ha : a < 4294967296) (hb : b < 4294967296) : bits .or .u32 a b = ((a ||| b : Nat) : Int) := or_nat .u32 32 (by decide) wraps_u32 a b ha hb
theorem xor_u32 (a b : Nat) (ha : a < 4294967296) (hb : b < 4294967296) : bits .xor .u32 a b = ((a ^^^ b : Nat) : Int) := xor_natM .u32 32 (by decide) wraps_u32 a b ha hb

theorem rot_bits (x n m k : Nat) (hx : x < 4294967296) (hm : m = 2 ^ n) (hk : k = 2 ^ (32 - n)) : bits .or .u32 ((x : Int) * (m : Int) % 4294967296) ((x : Int) / (k : Int)) = (rl x n : Nat) := by
  rw [show (x : Int) * (m : Int) % 4294967296 = ((x * m % 4294967296 : Nat) : Int) by simp, show (x : Int) / (k : Int) = ((x / k : Nat) : Int) by simp, or_u32 _ _ (Nat.mod_lt _ (by decide)) (Nat.lt_of_le_of_lt (Nat.div_le_self _ _) hx), hm, hk]
  rfl
set_option maxHeartbeats 1000000 in
set_option maxRecDepth 100000 in
theorem rot16_any (x : Nat) (hx : x < 4294967296) (w : World) :
    Calls Try.prog 74 #[.int .u32 x, .int .i64 16] w fun e w' => e = .returned (.int .u32 (rl x 16 : Nat)) ∧ w' = w := by
  have hr : bits .or .u32 ((x : Int) * 65536 % 4294967296) ((x : Int) / 65536) = (rl x 16 : Nat) := rot_bits x 16 65536 65536 hx (by decide) (by decide)
  have hm : bits .and .u64 16 31 = 16 := by decide
  clear hx
  go_enter Try.func74, Try.ntmps74
  go_wp2
  go_ret
  exact ⟨rfl, rfl⟩
set_option maxHeartbeats 1000000 in
set_option maxRecDepth 100000 in
theorem rot12_any (x : Nat) (hx : x < 4294967296) (w : World) :
    Calls Try.prog 74 #[.int .u32 x, .int .i64 12] w fun e w' => e = .returned (.int .u32 (rl x 12 : Nat)) ∧ w' = w := by
  have hr : bits .or .u32 ((x : Int) * 4096 % 4294967296) ((x : Int) / 1048576) = (rl x 12 : Nat) := rot_bits x 12 4096 1048576 hx (by decide) (by decide)
  have hm : bits .and .u64 12 31 = 12 := by decide
  clear hx
  go_enter Try.func74, Try.ntmps74
  go_wp2
  go_ret
  exact ⟨rfl, rfl⟩
set_option maxHeartbeats 1000000 in
set_option maxRecDepth 100000 in
theorem rotm12_any (x : Nat) (hx : x < 4294967296) (w : World) :
    Calls Try.prog 74 #[.int .u32 x, .int .i64 (-12)] w fun e w' => e = .returned (.int .u32 (rl x 20 : Nat)) ∧ w' = w := by
  have hr : bits .or .u32 ((x : Int) * 1048576 % 4294967296) ((x : Int) / 4096) = (rl x 20 : Nat) := rot_bits x 20 1048576 4096 hx (by decide) (by decide)
  have hm : bits .and .u64 (IntKind.u64.wrap (-12)) 31 = 20 := by decide
  clear hx
  go_enter Try.func74, Try.ntmps74
  go_wp2
  go_ret
  exact ⟨rfl, rfl⟩
set_option maxHeartbeats 1000000 in
set_option maxRecDepth 100000 in
theorem rotm16_any (x : Nat) (hx : x < 4294967296) (w : World) :
    Calls Try.prog 74 #[.int .u32 x, .int .i64 (-16)] w fun e w' => e = .returned (.int .u32 (rl x 16 : Nat)) ∧ w' = w := by
  have hr : bits .or .u32 ((x : Int) * 65536 % 4294967296) ((x : Int) / 65536) = (rl x 16 : Nat) := rot_bits x 16 65536 65536 hx (by decide) (by decide)
  have hm : bits .and .u64 (IntKind.u64.wrap (-16)) 31 = 16 := by decide
  clear hx
  go_enter Try.func74, Try.ntmps74
  go_wp2
  go_ret
  exact ⟨rfl, rfl⟩
end Go.Proofs.Ytckkhpegimkefaa
namespace Go.Proofs.Ytckkhpegimkefaa
open Go.RowKit
set_option linter.unusedVariables false

/-- a block as a value -/
def blkV (v : Blk) : Value := .agg #[.int .u32 (v.a : Nat), .int .u32 (v.b : Nat), .int .u32 (v.c : Nat), .int .u32 (v.d : Nat)]
/-- a block in memory -/
def BlkAt (w : World) (g : Nat) (v : Blk) : Prop := w.heap[g]? = some (.cells #[.int .u32 (v.a : Nat), .int .u32 (v.b : Nat), .int .u32 (v.c : Nat), .int .u32 (v.d : Nat)] 85)

theorem four_cases {P : Nat → Prop} (j : Nat) (h : j < 4) (h0 : P 0) (h1 : P 1) (h2 : P 2) (h3 : P 3) : P j := by
  match j, h with
  | 0, _ => exact h0
  | 1, _ => exact h1
  | 2, _ => exact h2
  | 3, _ => exact h3
theorem BlkAt.cell {w : World} {g : Nat} {v : Blk} (h : BlkAt w g v) (j : Nat) (hj : j < 4) : w.cell? ⟨g, j, none⟩ = some (.int .u32 (v.at j : Nat)) :=
  four_cases (P := fun j => w.cell? ⟨g, j, none⟩ = some (.int .u32 (v.at j : Nat))) j hj ((cell_of_row _ _ 0 _ _ _ h).trans rfl) ((cell_of_row _ _ 1 _ _ _ h).trans rfl) ((cell_of_row _ _ 2 _ _ _ h).trans rfl) ((cell_of_row _ _ 3 _ _ _ h).trans rfl)
theorem BlkAt.frozen {w : World} {g : Nat} {v : Blk} (h : BlkAt w g v) (j : Nat) : w.frozen? ⟨g, j, none⟩ = false := frozen_of_row _ _ j _ _ h
theorem one_new (w : World) (x : Obj) : Below w.heap.size w (w.alloc x) ∧ (w.alloc x).heap[w.heap.size]? = some x ∧ (w.alloc x).heap.size = w.heap.size + 1 :=
  ⟨(Below.refl _ _).alloc (Nat.le_refl _) _, heap_alloc_new w x, by simp⟩
theorem three_facts (w : World) (x y z : Obj) : Below w.heap.size w (((w.alloc x).alloc y).alloc z) ∧ (((w.alloc x).alloc y).alloc z).heap[w.heap.size]? = some x ∧ (((w.alloc x).alloc y).alloc z).heap[w.heap.size + 1]? = some y ∧ (((w.alloc x).alloc y).alloc z).heap[w.heap.size + 1 + 1]? = some z ∧ (((w.alloc x).alloc y).alloc z).heap.size = w.heap.size + 3 := by
  refine ⟨(((Below.refl _ w).alloc (Nat.le_refl _) x).alloc (by simp) y).alloc (by simp; omega) z, ?_, ?_, ?_, by simp⟩
  · rw [Below.heap_alloc _ _ _ (by simp; omega), Below.heap_alloc _ _ _ (by simp)]
    exact heap_alloc_new w x
  · rw [Below.heap_alloc _ _ _ (by simp)]
    have := heap_alloc_new (w.alloc x) y
    simpa using this
  · have := heap_alloc_new ((w.alloc x).alloc y) z
    simpa using this
theorem belowDrewM {base : Nat} {w w' : World} (h : Below base w w') : ∀ n, Below base w (w'.drewN n)
  | 0 => h
  | n + 1 => (belowDrewM h n).drew
theorem heap_drewM (w : World) : ∀ n, (w.drewN n).heap = w.heap
  | 0 => rfl
  | n + 1 => heap_drewM w n
theorem cast_mod (a b : Nat) (x : Int) (h : x = (a : Int)) (hb : b = a % 4294967296) : x % 4294967296 = (b : Int) := by
  rw [h, hb]; simp

set_option maxHeartbeats 2000000 in
set_option maxRecDepth 100000 in
theorem forth_any (k v : Blk) (hk : k.ok) (hv : v.ok) (w : World) :
    Calls Try.prog 47 #[blkV k, blkV v] w fun e w' => e = .returned (blkV (fwd k 12 v)) ∧ Below w.heap.size w w' := by
  unfold blkV
  go_enter Try.func47, Try.ntmps47
  go_wp2
  obtain ⟨hbel, q0, q1, q2, hsz⟩ := three_facts w (.cells #[.int .u32 (k.a : Nat), .int .u32 (k.b : Nat), .int .u32 (k.c : Nat), .int .u32 (k.d : Nat)] 85) (.cells #[.int .u32 (v.a : Nat), .int .u32 (v.b : Nat), .int .u32 (v.c : Nat), .int .u32 (v.d : Nat)] 85) (.cells #[.int .u32 0, .int .u32 0, .int .u32 0, .int .u32 0] 85)
  generalize ((w.alloc _).alloc _).alloc _ = W at hbel q0 q1 q2 hsz ⊢
  have hK : BlkAt W w.heap.size k := q0
  have hV : BlkAt W (w.heap.size + 1) v := q1
  have hZ : BlkAt W (w.heap.size + 1 + 1) zeroB := q2
  have s1 : w.heap.size + 1 + 1 < W.heap.size := by omega
  have v0 := hV.cell 0 (by omega)
  have v1 := hV.cell 1 (by omega)
  have v2 := hV.cell 2 (by omega)
  have v3 := hV.cell 3 (by omega)
  simp only [Blk.at] at v0 v1 v2 v3
  have HB := hide hbel
  have HK := hide hK
  have HZ := hide hZ
  clear q0 q1 q2 hsz hK hV hZ hbel
  go_quiet (fail)
  clear v0 v1 v2 v3
  go_wp2
  go_loop [5, 6, 7, 8, 18] (fun a b c d i => ∃ n : Nat, n ≤ 12 ∧ i = .int .i64 n ∧ a = .int .u32 ((fwd k n v).a : Nat) ∧ b = .int .u32 ((fwd k n v).b : Nat) ∧ c = .int .u32 ((fwd k n v).c : Nat) ∧ d = .int .u32 ((fwd k n v).d : Nat)) (fun _ _ _ _ i => 12 - (intOf i).toNat)
  case atStart => exact ⟨0, by omega, rfl, rfl, rfl, rfl, rfl⟩
  case round =>
    obtain ⟨n, hn, rfl, rfl, rfl, rfl, rfl⟩ := hrel
    have hf := fwd_ok k n v hv
    obtain ⟨u, hu⟩ : ∃ u, u = fwd k n v := ⟨_, rfl⟩
    rw [← hu] at hf ⊢
    by_cases hlt : n < 12
    · have hs : fwd k (n + 1) v = rnd k n u := by rw [fwd, hu]
      have HS := hide hs
      obtain ⟨m, hm⟩ : ∃ m, m = n % 4 := ⟨_, rfl⟩
      have m4 : m < 4 := by omega
      have hmi : (n : Int) % 4 = (m : Int) := by omega
      have hkm := Blk.at_lt hk m
      have hcell := (unhide HK).cell m m4
      obtain ⟨kk, hkk⟩ : ∃ kk, kk = k.at m := ⟨_, rfl⟩
      have lA := nextA_lt k n u
      have lD := nextD_lt k n u hf
      have lC := nextC_lt k n u
      have lB := nextB_lt k n u hf
      have eA : ((u.a : Int) + ((u.b : Int) + (kk : Int) + (n : Int) * 2654435769)) % 4294967296 = (nextA k n u : Nat) :=
        cast_mod (u.a + u.b + added k n) _ _ (by unfold added; rw [← hm, ← hkk]; omega) rfl
      have xD := xor_u32 u.d (nextA k n u) hf.2.2.2 lA
      have rD := fun w => rot16_any (u.d ^^^ nextA k n u) (xor_lt32 hf.2.2.2 lA) w
      have eC : ((u.c : Int) + (nextD k n u : Nat)) % 4294967296 = (nextC k n u : Nat) := cast_mod (u.c + nextD k n u) _ _ (by omega) rfl
      have xB := xor_u32 u.b (nextC k n u) hf.2.1 lC
      have rB := fun w => rot12_any (u.b ^^^ nextC k n u) (xor_lt32 hf.2.1 lC) w
      rw [show rl (u.d ^^^ nextA k n u) 16 = nextD k n u from rfl] at rD
      rw [show rl (u.b ^^^ nextC k n u) 12 = nextB k n u from rfl] at rB
      rw [rnd] at HS
      rw [← hkk] at hkm hcell
      obtain ⟨h1, h2, h3, h4⟩ := hf
      generalize nextA k n u = A at *
      generalize nextD k n u = D at *
      generalize nextC k n u = C at *
      generalize nextB k n u = B at *
      generalize u.d ^^^ A = xd at *
      generalize u.b ^^^ C = xb at *
      have RD := hide rD
      have RB := hide rB
      clear hs hu hm hkk rD rB
      go_wp2_with fail
      refine (unhide RD _).mono ?_
      rintro e w1 ⟨rfl, rfl⟩
      go_wp2_with fail
      refine (unhide RB _).mono ?_
      rintro e w1 ⟨rfl, rfl⟩
      go_wp2
      go_round
      case rel => exact ⟨n + 1, by omega, by go_num, by rw [unhide HS], by rw [unhide HS], by rw [unhide HS], by rw [unhide HS]⟩
      case measure => simp [intOf]; omega
    · have hn12 : n = 12 := by omega
      subst hn12
      have z0 := (unhide HZ).cell 0 (by omega)
      have z1 := (unhide HZ).cell 1 (by omega)
      have z2 := (unhide HZ).cell 2 (by omega)
      have z3 := (unhide HZ).cell 3 (by omega)
      have f0 := (unhide HZ).frozen 0
      have f1 := (unhide HZ).frozen 1
      have f2 := (unhide HZ).frozen 2
      have f3 := (unhide HZ).frozen 3
      simp only [Blk.at, zeroB] at z0 z1 z2 z3
      clear hf
      have HU := hide hu
      clear hu
      go_wp2
      exact bodyPost_ret (v := .agg #[.int .u32 (u.a : Nat), .int .u32 (u.b : Nat), .int .u32 (u.c : Nat), .int .u32 (u.d : Nat)]) (by simp [results, Try.results47, go_sem, z0, z1, z2, z3]) rfl ⟨by rw [unhide HU], ((((belowDrewM (unhide HB) _).setCell (by simp; omega) _).setCell (by simp; omega) _).setCell (by simp; omega) _).setCell (by simp; omega) _⟩
end Go.Proofs.Ytckkhpegimkefaa
namespace Go.Proofs.Ytckkhpegimkefaa
open Go.RowKit
set_option linter.unusedVariables false

theorem sub_words (x y : Nat) (hy : y < 4294967296) : ((x : Int) - (y : Int)) % 4294967296 = ((x + (4294967296 - y)) % 4294967296 : Nat) := by omega
theorem sub_words2 (x y : Nat) (z : Int) (hz : z = (y : Int)) : ((x : Int) - z % 4294967296) % 4294967296 = ((x + (4294967296 - y % 4294967296)) % 4294967296 : Nat) := by omega

end Go.Proofs.Ytckkhpegimkefaa
