/- The mill of the program: words, rounds, read, text. -/
import Derived.Test.YtajkbkljonejnaaGreatDoorM03
import Derived.Deep.QuietTactic
import Derived.BigQuiet
import Derived.Lib.Strings
import Derived.Deep.RegionWith
import Derived.Deep.DeepCutAuto
namespace Go.Proofs.YtajkbkljonejnaaGreatDoor
open Go.RowKit
set_option linter.unusedVariables false
theorem wraps_u32 (n : Int) (h₀ : 0 ≤ n) (h₁ : n < 2 ^ 32) : IntKind.u32.wrap n = n := by
  simp [IntKind.wrap, IntKind.bits, IntKind.signed]
  omega
theorem or_nat (k : IntKind) (j : Nat) (hj : j ≤ k.bits) (hk : ∀ n : Int, 0 ≤ n → n < 2 ^ j → k.wrap n = n) (a b : Nat) (ha : a < 2 ^ j) (hb : b < 2 ^ j) : bits .or k a b = ((a ||| b : Nat) : Int) := by
  have hp : 2 ^ j ≤ 2 ^ k.bits := Nat.pow_le_pow_right (by decide) hj
  have hx : a ||| b < 2 ^ j := Nat.or_lt_two_pow ha hb
  simp only [bits, BitVec.toNat_or, BitVec.toNat_ofInt]
  have ea : ((a : Int) % ((2 ^ k.bits : Nat) : Int)).toNat = a := by
    rw [← Int.natCast_emod, Int.toNat_natCast, Nat.mod_eq_of_lt (Nat.lt_of_lt_of_le ha hp)]
  have eb : ((b : Int) % ((2 ^ k.bits : Nat) : Int)).toNat = b := by
    rw [← Int.natCast_emod, Int.toNat_natCast, Nat.mod_eq_of_lt (Nat.lt_of_lt_of_le hb hp)]
  rw [ea, eb]
  exact hk _ (by omega) (by exact_mod_cast hx)
theorem xor_natM (k : IntKind) (j : Nat) (hj : j ≤ k.bits) (hk : ∀ n : Int, 0 ≤ n → n < 2 ^ j → k.wrap n = n) (a b : Nat) (ha : a < 2 ^ j) (hb : b < 2 ^ j) : bits .xor k a b = ((a ^^^ b : Nat) : Int) := by
  have hp : 2 ^ j ≤ 2 ^ k.bits := Nat.pow_le_pow_right (by decide) hj
  have hx : a ^^^ b < 2 ^ j := Nat.xor_lt_two_pow ha hb
  simp only [bits, BitVec.toNat_xor, BitVec.toNat_ofInt]
  have ea : ((a : Int) % ((2 ^ k.bits : Nat) : Int)).toNat = a := by
    rw [← Int.natCast_emod, Int.toNat_natCast, Nat.mod_eq_of_lt (Nat.lt_of_lt_of_le ha hp)]
  have eb : ((b : Int) % ((2 ^ k.bits : Nat) : Int)).toNat = b := by
    rw [← Int.natCast_emod, Int.toNat_natCast, Nat.mod_eq_of_lt (Nat.lt_of_lt_of_le hb hp)]
  rw [ea, eb]
  exact hk _ (by omega) (by exact_mod_cast hx)
theorem or_u32 (a b : Nat) (ha : a < 4294967296) (hb : b < 4294967296) : bits .or .u32 a b = ((a ||| b : Nat) : Int) := or_nat .u32 32 (by decide) wraps_u32 a b ha hb
theorem xor_u32 (a b : Nat) (ha : a < 4294967296) (hb : b < 4294967296) : bits .xor .u32 a b = ((a ^^^ b : Nat) : Int) := xor_natM .u32 32 (by decide) wraps_u32 a b ha hb
theorem rot_bits (x n m k : Nat) (hx : x < 4294967296) (hm : m = 2 ^ n) (hk : k = 2 ^ (32 - n)) : bits .or .u32 ((x : Int) * (m : Int) % 4294967296) ((x : Int) / (k : Int)) = (rl x n : Nat) := by
  rw [show (x : Int) * (m : Int) % 4294967296 = ((x * m % 4294967296 : Nat) : Int) by simp, show (x : Int) / (k : Int) = ((x / k : Nat) : Int) by simp, or_u32 _ _ (Nat.mod_lt _ (by decide)) (Nat.lt_of_le_of_lt (Nat.div_le_self _ _) hx), hm, hk]
  rfl
set_option maxHeartbeats 1000000 in
set_option maxRecDepth 100000 in
theorem rot16_any (x : Nat) (hx : x < 4294967296) (w : World) :
    Calls Tryz.prog 113 #[.int .u32 x, .int .i64 16] w fun e w' => e = .returned (.int .u32 (rl x 16 : Nat)) ∧ w' = w := by
  have hr : bits .or .u32 ((x : Int) * 65536 % 4294967296) ((x : Int) / 65536) = (rl x 16 : Nat) := rot_bits x 16 65536 65536 hx (by decide) (by decide)
  have hm : bits .and .u64 16 31 = 16 := by decide
  clear hx
  go_enter Tryz.func113, Tryz.ntmps113
  go_wp2
  go_ret
  exact ⟨rfl, rfl⟩
set_option maxHeartbeats 1000000 in
set_option maxRecDepth 100000 in
theorem rot12_any (x : Nat) (hx : x < 4294967296) (w : World) :
    Calls Tryz.prog 113 #[.int .u32 x, .int .i64 12] w fun e w' => e = .returned (.int .u32 (rl x 12 : Nat)) ∧ w' = w := by
  have hr : bits .or .u32 ((x : Int) * 4096 % 4294967296) ((x : Int) / 1048576) = (rl x 12 : Nat) := rot_bits x 12 4096 1048576 hx (by decide) (by decide)
  have hm : bits .and .u64 12 31 = 12 := by decide
  clear hx
  go_enter Tryz.func113, Tryz.ntmps113
  go_wp2
  go_ret
  exact ⟨rfl, rfl⟩
end Go.Proofs.YtajkbkljonejnaaGreatDoor
namespace Go.Proofs.YtajkbkljonejnaaGreatDoor
open Go.RowKit
set_option linter.unusedVariables false
def blkV (v : Blk) : Value := .agg #[.int .u32 (v.a : Nat), .int .u32 (v.b : Nat), .int .u32 (v.c : Nat), .int .u32 (v.d : Nat)]
def BlkAt (w : World) (g : Nat) (v : Blk) : Prop := w.heap[g]? = some (.cells #[.int .u32 (v.a : Nat), .int .u32 (v.b : Nat), .int .u32 (v.c : Nat), .int .u32 (v.d : Nat)] 131)
theorem four_cases {P : Nat → Prop} (j : Nat) (h : j < 4) (h0 : P 0) (h1 : P 1) (h2 : P 2) (h3 : P 3) : P j := by
  match j, h with
  | 0, _ => exact h0
  | 1, _ => exact h1
  | 2, _ => exact h2
  | 3, _ => exact h3
theorem BlkAt.cell {w : World} {g : Nat} {v : Blk} (h : BlkAt w g v) (j : Nat) (hj : j < 4) : w.cell? ⟨g, j, none⟩ = some (.int .u32 (v.at j : Nat)) :=
  four_cases (P := fun j => w.cell? ⟨g, j, none⟩ = some (.int .u32 (v.at j : Nat))) j hj ((cell_of_row _ _ 0 _ _ _ h).trans rfl) ((cell_of_row _ _ 1 _ _ _ h).trans rfl) ((cell_of_row _ _ 2 _ _ _ h).trans rfl) ((cell_of_row _ _ 3 _ _ _ h).trans rfl)
theorem BlkAt.frozen {w : World} {g : Nat} {v : Blk} (h : BlkAt w g v) (j : Nat) : w.frozen? ⟨g, j, none⟩ = false := frozen_of_row _ _ j _ _ h
theorem one_new (w : World) (x : Obj) : Below w.heap.size w (w.alloc x) ∧ (w.alloc x).heap[w.heap.size]? = some x ∧ (w.alloc x).heap.size = w.heap.size + 1 :=
  ⟨(Below.refl _ _).alloc (Nat.le_refl _) _, heap_alloc_new w x, by simp⟩
theorem three_facts (w : World) (x y z : Obj) : Below w.heap.size w (((w.alloc x).alloc y).alloc z) ∧ (((w.alloc x).alloc y).alloc z).heap[w.heap.size]? = some x ∧ (((w.alloc x).alloc y).alloc z).heap[w.heap.size + 1]? = some y ∧ (((w.alloc x).alloc y).alloc z).heap[w.heap.size + 1 + 1]? = some z ∧ (((w.alloc x).alloc y).alloc z).heap.size = w.heap.size + 3 := by
  refine ⟨(((Below.refl _ w).alloc (Nat.le_refl _) x).alloc (by simp) y).alloc (by simp; omega) z, ?_, ?_, ?_, by simp⟩
  · rw [Below.heap_alloc _ _ _ (by simp; omega), Below.heap_alloc _ _ _ (by simp)]
    exact heap_alloc_new w x
  · rw [Below.heap_alloc _ _ _ (by simp)]
    have := heap_alloc_new (w.alloc x) y
    simpa using this
  · have := heap_alloc_new ((w.alloc x).alloc y) z
    simpa using this
theorem belowDrewM {base : Nat} {w w' : World} (h : Below base w w') : ∀ n, Below base w (w'.drewN n)
  | 0 => h
  | n + 1 => (belowDrewM h n).drew
theorem heap_drewM (w : World) : ∀ n, (w.drewN n).heap = w.heap
  | 0 => rfl
  | n + 1 => heap_drewM w n
theorem cast_mod (a b : Nat) (x : Int) (h : x = (a : Int)) (hb : b = a % 4294967296) : x % 4294967296 = (b : Int) := by
  rw [h, hb]; simp
set_option maxHeartbeats 2000000 in
set_option maxRecDepth 100000 in
theorem forth_any (k v : Blk) (hk : k.ok) (hv : v.ok) (w : World) :
    Calls Tryz.prog 78 #[blkV k, blkV v] w fun e w' => e = .returned (blkV (fwd k 12 v)) ∧ Below w.heap.size w w' := by
  unfold blkV
  go_enter Tryz.func78, Tryz.ntmps78
  go_wp2
  obtain ⟨hbel, q0, q1, q2, hsz⟩ := three_facts w (.cells #[.int .u32 (k.a : Nat), .int .u32 (k.b : Nat), .int .u32 (k.c : Nat), .int .u32 (k.d : Nat)] 131) (.cells #[.int .u32 (v.a : Nat), .int .u32 (v.b : Nat), .int .u32 (v.c : Nat), .int .u32 (v.d : Nat)] 131) (.cells #[.int .u32 0, .int .u32 0, .int .u32 0, .int .u32 0] 131)
  generalize ((w.alloc _).alloc _).alloc _ = W at hbel q0 q1 q2 hsz ⊢
  have hK : BlkAt W w.heap.size k := q0
  have hV : BlkAt W (w.heap.size + 1) v := q1
  have hZ : BlkAt W (w.heap.size + 1 + 1) zeroB := q2
  have s1 : w.heap.size + 1 + 1 < W.heap.size := by omega
  have v0 := hV.cell 0 (by omega)
  have v1 := hV.cell 1 (by omega)
  have v2 := hV.cell 2 (by omega)
  have v3 := hV.cell 3 (by omega)
  simp only [Blk.at] at v0 v1 v2 v3
  have HB := hide hbel
  have HK := hide hK
  have HZ := hide hZ
  clear q0 q1 q2 hsz hK hV hZ hbel
  go_quiet (fail)
  clear v0 v1 v2 v3
  go_wp2
  go_loop [5, 6, 7, 8, 18] (fun a b c d i => ∃ n : Nat, n ≤ 12 ∧ i = .int .i64 n ∧ a = .int .u32 ((fwd k n v).a : Nat) ∧ b = .int .u32 ((fwd k n v).b : Nat) ∧ c = .int .u32 ((fwd k n v).c : Nat) ∧ d = .int .u32 ((fwd k n v).d : Nat)) (fun _ _ _ _ i => 12 - (intOf i).toNat)
  case atStart => exact ⟨0, by omega, rfl, rfl, rfl, rfl, rfl⟩
  case round =>
    obtain ⟨n, hn, rfl, rfl, rfl, rfl, rfl⟩ := hrel
    have hf := fwd_ok k n v hv
    obtain ⟨u, hu⟩ : ∃ u, u = fwd k n v := ⟨_, rfl⟩
    rw [← hu] at hf ⊢
    by_cases hlt : n < 12
    · have hs : fwd k (n + 1) v = rnd k n u := by rw [fwd, hu]
      have HS := hide hs
      obtain ⟨m, hm⟩ : ∃ m, m = n % 4 := ⟨_, rfl⟩
      have m4 : m < 4 := by omega
      have hmi : (n : Int) % 4 = (m : Int) := by omega
      have hkm := Blk.at_lt hk m
      have hcell := (unhide HK).cell m m4
      obtain ⟨kk, hkk⟩ : ∃ kk, kk = k.at m := ⟨_, rfl⟩
      have lA := nextA_lt k n u
      have lD := nextD_lt k n u hf
      have lC := nextC_lt k n u
      have lB := nextB_lt k n u hf
      have eA : ((u.a : Int) + ((u.b : Int) + (kk : Int) + (n : Int) * 2654435769)) % 4294967296 = (nextA k n u : Nat) :=
        cast_mod (u.a + u.b + added k n) _ _ (by unfold added; rw [← hm, ← hkk]; omega) rfl
      have xD := xor_u32 u.d (nextA k n u) hf.2.2.2 lA
      have rD := fun w => rot16_any (u.d ^^^ nextA k n u) (xor_lt32 hf.2.2.2 lA) w
      have eC : ((u.c : Int) + (nextD k n u : Nat)) % 4294967296 = (nextC k n u : Nat) := cast_mod (u.c + nextD k n u) _ _ (by omega) rfl
      have xB := xor_u32 u.b (nextC k n u) hf.2.1 lC
      have rB := fun w => rot12_any (u.b ^^^ nextC k n u) (xor_lt32 hf.2.1 lC) w
      rw [show rl (u.d ^^^ nextA k n u) 16 = nextD k n u from rfl] at rD
      rw [show rl (u.b ^^^ nextC k n u) 12 = nextB k n u from rfl] at rB
      rw [rnd] at HS
      rw [← hkk] at hkm hcell
      obtain ⟨h1, h2, h3, h4⟩ := hf
      generalize nextA k n u = A at *
      generalize nextD k n u = D at *
      generalize nextC k n u = C at *
      generalize nextB k n u = B at *
      generalize u.d ^^^ A = xd at *
      generalize u.b ^^^ C = xb at *
      have RD := hide rD
      have RB := hide rB
      clear hs hu hm hkk rD rB
      go_wp2_with fail
      refine (unhide RD _).mono ?_
      rintro e w1 ⟨rfl, rfl⟩
      go_wp2_with fail
      refine (unhide RB _).mono ?_
      rintro e w1 ⟨rfl, rfl⟩
      go_wp2
      go_round
      case rel => exact ⟨n + 1, by omega, by go_num, by rw [unhide HS], by rw [unhide HS], by rw [unhide HS], by rw [unhide HS]⟩
      case measure => simp [intOf]; omega
    · have hn12 : n = 12 := by omega
      subst hn12
      have z0 := (unhide HZ).cell 0 (by omega)
      have z1 := (unhide HZ).cell 1 (by omega)
      have z2 := (unhide HZ).cell 2 (by omega)
      have z3 := (unhide HZ).cell 3 (by omega)
      have f0 := (unhide HZ).frozen 0
      have f1 := (unhide HZ).frozen 1
      have f2 := (unhide HZ).frozen 2
      have f3 := (unhide HZ).frozen 3
      simp only [Blk.at, zeroB] at z0 z1 z2 z3
      clear hf
      have HU := hide hu
      clear hu
      go_wp2
      exact bodyPost_ret (v := .agg #[.int .u32 (u.a : Nat), .int .u32 (u.b : Nat), .int .u32 (u.c : Nat), .int .u32 (u.d : Nat)]) (by simp [results, Tryz.results78, go_sem, z0, z1, z2, z3]) rfl ⟨by rw [unhide HU], ((((belowDrewM (unhide HB) _).setCell (by simp; omega) _).setCell (by simp; omega) _).setCell (by simp; omega) _).setCell (by simp; omega) _⟩
end Go.Proofs.YtajkbkljonejnaaGreatDoor
namespace Go.Proofs.YtajkbkljonejnaaGreatDoor
open Go.RowKit
set_option linter.unusedVariables false
end Go.Proofs.YtajkbkljonejnaaGreatDoor
namespace Go.Proofs.YtajkbkljonejnaaGreatDoor
open Go.RowKit
set_option linter.unusedVariables false
def partW (l : List UInt8) (k j : Nat) : Nat := valN ((l.drop (4 * j)).take (min 4 (k - 4 * j)))
def partB (l : List UInt8) (k : Nat) : Blk := ⟨partW l k 0, partW l k 1, partW l k 2, partW l k 3⟩
theorem partB_at (l : List UInt8) (k j : Nat) (h : j < 4) : (partB l k).at j = partW l k j :=
  four_cases (P := fun j => (partB l k).at j = partW l k j) j h rfl rfl rfl rfl
theorem partW_lt (l : List UInt8) (k j : Nat) (h : j = k / 4) : partW l k j < 16777216 := by
  have h1 := valN_lt ((l.drop (4 * j)).take (min 4 (k - 4 * j)))
  have h2 : 256 ^ ((l.drop (4 * j)).take (min 4 (k - 4 * j))).length ≤ 256 ^ 3 := Nat.pow_le_pow_right (by omega) (by simp; omega)
  unfold partW
  omega
theorem partW_step (l : List UInt8) (k j : Nat) (h : j = k / 4) (c : UInt8) (hc : l[k]? = some c) : partW l (k + 1) j = partW l k j * 256 + c.toNat := by
  unfold partW
  rw [show min 4 (k + 1 - 4 * j) = k % 4 + 1 by omega, show min 4 (k - 4 * j) = k % 4 by omega, List.take_add_one, List.getElem?_drop, show 4 * j + k % 4 = k by omega, hc]
  exact valN_snoc _ _
theorem partW_other (l : List UInt8) (k j : Nat) (h : j ≠ k / 4) : partW l (k + 1) j = partW l k j := by
  unfold partW
  rw [show min 4 (k + 1 - 4 * j) = min 4 (k - 4 * j) by omega]
theorem partB_zero (l : List UInt8) : partB l 0 = zeroB := by
  simp [partB, partW, zeroB, valN]
theorem partB_whole (l : List UInt8) : partB l 16 = blkOf l := rfl
def Blk.put (v : Blk) (j x : Nat) : Blk :=
  match j with
  | 0 => ⟨x, v.b, v.c, v.d⟩
  | 1 => ⟨v.a, x, v.c, v.d⟩
  | 2 => ⟨v.a, v.b, x, v.d⟩
  | _ => ⟨v.a, v.b, v.c, x⟩
theorem partB_step (l : List UInt8) (k : Nat) (hk : k < 16) (c : UInt8) (hc : l[k]? = some c) : (partB l k).put (k / 4) (partW l k (k / 4) * 256 + c.toNat) = partB l (k + 1) := by
  have hs := partW_step l k (k / 4) rfl c hc
  rw [← hs]
  obtain ⟨q, hq⟩ : ∃ q, q = k / 4 := ⟨_, rfl⟩
  have hq4 : q < 4 := by omega
  have ho := fun j (h : j ≠ q) => (partW_other l k j (by omega))
  rw [← hq]
  refine four_cases (P := fun q => (∀ j, j ≠ q → partW l (k + 1) j = partW l k j) → (partB l k).put q (partW l (k + 1) q) = partB l (k + 1)) q hq4 ?_ ?_ ?_ ?_ ho
  all_goals
    intro ho
    simp only [Blk.put, partB, Blk.mk.injEq, true_and]
  · exact ⟨(ho 1 (by omega)).symm, (ho 2 (by omega)).symm, (ho 3 (by omega)).symm⟩
  · exact ⟨(ho 0 (by omega)).symm, (ho 2 (by omega)).symm, (ho 3 (by omega)).symm⟩
  · exact ⟨(ho 0 (by omega)).symm, (ho 1 (by omega)).symm, (ho 3 (by omega)).symm⟩
  · exact ⟨(ho 0 (by omega)).symm, (ho 1 (by omega)).symm, (ho 2 (by omega)).symm, trivial⟩
theorem set_rowM {w : World} {g j : Nat} {cs : Array Value} {e : TypeId} {fr : Nat × Nat} {v : Value} (h : w.heap[g]? = some (.cells cs e fr)) : (w.setCell ⟨g, j, none⟩ v).heap[g]? = some (.cells (cs.setIfInBounds j v) e fr) := by
  simp [World.setCell, Array.getElem?_modify, h]
theorem BlkAt.set {w : World} {g : Nat} {v : Blk} (h : BlkAt w g v) (j : Nat) (hj : j < 4) (x : Nat) : BlkAt (w.setCell ⟨g, j, none⟩ (.int .u32 (x : Nat))) g (v.put j x) :=
  four_cases (P := fun j => BlkAt (w.setCell ⟨g, j, none⟩ (.int .u32 (x : Nat))) g (v.put j x)) j hj ((set_rowM h).trans rfl) ((set_rowM h).trans rfl) ((set_rowM h).trans rfl) ((set_rowM h).trans rfl)
theorem BlkAt.other {w : World} {g : Nat} {v : Blk} (h : BlkAt w g v) (b j : Nat) (hb : b ≠ g) (x : Value) : BlkAt (w.setCell ⟨b, j, none⟩ x) g v := by
  unfold BlkAt at *
  rw [← h]
  simp [World.setCell, Array.getElem?_modify, hb]
theorem two_newM (w : World) (x y : Obj) : Below w.heap.size w ((w.alloc x).alloc y) ∧ ((w.alloc x).alloc y).heap[w.heap.size]? = some x ∧ ((w.alloc x).alloc y).heap[w.heap.size + 1]? = some y ∧ ((w.alloc x).alloc y).heap.size = w.heap.size + 2 := by
  refine ⟨((Below.refl _ w).alloc (Nat.le_refl _) x).alloc (by simp) y, ?_, ?_, by simp⟩
  · rw [Below.heap_alloc _ _ _ (by simp)]
    exact heap_alloc_new w x
  · have := heap_alloc_new (w.alloc x) y
    simpa using this
theorem or_byte (p c : Nat) (hp : p < 16777216) (hc : c < 256) : bits .or .u32 ((p : Int) * 256) (c : Int) = ((p * 256 + c : Nat) : Int) := by
  rw [show (p : Int) * 256 = ((p * 256 : Nat) : Int) by omega, or_u32 _ _ (by omega) (by omega), show p * 256 = p * 2 ^ 8 by omega, or_add _ _ 8 (by omega)]
set_option maxHeartbeats 2000000 in
set_option maxRecDepth 100000 in
theorem read_any (s : ByteArray) (hs : 16 ≤ s.size) (w : World) :
    Calls Tryz.prog 76 #[.string s] w fun e w' => e = .returned (blkV (blkOf s.data.toList)) ∧ Below w.heap.size w w' := by
  unfold blkV
  go_enter Tryz.func76, Tryz.ntmps76
  go_wp2
  obtain ⟨hbel, q0, q1, hsz⟩ := two_newM w (.cells #[.int .u32 0, .int .u32 0, .int .u32 0, .int .u32 0] 131) (.cells #[.int .u32 0, .int .u32 0, .int .u32 0, .int .u32 0] 131)
  generalize (w.alloc _).alloc _ = W at hbel q0 q1 hsz ⊢
  have hZ : BlkAt W w.heap.size zeroB := q0
  have hA : BlkAt W (w.heap.size + 1) (partB s.data.toList 0) := by rw [partB_zero]; exact q1
  clear q0 q1
  go_loopw [5] (fun i wr => ∃ k : Nat, k ≤ 16 ∧ i = .int .i64 k ∧ BlkAt wr w.heap.size zeroB ∧ BlkAt wr (w.heap.size + 1) (partB s.data.toList k) ∧ Below w.heap.size w wr) (fun i _ => 16 - (intOf i).toNat)
  case atStart => exact ⟨0, by omega, rfl, hZ, hA, hbel⟩
  case round =>
    obtain ⟨k, hk, rfl, hZ, hA, hB⟩ := hrel
    by_cases hlt : k < 16
    · obtain ⟨q, hq⟩ : ∃ q, q = k / 4 := ⟨_, rfl⟩
      have hq4 : q < 4 := by omega
      have hqi : (k : Int) / 4 = (q : Int) := by omega
      have hks : k < s.size := by omega
      have hc : s.data.toList[k]? = some s[k] := by
        rw [List.getElem?_eq_getElem (by simpa using hks)]; rfl
      have hst := partB_step s.data.toList k hlt s[k] hc
      have hcell := hA.cell q hq4
      have hfz := hA.frozen q
      rw [partB_at _ _ _ hq4] at hcell
      rw [← hq] at hst
      have hpl := partW_lt s.data.toList k q hq
      have hor := or_byte (partW s.data.toList k q) s[k].toNat hpl s[k].toNat_lt
      have hset := hA.set q hq4 (partW s.data.toList k q * 256 + s[k].toNat)
      rw [hst] at hset
      obtain ⟨c, hcc⟩ : ∃ c, c = s[k].toNat := ⟨_, rfl⟩
      have hc2 : c < 256 := by rw [hcc]; exact s[k].toNat_lt
      have hcb : ∀ h : k < s.size, ((s[k]'h).toNat : Int) = (c : Int) := fun _ => by rw [hcc]
      rw [← hcc] at hor hset
      generalize partW s.data.toList k q = p at *
      have HS := hide hset
      have HZ := hide hZ
      have HB := hide hB
      clear hst hq hset hZ hA hB hcc hc
      go_wp2_with fail
      go_region
      go_wp2
      go_roundw
      case rel => exact ⟨k + 1, by omega, by go_num, (unhide HZ).other _ _ (by omega) _, unhide HS, (((unhide HB).setCell (Nat.le_succ _) _)).drew⟩
      case measure => simp [intOf]; omega
    · have hk16 : k = 16 := by omega
      subst hk16
      rw [partB_whole] at hA
      have a0 := hA.cell 0 (by omega)
      have a1 := hA.cell 1 (by omega)
      have a2 := hA.cell 2 (by omega)
      have a3 := hA.cell 3 (by omega)
      have z0 := hZ.cell 0 (by omega)
      have z1 := hZ.cell 1 (by omega)
      have z2 := hZ.cell 2 (by omega)
      have z3 := hZ.cell 3 (by omega)
      have f0 := hZ.frozen 0
      have f1 := hZ.frozen 1
      have f2 := hZ.frozen 2
      have f3 := hZ.frozen 3
      simp only [Blk.at, zeroB] at z0 z1 z2 z3
      simp only [Blk.at] at a0 a1 a2 a3
      have HB := hide hB
      obtain ⟨u, hu⟩ : ∃ u, u = blkOf s.data.toList := ⟨_, rfl⟩
      rw [← hu] at a0 a1 a2 a3
      have HU := hide hu
      clear hA hZ hB hu
      go_wp2
      exact bodyPost_ret (v := .agg #[.int .u32 (u.a : Nat), .int .u32 (u.b : Nat), .int .u32 (u.c : Nat), .int .u32 (u.d : Nat)]) (by simp [results, Tryz.results76, go_sem, z0, z1, z2, z3]) rfl ⟨by rw [unhide HU], (((((unhide HB).setCell (Nat.le_refl _) _).setCell (Nat.le_refl _) _).setCell (Nat.le_refl _) _).setCell (Nat.le_refl _) _)⟩
def outAt (v : Blk) (j : Nat) : List Int := (blkL v).take j ++ List.replicate (16 - j) 0
theorem outAt_length (v : Blk) (j : Nat) (h : j ≤ 16) : (outAt v j).length = 16 := by simp [outAt, blkL_length]; omega
theorem outAt_zero (v : Blk) : outAt v 0 = List.replicate 16 0 := rfl
theorem outAt_whole (v : Blk) : outAt v 16 = blkL v := by
  rw [outAt, List.take_of_length_le (by rw [blkL_length]; omega)]; simp
theorem outAt_set (v : Blk) (j : Nat) (h : j < 16) (x : Int) (hx : (blkL v)[j]? = some x) : (outAt v j).set j x = outAt v (j + 1) := by
  unfold outAt
  have hl : ((blkL v).take j).length = j := by rw [List.length_take, blkL_length]; omega
  rw [List.take_add_one, hx, show 16 - j = (16 - (j + 1)) + 1 by omega, List.replicate_succ, List.set_append_right _ _ (by omega), hl, Nat.sub_self]
  simp
theorem blkL_at (v : Blk) (j : Nat) (h : j < 16) : (blkL v)[j]? = some ((v.at (j / 4) / 2 ^ (8 * (3 - j % 4)) % 256 : Nat) : Int) := by
  have : j = 0 ∨ j = 1 ∨ j = 2 ∨ j = 3 ∨ j = 4 ∨ j = 5 ∨ j = 6 ∨ j = 7 ∨ j = 8 ∨ j = 9 ∨ j = 10 ∨ j = 11 ∨ j = 12 ∨ j = 13 ∨ j = 14 ∨ j = 15 := by omega
  rcases this with rfl | rfl | rfl | rfl | rfl | rfl | rfl | rfl | rfl | rfl | rfl | rfl | rfl | rfl | rfl | rfl <;> rfl
theorem made_zeros (n : Nat) : (madeCells #[Value.int .u8 0] n).toList = (List.replicate n (0 : Int)).map (Value.int .u8) := by
  rw [List.map_replicate]
  apply List.ext_getElem
  · simp [madeCells]
  · intro i h1 h2
    simp [madeCells, Nat.mod_one]
set_option maxHeartbeats 2000000 in
set_option maxRecDepth 100000 in
theorem mtext_any (v : Blk) (hv : v.ok) (w : World) :
    Calls Tryz.prog 79 #[blkV v] w fun e w' => e = .returned (.string (blkS v)) ∧ Below w.heap.size w w' := by
  unfold blkV
  obtain ⟨i0, hi, hz0, hz1, hz2⟩ := info_parts infoByte
  go_enter Tryz.func79, Tryz.ntmps79
  go_wp2_with (at_make; refine wpList_make_full _ rfl _ _ 55 rfl (w.heap.size + 1) 5 i0 (.int .u8 0) 1 Tryz.underlying55 hi hz0 hz1 .i64 .i64 _ _ 16 rfl rfl rfl rfl (by rw [hz2]; omega) (by unfold maxLen; omega) (by simp) ?_)
  intro w1 hown hgrow
  obtain ⟨hbel, q0, hsz⟩ := one_new w (.cells #[.int .u32 (v.a : Nat), .int .u32 (v.b : Nat), .int .u32 (v.c : Nat), .int .u32 (v.d : Nat)] 131)
  generalize w.alloc _ = W at hbel q0 hsz hown hgrow ⊢
  have hA : BlkAt W w.heap.size v := q0
  rw [made_zeros, ← outAt_zero v] at hown
  have hb0 : Below W.heap.size W w1 := (Below.refl _ _).grown hgrow (Nat.le_refl _) (fun q hq => by cases hq)
  have hb : Below w.heap.size w w1 := hbel.trans (hb0.mono (by omega))
  have hA1 : BlkAt w1 w.heap.size v := by
    unfold BlkAt
    rw [hb0.block _ (by omega)]
    exact hA
  clear hgrow hi hz0 hz1 hz2 hb0 hA q0
  go_wp2
  go_loopw [8] (fun i wr => ∃ j : Nat, j ≤ 16 ∧ i = .int .i64 j ∧ BlkAt wr w.heap.size v ∧ wr.ownsRow (w.heap.size + 1) 5 1 (.slice (some ⟨(w.heap.size + 1), 0, none⟩) 16 16) 16 ((outAt v j).map (Value.int .u8)) ∧ Below w.heap.size w wr)
    (fun i _ => 16 - (intOf i).toNat)
  case atStart => exact ⟨0, Nat.zero_le _, rfl, hA1, hown, hb⟩
  case round =>
    obtain ⟨j, hj, rfl, hA, hown, hnx⟩ := hrel
    by_cases hlt : j < 16
    · obtain ⟨q, hq⟩ : ∃ q, q = j / 4 := ⟨_, rfl⟩
      obtain ⟨c, hc⟩ : ∃ c, c = 8 * (3 - j % 4) := ⟨_, rfl⟩
      have hq4 : q < 4 := by omega
      have hqi : (j : Int) / 4 = (q : Int) := by omega
      have hci : (24 : Int) - (j : Int) % 4 * 8 = (c : Int) := by omega
      have hc24 : c ≤ 24 := by omega
      have hcell := hA.cell q hq4
      have hvl := Blk.at_lt hv q
      have hx := blkL_at v j hlt
      rw [← hq, ← hc] at hx
      have hfz := hown.frozenAt j
      have hca : wr.cell? ⟨w.heap.size + 1, j, none⟩ = some (.int .u8 ((outAt v j).getD j 0)) := by
        rw [hown.cellAt j (by omega)]
        simp [List.getElem?_eq_getElem (show j < (outAt v j).length by rw [outAt_length _ _ hj]; omega)]
      have hset := (hown.stored j (.int .u8 ((v.at q / 2 ^ c % 256 : Nat) : Int))).1
      rw [← List.map_set, outAt_set v j hlt _ hx] at hset
      generalize v.at q = x at *
      have hdiv : (x : Int) / 2 ^ c % 256 = ((x / 2 ^ c % 256 : Nat) : Int) := by simp
      have HS := hide hset
      have HA := hide hA
      have HB := hide hnx
      have hne : (w.heap.size + 1) ≠ w.heap.size := by omega
      clear hset hown hA hnx hx hq hc
      generalize x / 2 ^ c % 256 = y at *
      go_wp2
      go_roundw
      case rel => exact ⟨j + 1, by omega, by go_num, (unhide HA).other _ _ hne _, unhide HS, (unhide HB).setCell (Nat.le_succ _) _⟩
      case measure => simp [intOf]; omega
    · have hkl : j = 16 := by omega
      subst hkl
      rcases owned_cells hown with ⟨hv, hn⟩ | ⟨g, cap', hv, _, hcl⟩
      · simp at hv
      · simp only [Value.slice.injEq, Option.some.injEq, Addr.mk.injEq, and_true, true_and] at hv
        obtain ⟨hg, hcap⟩ := hv
        subst hg hcap
        have hcv := run_convert_bytes_arg (P := Tryz.prog) wr 55 5 Tryz.underlying55 Tryz.underlying5 (w.heap.size + 1) 0 16 16 _ (by rw [outAt_length _ _ (by omega)]) hcl 9 Tryz.underlying9
        rw [outAt_whole] at hcv
        clear hown hcl hA
        go_wp2
        go_ret
        exact ⟨rfl, hnx⟩
end Go.Proofs.YtajkbkljonejnaaGreatDoor
namespace Go.Proofs.YtajkbkljonejnaaGreatDoor
open Go.RowKit
set_option linter.unusedVariables false
theorem len_eq (s : ByteArray) (h : s.size = 16) : ((s.size : Int) != 16) = false := by rw [bne_eq_false_iff_eq]; omega
set_option maxHeartbeats 2000000 in
set_option maxRecDepth 100000 in
theorem stir_forth (k s : ByteArray) (hk : k.size = 16) (hs : s.size = 16) (w : World) :
    Calls Tryz.prog 114 #[.string k, .string s, .func (.func 78) #[] #[]] w fun e w' => e = .returned (.tuple #[.string (turnS k s), .int .i64 0]) ∧ Below w.heap.size w w' := by
  have r1 := fun w => read_any k (by omega) w
  have r2 := fun w => read_any s (by omega) w
  have r3 := fun w => forth_any (blkOf k.data.toList) (blkOf s.data.toList) (blkOf_ok _) (blkOf_ok _) w
  have r4 := fun w => mtext_any (fwd (blkOf k.data.toList) 12 (blkOf s.data.toList)) (fwd_ok _ _ _ (blkOf_ok _)) w
  have e4 : blkS (fwd (blkOf k.data.toList) 12 (blkOf s.data.toList)) = turnS k s := rfl
  rw [e4] at r4
  have t1 := len_eq k hk
  have t2 := len_eq s hs
  generalize turnS k s = t at *
  generalize fwd (blkOf k.data.toList) 12 (blkOf s.data.toList) = v at *
  generalize blkOf k.data.toList = a at *
  generalize blkOf s.data.toList = b at *
  generalize blkV a = av at *
  generalize blkV b = bv at *
  generalize blkV v = vv at *
  have R1 := hide r1; have R2 := hide r2; have R3 := hide r3; have R4 := hide r4
  clear r1 r2 r3 r4 e4 hk hs
  go_enter Tryz.func114, Tryz.ntmps114
  go_wp2_with fail
  refine (unhide R1 _).mono ?_
  rintro e x1 ⟨rfl, b1⟩
  go_wp2_with fail
  refine (unhide R2 _).mono ?_
  rintro e x2 ⟨rfl, b2⟩
  go_wp2_with fail
  refine (unhide R3 _).mono ?_
  rintro e x3 ⟨rfl, b3⟩
  go_wp2_with fail
  refine (unhide R4 _).mono ?_
  rintro e x4 ⟨rfl, b4⟩
  go_wp2
  go_ret2
  have h2 := b1.trans (b2.mono b1.size)
  have h3 := h2.trans (b3.mono h2.size)
  exact ⟨rfl, h3.trans (b4.mono h3.size)⟩
theorem turn_yes (k s : ByteArray) (hk : k.size = 16) (hs : s.size = 16) (w : World) :
    Calls Tryz.prog 80 #[.string k, .string s] w fun e w' => e = .returned (.tuple #[.string (turnS k s), .int .i64 0]) ∧ Below w.heap.size w w' := by
  go_enter Tryz.func80, Tryz.ntmps80
  go_wp2_with fail
  refine (stir_forth k s hk hs _).mono ?_
  rintro e x1 ⟨rfl, b1⟩
  go_wp2
  go_ret2
  exact ⟨rfl, b1⟩
end Go.Proofs.YtajkbkljonejnaaGreatDoor
namespace Go.Proofs.YtajkbkljonejnaaGreatDoor
open Go.RowKit
set_option linter.unusedVariables false
def mixB (u v : Blk) (k : Nat) : Blk := ⟨if 0 < k then u.a ^^^ v.a else u.a, if 1 < k then u.b ^^^ v.b else u.b, if 2 < k then u.c ^^^ v.c else u.c, if 3 < k then u.d ^^^ v.d else u.d⟩
theorem mixB_four (u v : Blk) : mixB u v 4 = xorB u v := rfl
theorem mixB_step (u v : Blk) (k : Nat) (h : k < 4) : (mixB u v k).put k (u.at k ^^^ v.at k) = mixB u v (k + 1) :=
  four_cases (P := fun k => (mixB u v k).put k (u.at k ^^^ v.at k) = mixB u v (k + 1)) k h rfl rfl rfl rfl
theorem mixB_at (u v : Blk) (k : Nat) (h : k < 4) : (mixB u v k).at k = u.at k :=
  four_cases (P := fun k => (mixB u v k).at k = u.at k) k h rfl rfl rfl rfl
theorem BlkAt.drew {w : World} {g : Nat} {v : Blk} (h : BlkAt w g v) : BlkAt w.drew g v := h
theorem BlkAt.drewN {w : World} {g : Nat} {v : Blk} (h : BlkAt w g v) (n : Nat) : BlkAt (w.drewN n) g v := by
  unfold BlkAt
  rw [heap_drewM]
  exact h
theorem BlkAt.lt {w : World} {g : Nat} {v : Blk} (h : BlkAt w g v) : g < w.heap.size := by
  by_cases hg : g < w.heap.size
  · exact hg
  · unfold BlkAt at h
    rw [Array.getElem?_eq_none (by omega)] at h
    cases h
theorem BlkAt.below {w w' : World} {g : Nat} {v : Blk} (h : BlkAt w g v) (hb : Below w.heap.size w w') : BlkAt w' g v := by
  have hg := h.lt
  unfold BlkAt at *
  rw [hb.block g hg, h]
theorem BlkAt.cell0 {w : World} {g : Nat} {v : Blk} (h : BlkAt w g v) : w.cell? ⟨g, 0, none⟩ = some (.int .u32 (v.a : Nat)) := (cell_of_row _ _ 0 _ _ _ h).trans rfl
theorem BlkAt.cell1 {w : World} {g : Nat} {v : Blk} (h : BlkAt w g v) : w.cell? ⟨g, 1, none⟩ = some (.int .u32 (v.b : Nat)) := (cell_of_row _ _ 1 _ _ _ h).trans rfl
theorem BlkAt.cell2 {w : World} {g : Nat} {v : Blk} (h : BlkAt w g v) : w.cell? ⟨g, 2, none⟩ = some (.int .u32 (v.c : Nat)) := (cell_of_row _ _ 2 _ _ _ h).trans rfl
theorem BlkAt.cell3 {w : World} {g : Nat} {v : Blk} (h : BlkAt w g v) : w.cell? ⟨g, 3, none⟩ = some (.int .u32 (v.d : Nat)) := (cell_of_row _ _ 3 _ _ _ h).trans rfl
set_option maxHeartbeats 2000000 in
set_option maxRecDepth 100000 in
theorem xorw_any (u v : Blk) (hu : u.ok) (hv : v.ok) (w : World) :
    Calls Tryz.prog 117 #[blkV u, blkV v] w fun e w' => e = .returned (blkV (xorB u v)) ∧ Below w.heap.size w w' := by
  unfold blkV
  go_enter Tryz.func117, Tryz.ntmps117
  go_wp2
  obtain ⟨hbel, q0, q1, q2, hsz⟩ := three_facts w (.cells #[.int .u32 (u.a : Nat), .int .u32 (u.b : Nat), .int .u32 (u.c : Nat), .int .u32 (u.d : Nat)] 131) (.cells #[.int .u32 (v.a : Nat), .int .u32 (v.b : Nat), .int .u32 (v.c : Nat), .int .u32 (v.d : Nat)] 131) (.cells #[.int .u32 0, .int .u32 0, .int .u32 0, .int .u32 0] 131)
  generalize ((w.alloc _).alloc _).alloc _ = W at hbel q0 q1 q2 hsz ⊢
  have hU : BlkAt W w.heap.size (mixB u v 0) := q0
  have hV : BlkAt W (w.heap.size + 1) v := q1
  have hZ : BlkAt W (w.heap.size + 1 + 1) zeroB := q2
  clear q0 q1 q2 hsz
  go_loopw [6] (fun i wr => ∃ k : Nat, k ≤ 4 ∧ i = .int .i64 k ∧ BlkAt wr w.heap.size (mixB u v k) ∧ BlkAt wr (w.heap.size + 1) v ∧ BlkAt wr (w.heap.size + 1 + 1) zeroB ∧ Below w.heap.size w wr) (fun i _ => 4 - (intOf i).toNat)
  case atStart => exact ⟨0, by omega, rfl, hU, hV, hZ, hbel⟩
  case round =>
    obtain ⟨k, hk, rfl, hU, hV, hZ, hB⟩ := hrel
    by_cases hlt : k < 4
    · have c0 := hU.cell k hlt
      have c1 := hV.cell k hlt
      have f0 := hU.frozen k
      rw [mixB_at u v k hlt] at c0
      have lu := Blk.at_lt hu k
      have lv := Blk.at_lt hv k
      have hx := xor_u32 (u.at k) (v.at k) lu lv
      have hset := hU.set k hlt (u.at k ^^^ v.at k)
      rw [mixB_step u v k hlt] at hset
      generalize u.at k = x at *
      generalize v.at k = y at *
      generalize x ^^^ y = z at *
      have HS := hide hset
      have HV := hide hV
      have HZ := hide hZ
      have HB := hide hB
      clear hset hU hV hZ hB
      go_wp2_with fail
      go_region
      go_wp2
      go_roundw
      case rel => exact ⟨k + 1, by omega, by go_num, (unhide HS).drew, ((unhide HV).other _ _ (by omega) _).drew, ((unhide HZ).other _ _ (by omega) _).drew, ((unhide HB).setCell (Nat.le_refl _) _).drew⟩
      case measure => simp [intOf]; omega
    · have hk4 : k = 4 := by omega
      subst hk4
      rw [mixB_four] at hU
      have a0 := hU.cell0
      have a1 := hU.cell1
      have a2 := hU.cell2
      have a3 := hU.cell3
      have z0 := hZ.cell0
      have z1 := hZ.cell1
      have z2 := hZ.cell2
      have z3 := hZ.cell3
      have f0 := hZ.frozen 0
      have f1 := hZ.frozen 1
      have f2 := hZ.frozen 2
      have f3 := hZ.frozen 3
      simp only [zeroB] at z0 z1 z2 z3
      have HB := hide hB
      obtain ⟨t, ht⟩ : ∃ t, t = xorB u v := ⟨_, rfl⟩
      rw [← ht] at a0 a1 a2 a3
      have HT := hide ht
      clear hU hV hZ hB ht
      go_wp2
      exact bodyPost_ret (v := .agg #[.int .u32 (t.a : Nat), .int .u32 (t.b : Nat), .int .u32 (t.c : Nat), .int .u32 (t.d : Nat)]) (by simp [results, Tryz.results117, go_sem, z0, z1, z2, z3]) rfl ⟨by rw [unhide HT], (((((unhide HB).setCell (by simp; omega) _).setCell (by simp; omega) _).setCell (by simp; omega) _).setCell (by simp; omega) _)⟩
end Go.Proofs.YtajkbkljonejnaaGreatDoor
