/- The way back of the program. -/
import Derived.Test.YtdclilpnpobanacMillP2
namespace Go.Proofs.Ytdclilpnpobanac
open Go.RowKit
set_option linter.unusedVariables false

theorem sub_words (x y : Nat) (hy : y < 4294967296) : ((x : Int) - (y : Int)) % 4294967296 = ((x + (4294967296 - y)) % 4294967296 : Nat) := by omega
theorem sub_words2 (x y : Nat) (z : Int) (hz : z = (y : Int)) : ((x : Int) - z % 4294967296) % 4294967296 = ((x + (4294967296 - y % 4294967296)) % 4294967296 : Nat) := by omega

set_option maxHeartbeats 2000000 in
set_option maxRecDepth 100000 in
theorem back_any (k v : Blk) (hk : k.ok) (hv : v.ok) (w : World) :
    Calls Try.prog 26 #[blkV k, blkV v] w fun e w' => e = .returned (blkV (bwd k 12 v)) ∧ Below w.heap.size w w' := by
  unfold blkV
  go_enter Try.func26, Try.ntmps26
  go_wp2
  obtain ⟨hbel, q0, q1, q2, hsz⟩ := three_facts w (.cells #[.int .u32 (k.a : Nat), .int .u32 (k.b : Nat), .int .u32 (k.c : Nat), .int .u32 (k.d : Nat)] 45) (.cells #[.int .u32 (v.a : Nat), .int .u32 (v.b : Nat), .int .u32 (v.c : Nat), .int .u32 (v.d : Nat)] 45) (.cells #[.int .u32 0, .int .u32 0, .int .u32 0, .int .u32 0] 45)
  generalize ((w.alloc _).alloc _).alloc _ = W at hbel q0 q1 q2 hsz ⊢
  have hK : BlkAt W w.heap.size k := q0
  have hV : BlkAt W (w.heap.size + 1) v := q1
  have hZ : BlkAt W (w.heap.size + 1 + 1) zeroB := q2
  have s1 : w.heap.size + 1 + 1 < W.heap.size := by omega
  have v0 := hV.cell 0 (by omega)
  have v1 := hV.cell 1 (by omega)
  have v2 := hV.cell 2 (by omega)
  have v3 := hV.cell 3 (by omega)
  simp only [Blk.at] at v0 v1 v2 v3
  have HB := hide hbel
  have HK := hide hK
  have HZ := hide hZ
  clear q0 q1 q2 hsz hK hV hZ hbel
  go_quiet (fail)
  clear v0 v1 v2 v3
  go_wp2
  go_loop [5, 6, 7, 8, 19] (fun a b c d i => ∃ n : Nat, n ≤ 12 ∧ i = .int .i64 n ∧ a = .int .u32 ((bwd k n v).a : Nat) ∧ b = .int .u32 ((bwd k n v).b : Nat) ∧ c = .int .u32 ((bwd k n v).c : Nat) ∧ d = .int .u32 ((bwd k n v).d : Nat)) (fun _ _ _ _ i => 12 - (intOf i).toNat)
  case atStart => exact ⟨0, by omega, rfl, rfl, rfl, rfl, rfl⟩
  case round =>
    obtain ⟨n, hn, rfl, rfl, rfl, rfl, rfl⟩ := hrel
    have hf := bwd_ok k n v hv
    obtain ⟨u, hu⟩ : ∃ u, u = bwd k n v := ⟨_, rfl⟩
    rw [← hu] at hf ⊢
    by_cases hlt : n < 12
    · obtain ⟨i, hi⟩ : ∃ i, i = 11 - n := ⟨_, rfl⟩
      have hs : bwd k (n + 1) v = unrnd k i u := by rw [bwd, hu, hi]
      have HS := hide hs
      have hii : (11 : Int) - (n : Int) = (i : Int) := by omega
      have i12 : i < 12 := by omega
      obtain ⟨m, hm⟩ : ∃ m, m = i % 4 := ⟨_, rfl⟩
      have m4 : m < 4 := by omega
      have hmi : (i : Int) % 4 = (m : Int) := by omega
      have hkm := Blk.at_lt hk m
      have hcell := (unhide HK).cell m m4
      obtain ⟨kk, hkk⟩ : ∃ kk, kk = k.at m := ⟨_, rfl⟩
      have lA := lastA_lt k i u
      have lD := lastD_lt u hf
      have lC := lastC_lt u
      have lB := lastB_lt u hf
      have rb := rl20_lt u.a hf.1
      have rd := rl16_lt u.c hf.2.2.1
      have eA : ((u.d : Int) - ((lastB u : Nat) + (kk : Int) + (i : Int) * 2654435769) % 4294967296) % 4294967296 = (lastA k i u : Nat) :=
        sub_words2 u.d (lastB u + added k i) _ (by unfold added; rw [← hm, ← hkk]; omega)
      have eC : ((u.b : Int) - (u.c : Int)) % 4294967296 = (lastC u : Nat) := sub_words u.b u.c hf.2.2.1
      have xD : bits .xor .u32 (rl u.c 16 : Nat) (u.d : Nat) = (lastD u : Nat) := xor_u32 (rl u.c 16) u.d rd hf.2.2.2
      have xB : bits .xor .u32 (rl u.a 20 : Nat) (u.b : Nat) = (lastB u : Nat) := xor_u32 (rl u.a 20) u.b rb hf.2.1
      have rD := fun w => rotm16_any u.c hf.2.2.1 w
      have rB := fun w => rotm12_any u.a hf.1 w
      rw [unrnd] at HS
      rw [← hkk] at hkm hcell
      obtain ⟨h1, h2, h3, h4⟩ := hf
      generalize lastA k i u = A at *
      generalize lastD u = D at *
      generalize lastC u = C at *
      generalize lastB u = B at *
      generalize rl u.c 16 = xd at *
      generalize rl u.a 20 = xb at *
      have RD := hide rD
      have RB := hide rB
      clear hs hu hm hkk rD rB hi
      go_wp2_with fail
      refine (unhide RB _).mono ?_
      rintro e w1 ⟨rfl, rfl⟩
      go_wp2_with fail
      refine (unhide RD _).mono ?_
      rintro e w1 ⟨rfl, rfl⟩
      go_wp2
      go_round
      case rel => exact ⟨n + 1, by omega, by go_num, by rw [eA, unhide HS], by rw [unhide HS], by rw [unhide HS], by rw [unhide HS]⟩
      case measure => simp [intOf]; omega
    · have hn12 : n = 12 := by omega
      subst hn12
      have z0 := (unhide HZ).cell 0 (by omega)
      have z1 := (unhide HZ).cell 1 (by omega)
      have z2 := (unhide HZ).cell 2 (by omega)
      have z3 := (unhide HZ).cell 3 (by omega)
      have f0 := (unhide HZ).frozen 0
      have f1 := (unhide HZ).frozen 1
      have f2 := (unhide HZ).frozen 2
      have f3 := (unhide HZ).frozen 3
      simp only [Blk.at, zeroB] at z0 z1 z2 z3
      clear hf
      have HU := hide hu
      clear hu
      go_wp2
      exact bodyPost_ret (v := .agg #[.int .u32 (u.a : Nat), .int .u32 (u.b : Nat), .int .u32 (u.c : Nat), .int .u32 (u.d : Nat)]) (by simp [results, Try.results26, go_sem, z0, z1, z2, z3]) rfl ⟨by rw [unhide HU], ((((belowDrewM (unhide HB) _).setCell (by simp; omega) _).setCell (by simp; omega) _).setCell (by simp; omega) _).setCell (by simp; omega) _⟩
end Go.Proofs.Ytdclilpnpobanac
