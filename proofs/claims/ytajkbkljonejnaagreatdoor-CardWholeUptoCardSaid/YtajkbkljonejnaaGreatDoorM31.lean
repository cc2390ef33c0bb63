/- Div64 by 3, of two words. Made by drafts/genNumPs.py. -/
import Derived.Test.YtajkbkljonejnaaGreatDoorM30
import Derived.Deep.DeepCutAuto
namespace Go.Proofs.YtajkbkljonejnaaGreatDoor
open Go.RowKit Go.Shelf
set_option linter.unusedVariables false
set_option linter.unusedSimpArgs false
set_option maxRecDepth 100000
theorem retPN {a b c d : Int} (h1 : a = c) (h2 : b = d) : Ending.returned (.tuple #[.int .u64 a, .int .u64 b]) = .returned (.tuple #[.int .u64 c, .int .u64 d]) := by rw [h1, h2]
theorem intN {a b : Int} (h : a = b) : Value.int .u64 a = .int .u64 b := by rw [h]
set_option maxHeartbeats 4000000 in
theorem div3_two (hi lo : Nat) (h0 : 1 ≤ hi) (h1 : hi ≤ 2) (hlo : lo < 18446744073709551616) (w : World) :
    Calls Tryz.prog 157 #[.int .u64 hi, .int .u64 lo, .int .u64 3] w fun e w' => e = .returned (.tuple #[.int .u64 ((hi * 18446744073709551616 + lo) / 3 : Nat), .int .u64 ((hi * 18446744073709551616 + lo) % 3 : Nat)]) ∧ w' = w := by
  obtain ⟨A, hA⟩ : ∃ A, A = hi * 4611686018427387904 + lo / 4 := ⟨_, rfl⟩
  obtain ⟨q1, hq1⟩ : ∃ q, q = A / 3221225472 := ⟨_, rfl⟩
  obtain ⟨r1, hr1⟩ : ∃ r, r = A % 3221225472 := ⟨_, rfl⟩
  obtain ⟨U, hU⟩ : ∃ U, U = r1 * 4294967296 + lo % 4 * 1073741824 := ⟨_, rfl⟩
  obtain ⟨q0, hq0⟩ : ∃ q, q = U / 3221225472 := ⟨_, rfl⟩
  obtain ⟨r0, hr0⟩ : ∃ r, r = U % 3221225472 := ⟨_, rfl⟩
  have e1 : A = q1 * 3221225472 + r1 := by rw [hq1, hr1, Nat.mul_comm]; exact (Nat.div_add_mod A 3221225472).symm
  have e2 : U = q0 * 3221225472 + r0 := by rw [hq0, hr0, Nat.mul_comm]; exact (Nat.div_add_mod U 3221225472).symm
  have l1 : r1 < 3221225472 := by rw [hr1]; exact Nat.mod_lt _ (by decide)
  have l2 : r0 < 3221225472 := by rw [hr0]; exact Nat.mod_lt _ (by decide)
  clear hq1 hr1 hq0 hr0
  obtain ⟨p1, p2, p3, p4, p5⟩ := div3_plain (hi := hi) (lo := lo) (A := A) (q1 := q1) (r1 := r1) (U := U) (q0 := q0) (r0 := r0) h1 hlo hA e1 l1 hU e2 l2
  rw [← p4, ← p5]
  obtain ⟨b, hb⟩ : ∃ b, b = lo % 4 := ⟨_, rfl⟩
  have hb4 : b < 4 := by rw [hb]; exact Nat.mod_lt _ (by decide)
  rw [← hb] at hU
  have X11 := hide (a11 h1 hlo hA); have X12 := hide (a12 hb); have X13 := hide (a13 hb4); have X14 := hide (a14 hb4); have X15 := hide (a15 e1 l1 p1); have X16 := hide (a16 e1 l1 p1); have X17 := hide (a17 e1 l1 p1 hb4 hU p2); have Y17 := hide (a17b l1 hb4 hU p2)
  have X18 := hide (a15 e2 l2 p3); have X19 := hide (a16 e2 l2 p3); have X28 := hide (a28 p1 p3); have X29 := hide (a29 e2 l2 p3 p2)
  obtain ⟨V, hV⟩ : ∃ V, V = r0 * 4294967296 := ⟨_, rfl⟩
  have x20 := a20 l2
  rw [← hV] at x20
  have x21 : IntKind.u64.wrap (V : Int) = (V : Int) := wrN rfl (by omega)
  have X20 := hide x20; have X21 := hide x21
  have g1 : decide ((4294967296 : Int) ≤ (q1 : Int)) = false := decide_eq_false (by omega)
  have g2 : decide ((4294967296 : Int) ≤ (q0 : Int)) = false := decide_eq_false (by omega)
  have i1 : decide ((U : Int) < 0) = false := decide_eq_false (by omega)
  have i2 : decide ((V : Int) < 0) = false := decide_eq_false (by omega)
  have I1 := hide i1; have I2 := hide i2
  have G1 := hide g1; have G2 := hide g2
  have P4 := hide p4
  have t0 : ((hi : Int) == 0) = false := by simp; omega
  have t1 : ¬ (3 : Int) ≤ (hi : Int) := by omega
  have NZ := hide (fun W => zeros_three W)
  clear p1 p2 p3 p4 p5 hA hU hb hb4 h0 h1 hlo e1 e2 l1 l2 g1 g2 i1 i2 x20 x21 hV
  go_enter Tryz.func157, Tryz.ntmps157
  go_upto_region 7 with fail
  clear t0 t1
  go_cut [8] (fun v wx => v = .int .u64 62 ∧ wx = w)
  case first =>
    go_wp2_with fail
    refine (unhide NZ _).mono ?_
    rintro e y ⟨rfl, rfl⟩
    go_wp2
    go_meet
    exact ⟨rfl, rfl⟩
  case rest =>
  obtain ⟨rfl, hwc⟩ := hcut
  have hwc' := hwc.symm
  subst hwc'
  clear hwc
  go_upto_region 8 with fail
  go_cut [2] (fun v wx => v = .int .u64 13835058055282163712 ∧ wx = w)
  case first =>
    go_wp2
    go_meet
    exact ⟨rfl, rfl⟩
  case rest =>
  obtain ⟨rfl, hwc⟩ := hcut
  have hwc' := hwc.symm
  subst hwc'
  clear hwc
  go_upto_region 9 with fail
  go_cut [9] (fun v wx => v = .int .u64 3221225472 ∧ wx = w)
  case first =>
    go_wp2
    go_meet
    exact ⟨rfl, rfl⟩
  case rest =>
  obtain ⟨rfl, hwc⟩ := hcut
  have hwc' := hwc.symm
  subst hwc'
  clear hwc
  go_upto_region 10 with fail
  go_cut [10] (fun v wx => v = .int .u64 0 ∧ wx = w)
  case first =>
    go_wp2
    go_meet
    exact ⟨rfl, rfl⟩
  case rest =>
  obtain ⟨rfl, hwc⟩ := hcut
  have hwc' := hwc.symm
  subst hwc'
  clear hwc
  go_upto_region 11 with fail
  go_cut [11] (fun v wx => v = .int .u64 (A : Nat) ∧ wx = w)
  case first =>
    go_wp2
    go_meet
    exact ⟨intN (by have h := unhide X11; first | exact h | (push_cast at h ⊢; exact h)), rfl⟩
  case rest =>
  obtain ⟨rfl, hwc⟩ := hcut
  have hwc' := hwc.symm
  subst hwc'
  clear hwc
  go_upto_region 12 with fail
  go_cut [12] (fun v wx => v = .int .u64 (b * 4611686018427387904 : Nat) ∧ wx = w)
  case first =>
    go_wp2
    go_meet
    exact ⟨intN (by have h := unhide X12; first | exact h | (push_cast at h ⊢; exact h)), rfl⟩
  case rest =>
  obtain ⟨rfl, hwc⟩ := hcut
  have hwc' := hwc.symm
  subst hwc'
  clear hwc
  go_upto_region 13 with fail
  go_cut [13] (fun v wx => v = .int .u64 (b * 1073741824 : Nat) ∧ wx = w)
  case first =>
    go_wp2
    go_meet
    exact ⟨intN (by have h := unhide X13; first | exact h | (push_cast at h ⊢; exact h)), rfl⟩
  case rest =>
  obtain ⟨rfl, hwc⟩ := hcut
  have hwc' := hwc.symm
  subst hwc'
  clear hwc
  go_upto_region 14 with fail
  go_cut [14] (fun v wx => v = .int .u64 0 ∧ wx = w)
  case first =>
    go_wp2
    go_meet
    exact ⟨intN (by have h := unhide X14; first | exact h | (push_cast at h ⊢; exact h)), rfl⟩
  case rest =>
  obtain ⟨rfl, hwc⟩ := hcut
  have hwc' := hwc.symm
  subst hwc'
  clear hwc
  go_upto_region 15 with fail
  go_cut [15] (fun v wx => v = .int .u64 (q1 : Nat) ∧ wx = w)
  case first =>
    go_wp2
    go_meet
    exact ⟨intN (by have h := unhide X15; first | exact h | (push_cast at h ⊢; exact h)), rfl⟩
  case rest =>
  obtain ⟨rfl, hwc⟩ := hcut
  have hwc' := hwc.symm
  subst hwc'
  clear hwc
  go_upto_region 16 with fail
  go_cut [16] (fun v wx => v = .int .u64 (r1 : Nat) ∧ wx = w)
  case first =>
    go_wp2
    go_meet
    exact ⟨intN (by have h := unhide X16; first | exact h | (push_cast at h ⊢; exact h)), rfl⟩
  case rest =>
  obtain ⟨rfl, hwc⟩ := hcut
  have hwc' := hwc.symm
  subst hwc'
  clear hwc
  go_wp2
  go_loopw [15, 16] (fun a c wx => a = .int .u64 (q1 : Nat) ∧ c = .int .u64 (r1 : Nat) ∧ wx = w) (fun _ _ _ => 0)
  case atStart => exact ⟨rfl, rfl, rfl⟩
  case round =>
  obtain ⟨rfl, rfl, hwr⟩ := hrel
  have hwr' := hwr.symm
  subst hwr'
  clear hwr
  have g1 := unhide G1
  have f1 := unhide Y17
  have i1 := unhide I1
  go_upto_region 21 with fail
  clear g1 f1 i1
  go_cut [17] (fun v wx => v = .int .u64 (U : Nat) ∧ wx = w)
  case first =>
    go_wp2
    go_meet
    exact ⟨intN (by have h := unhide X17; first | exact h | (push_cast at h ⊢; exact h)), rfl⟩
  case rest =>
  obtain ⟨rfl, hwc⟩ := hcut
  have hwc' := hwc.symm
  subst hwc'
  clear hwc
  go_upto_region 22 with fail
  go_cut [18] (fun v wx => v = .int .u64 (q0 : Nat) ∧ wx = w)
  case first =>
    go_wp2
    go_meet
    exact ⟨intN (by have h := unhide X18; first | exact h | (push_cast at h ⊢; exact h)), rfl⟩
  case rest =>
  obtain ⟨rfl, hwc⟩ := hcut
  have hwc' := hwc.symm
  subst hwc'
  clear hwc
  go_upto_region 23 with fail
  go_cut [16] (fun v wx => v = .int .u64 (r0 : Nat) ∧ wx = w)
  case first =>
    go_wp2
    go_meet
    exact ⟨intN (by have h := unhide X19; first | exact h | (push_cast at h ⊢; exact h)), rfl⟩
  case rest =>
  obtain ⟨rfl, hwc⟩ := hcut
  have hwc' := hwc.symm
  subst hwc'
  clear hwc
  go_wp2
  go_loopw [18, 16] (fun a c wx => a = .int .u64 (q0 : Nat) ∧ c = .int .u64 (r0 : Nat) ∧ wx = w) (fun _ _ _ => 0)
  case atStart => exact ⟨rfl, rfl, rfl⟩
  case round =>
  obtain ⟨rfl, rfl, hwr⟩ := hrel
  have hwr' := hwr.symm
  subst hwr'
  clear hwr
  have g2 := unhide G2
  have f2 := unhide X20
  have f3 := unhide X21
  have i2 := unhide I2
  go_upto_region 28 with fail
  clear g2 f2 f3 i2
  have f5 := unhide X28
  go_wp2
  go_ret2
  exact ⟨retPN (by omega) (unhide X29), rfl⟩
end Go.Proofs.YtajkbkljonejnaaGreatDoor
