/- Turn and Back of the program. -/
import Derived.Test.YtmdcaljccegiiaaGreatDoorM01
import Derived.Deep.RegionWith
import Derived.Deep.DeepCutAuto
namespace Go.Proofs.YtmdcaljccegiiaaGreatDoor
open Go.RowKit
set_option linter.unusedVariables false

theorem len_ne (s : ByteArray) (h : s.size ≠ 16) : ((s.size : Int) != 16) = true := by rw [bne_iff_ne]; omega
theorem len_eq (s : ByteArray) (h : s.size = 16) : ((s.size : Int) != 16) = false := by rw [bne_eq_false_iff_eq]; omega

/-- is it a key and a block? -/
def both16 (k s : ByteArray) : Bool := decide (k.size = 16 ∧ s.size = 16)
def turnE (k s : ByteArray) : Int := if k.size = 16 ∧ s.size = 16 then 0 else 1
def turnT (k s : ByteArray) : ByteArray := if k.size = 16 ∧ s.size = 16 then turnS k s else ⟨#[]⟩
def backT (k s : ByteArray) : ByteArray := if k.size = 16 ∧ s.size = 16 then backS k s else ⟨#[]⟩
end Go.Proofs.YtmdcaljccegiiaaGreatDoor
namespace Go.Proofs.YtmdcaljccegiiaaGreatDoor
open Go.RowKit
set_option linter.unusedVariables false

def mixB (u v : Blk) (k : Nat) : Blk := ⟨if 0 < k then u.a ^^^ v.a else u.a, if 1 < k then u.b ^^^ v.b else u.b, if 2 < k then u.c ^^^ v.c else u.c, if 3 < k then u.d ^^^ v.d else u.d⟩
theorem mixB_zero (u v : Blk) : mixB u v 0 = u := rfl
theorem mixB_four (u v : Blk) : mixB u v 4 = xorB u v := rfl
theorem mixB_step (u v : Blk) (k : Nat) (h : k < 4) : (mixB u v k).put k (u.at k ^^^ v.at k) = mixB u v (k + 1) :=
  four_cases (P := fun k => (mixB u v k).put k (u.at k ^^^ v.at k) = mixB u v (k + 1)) k h rfl rfl rfl rfl
theorem mixB_at (u v : Blk) (k : Nat) (h : k < 4) : (mixB u v k).at k = u.at k :=
  four_cases (P := fun k => (mixB u v k).at k = u.at k) k h rfl rfl rfl rfl
theorem BlkAt.drew {w : World} {g : Nat} {v : Blk} (h : BlkAt w g v) : BlkAt w.drew g v := h
theorem BlkAt.drewN {w : World} {g : Nat} {v : Blk} (h : BlkAt w g v) (n : Nat) : BlkAt (w.drewN n) g v := by
  unfold BlkAt
  rw [heap_drewM]
  exact h
theorem BlkAt.lt {w : World} {g : Nat} {v : Blk} (h : BlkAt w g v) : g < w.heap.size := by
  by_cases hg : g < w.heap.size
  · exact hg
  · unfold BlkAt at h
    rw [Array.getElem?_eq_none (by omega)] at h
    cases h
theorem BlkAt.below {w w' : World} {g : Nat} {v : Blk} (h : BlkAt w g v) (hb : Below w.heap.size w w') : BlkAt w' g v := by
  have hg := h.lt
  unfold BlkAt at *
  rw [hb.block g hg, h]
theorem BlkAt.cell0 {w : World} {g : Nat} {v : Blk} (h : BlkAt w g v) : w.cell? ⟨g, 0, none⟩ = some (.int .u32 (v.a : Nat)) := (cell_of_row _ _ 0 _ _ _ h).trans rfl
theorem BlkAt.cell1 {w : World} {g : Nat} {v : Blk} (h : BlkAt w g v) : w.cell? ⟨g, 1, none⟩ = some (.int .u32 (v.b : Nat)) := (cell_of_row _ _ 1 _ _ _ h).trans rfl
theorem BlkAt.cell2 {w : World} {g : Nat} {v : Blk} (h : BlkAt w g v) : w.cell? ⟨g, 2, none⟩ = some (.int .u32 (v.c : Nat)) := (cell_of_row _ _ 2 _ _ _ h).trans rfl
theorem BlkAt.cell3 {w : World} {g : Nat} {v : Blk} (h : BlkAt w g v) : w.cell? ⟨g, 3, none⟩ = some (.int .u32 (v.d : Nat)) := (cell_of_row _ _ 3 _ _ _ h).trans rfl

set_option maxHeartbeats 2000000 in
set_option maxRecDepth 100000 in
theorem xorw_any (u v : Blk) (hu : u.ok) (hv : v.ok) (w : World) :
    Calls Tryz.prog 92 #[blkV u, blkV v] w fun e w' => e = .returned (blkV (xorB u v)) ∧ Below w.heap.size w w' := by
  unfold blkV
  go_enter Tryz.func92, Tryz.ntmps92
  go_wp2
  obtain ⟨hbel, q0, q1, q2, hsz⟩ := three_facts w (.cells #[.int .u32 (u.a : Nat), .int .u32 (u.b : Nat), .int .u32 (u.c : Nat), .int .u32 (u.d : Nat)] 128) (.cells #[.int .u32 (v.a : Nat), .int .u32 (v.b : Nat), .int .u32 (v.c : Nat), .int .u32 (v.d : Nat)] 128) (.cells #[.int .u32 0, .int .u32 0, .int .u32 0, .int .u32 0] 128)
  generalize ((w.alloc _).alloc _).alloc _ = W at hbel q0 q1 q2 hsz ⊢
  have hU : BlkAt W w.heap.size (mixB u v 0) := q0
  have hV : BlkAt W (w.heap.size + 1) v := q1
  have hZ : BlkAt W (w.heap.size + 1 + 1) zeroB := q2
  clear q0 q1 q2 hsz
  go_loopw [6] (fun i wr => ∃ k : Nat, k ≤ 4 ∧ i = .int .i64 k ∧ BlkAt wr w.heap.size (mixB u v k) ∧ BlkAt wr (w.heap.size + 1) v ∧ BlkAt wr (w.heap.size + 1 + 1) zeroB ∧ Below w.heap.size w wr) (fun i _ => 4 - (intOf i).toNat)
  case atStart => exact ⟨0, by omega, rfl, hU, hV, hZ, hbel⟩
  case round =>
    obtain ⟨k, hk, rfl, hU, hV, hZ, hB⟩ := hrel
    by_cases hlt : k < 4
    · have c0 := hU.cell k hlt
      have c1 := hV.cell k hlt
      have f0 := hU.frozen k
      rw [mixB_at u v k hlt] at c0
      have lu := Blk.at_lt hu k
      have lv := Blk.at_lt hv k
      have hx := xor_u32 (u.at k) (v.at k) lu lv
      have hset := hU.set k hlt (u.at k ^^^ v.at k)
      rw [mixB_step u v k hlt] at hset
      generalize u.at k = x at *
      generalize v.at k = y at *
      generalize x ^^^ y = z at *
      have HS := hide hset
      have HV := hide hV
      have HZ := hide hZ
      have HB := hide hB
      clear hset hU hV hZ hB
      go_wp2_with fail
      go_region
      go_wp2
      go_roundw
      case rel => exact ⟨k + 1, by omega, by go_num, (unhide HS).drew, ((unhide HV).other _ _ (by omega) _).drew, ((unhide HZ).other _ _ (by omega) _).drew, ((unhide HB).setCell (Nat.le_refl _) _).drew⟩
      case measure => simp [intOf]; omega
    · have hk4 : k = 4 := by omega
      subst hk4
      rw [mixB_four] at hU
      have a0 := hU.cell0
      have a1 := hU.cell1
      have a2 := hU.cell2
      have a3 := hU.cell3
      have z0 := hZ.cell0
      have z1 := hZ.cell1
      have z2 := hZ.cell2
      have z3 := hZ.cell3
      have f0 := hZ.frozen 0
      have f1 := hZ.frozen 1
      have f2 := hZ.frozen 2
      have f3 := hZ.frozen 3
      simp only [zeroB] at z0 z1 z2 z3
      have HB := hide hB
      obtain ⟨t, ht⟩ : ∃ t, t = xorB u v := ⟨_, rfl⟩
      rw [← ht] at a0 a1 a2 a3
      have HT := hide ht
      clear hU hV hZ hB ht
      go_wp2
      exact bodyPost_ret (v := .agg #[.int .u32 (t.a : Nat), .int .u32 (t.b : Nat), .int .u32 (t.c : Nat), .int .u32 (t.d : Nat)]) (by simp [results, Tryz.results92, go_sem, z0, z1, z2, z3]) rfl ⟨by rw [unhide HT], (((((unhide HB).setCell (by simp; omega) _).setCell (by simp; omega) _).setCell (by simp; omega) _).setCell (by simp; omega) _)⟩
end Go.Proofs.YtmdcaljccegiiaaGreatDoor
