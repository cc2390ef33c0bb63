/- Frame of the program (A1). -/
import Derived.Test.YthchicolifkpiaaDoorFrame
import Derived.Deep.DeepCutAuto
import Derived.Deep.RegionWith
import Derived.Deep.DrawnRows
namespace Go.Proofs.YthchicolifkpiaaDoor
open Go.RowKit
set_option linter.unusedVariables false
attribute [local go_sem ↓] Go.wp_at_zero Go.wp_at_succ

theorem below_keep {w w' : World} {a : Addr} {v : Value} (h : Below w.heap.size w w') (hc : w.cell? a = some v) : w'.cell? a = some v := (h.cell (World.block_lt_of_cell? w a hc)).trans hc

theorem two_bytes (w : World) (x y : Int) :
    (convert 42 9 (.slice (some ⟨w.heap.size, 0, none⟩) 2 2)).run Tryd.prog (w.alloc (.cells #[.int .u8 x, .int .u8 y] 5)) = .ok (.string (strOfNums [x, y])) (w.alloc (.cells #[.int .u8 x, .int .u8 y] 5)) :=
  run_convert_bytes_arg (P := Tryd.prog) _ 42 5 Tryd.underlying42 Tryd.underlying5 w.heap.size 0 2 2 [x, y] rfl (fun i hi => by
    have h2 : i = 0 ∨ i = 1 := by omega
    rcases h2 with rfl | rfl <;> simp) 9 Tryd.underlying9

/-- the frame of a block that is one: head, length, body, sum -/
def frameL (t n : Int) (m h : Bool) (b : ByteArray) : List UInt8 := [UInt8.ofNat (headN t n m h).toNat, UInt8.ofNat b.size] ++ b.data.toList
def frameS (t n : Int) (m h : Bool) (b : ByteArray) : ByteArray := ⟨(frameL t n m h b).toArray⟩ ++ strOfNums (bigL (sumN (frameL t n m h b)) 2)

set_option maxRecDepth 100000 in
set_option maxHeartbeats 2000000 in
theorem frame_ok (t n : Int) (m h : Bool) (b : ByteArray) (w : World) (ht : Tab w) (hw0 : 0 < w.heap.size) (he : checkE t n m h b = 0) (t0 : 0 ≤ t) (t1 : t ≤ 1) (n0 : 0 ≤ n) (n1 : n ≤ 1) (hb : b.size ≤ 32) :
    Calls Tryd.prog 31 #[blk t n m h b] w fun e w' => e = .returned (.tuple #[.string (frameS t n m h b), .int .i64 0]) ∧ Below w.heap.size w w' := by
  have hc := fun w => check_any t n m h b w (by unfold maxLen; omega)
  rw [he] at hc
  have HC := hide hc
  clear hc he
  go_enter Tryd.func31, Tryd.ntmps31
  go_wp2_with fail
  refine (unhide HC _).mono ?_
  rintro e w1 ⟨rfl, hb1⟩
  have hz : w.heap.size < w1.heap.size := by have := hb1.size; simp at this; omega
  have c0 : w1.cell? ⟨w.heap.size, 0, none⟩ = some (.int .i64 t) := (hb1.cell (by simp)).trans (by simp)
  have c1 : w1.cell? ⟨w.heap.size, 1, none⟩ = some (.int .i64 n) := (hb1.cell (by simp)).trans (by simp)
  have c2 : w1.cell? ⟨w.heap.size, 2, none⟩ = some (.bool m) := (hb1.cell (by simp)).trans (by simp)
  have c3 : w1.cell? ⟨w.heap.size, 3, none⟩ = some (.bool h) := (hb1.cell (by simp)).trans (by simp)
  have c4 : w1.cell? ⟨w.heap.size, 4, none⟩ = some (.string b) := (hb1.cell (by simp)).trans (by simp)
  have hcv := two_bytes
  have hsz : ∀ x y : Int, (strOfNums [x, y]).size = 2 := fun x y => by rw [strOfNums_size]; rfl
  have hbw : Below w.heap.size w w1 := ((Below.refl _ _).alloc (Nat.le_refl _) _).trans (hb1.mono (by simp))
  have hwz : IntKind.u8.wrap (b.size : Int) = (b.size : Int) := wraps_u8 _ (by omega) (by omega)
  go_wp2_with fail
  go_cut [5] (fun s wx => s = .string (strOfNums [headN t n m h, (b.size : Int)] ++ b) ∧ Below w.heap.size w wx)
  case first =>
    go_region_with ((go_at_call 38; refine (head_any t n m h b _ t0 t1 n0 n1).mono ?_; rintro e w2 ⟨rfl, hb2⟩; have d4 := below_keep hb2 (a := ⟨w.heap.size, 4, none⟩) (v := .string b) (by simp [c4]); have z2 : w.heap.size < w2.heap.size := World.block_lt_of_cell? _ _ d4))
    all_goals
      go_wp2_with fail
      go_meet
      case rel => exact ⟨rfl, ((hbw.drew.trans (hb2.mono (Nat.le_of_lt hz))).alloc (Nat.le_of_lt z2) _)⟩
  case rest =>
    obtain ⟨rfl, hbx⟩ := hcut
    have htx := ht.below hbx hw0
    have hsx : (strOfNums [headN t n m h, (b.size : Int)] ++ b).size ≤ 34 := by rw [ByteArray.size_append, strOfNums_size]; simp; omega
    have hdx : (strOfNums [headN t n m h, (b.size : Int)] ++ b).data.toList = frameL t n m h b := by
      rw [ByteArray.data_append, Array.toList_append, strOfNums_data]; simp [frameL]
    have hfs : frameS t n m h b = (strOfNums [headN t n m h, (b.size : Int)] ++ b) ++ strOfNums (bigL (sumN (strOfNums [headN t n m h, (b.size : Int)] ++ b).data.toList) 2) := by
      rw [hdx, frameS, ← hdx]
    have HF := hide hfs
    clear hfs hdx c0 c1 c2 c3 c4 hbw hb1 ht
    generalize strOfNums [headN t n m h, (b.size : Int)] ++ b = s at *
    have hs := fun w' (h : Tab w') => sum_any s w' (by unfold maxLen; omega) h
    have hx6 := sumN_lt s.data.toList
    have hbig : bigL (sumN s.data.toList) 2 = [((sumN s.data.toList / 256 % 256 : Nat) : Int), ((sumN s.data.toList % 256 : Nat) : Int)] := by simp [bigL]
    rw [hbig] at HF
    generalize sumN s.data.toList = x at *
    have HS := hide hs
    clear hs hbig
    go_wp2_with fail
    refine (unhide HS _ ?_).mono ?_
    · exact htx
    rintro e w3 ⟨rfl, rfl⟩
    go_wp2
    go_ret2
    refine ⟨?_, hbx.alloc (by have := hbx.size; omega) _⟩
    rw [unhide HF, show ((x / 256 % 256 : Nat) : Int) = (x : Int) / 256 by omega, show ((x % 256 : Nat) : Int) = (x : Int) % 256 by omega]
    rfl
end Go.Proofs.YthchicolifkpiaaDoor
