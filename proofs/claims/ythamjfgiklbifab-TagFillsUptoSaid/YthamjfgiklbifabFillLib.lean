/- fit of the program: the library's Repeat; the Builder's WriteString and String. -/
import Derived.Test.YthamjfgiklbifabRepeat
import Derived.Test.YthamjfgiklbifabFind
import Derived.Test.YthamjfgiklbifabQB
namespace Go.Proofs.Ythamjfgiklbifab
open Go.RowKit Go.Shelf
set_option linter.unusedVariables false

theorem repeat_any (s : ByteArray) (c : Nat) (w : World) (hc : c ≤ 9223372036854775807) (hlen : s.size * c ≤ 140737488355328) :
    Calls Try.prog 52 #[.string s, .int .i64 c] w fun e w' => e = .returned (.string ⟨(Lib.repeatL s.data.toList c).toArray⟩) ∧ Below w.heap.size w w' :=
  Any.strings_Repeat Try.lays105 Try.Builder_Extra_105 s c w hc hlen
theorem write_any (B b : Nat) (bs : List Value) (s : ByteArray) (w : World) (h : Lib.IsBuilder 67 5 B b bs w) (hlen : bs.length + s.size ≤ 140737488355328) (hBw : B ≤ w.heap.size) :
    Calls Try.prog 40 #[.pointer (some ⟨b, 0, none⟩), .string s] w fun e w' => e = .returned (.tuple #[.int .i64 s.size, .nilIface]) ∧ (Lib.BuilderAt 67 5 B b (.pointer (some ⟨b, 0, none⟩)) (bs ++ Lib.strCells s) w' ∧ Below B w w') :=
  Any.Builder_WriteString { Try.lays105 with } Try.Builder_Extra_105 B b bs s w h hlen hBw
theorem string_any (B b : Nat) (l : List UInt8) (w : World) (h : Lib.IsBuilder 67 5 B b (Lib.byteCells l) w) (hBw : B ≤ w.heap.size) :
    Calls Try.prog 42 #[.pointer (some ⟨b, 0, none⟩)] w fun e w' => e = .returned (.string ⟨l.toArray⟩) ∧ Below B w w' :=
  Any.Builder_String_any { Try.lays105 with } Try.Builder_Extra_105 B b l w h hBw

theorem below_draws' {B : Nat} {a b : World} (h : Below B a b) (q : Nat) : Below B a (b.drewN q) := ⟨h.os, h.tape, h.output, h.size, h.block⟩
/-- so many zeros -/
def zerosS (n : Nat) : ByteArray := ⟨(List.replicate n (0 : UInt8)).toArray⟩
theorem zerosS_size (n : Nat) : (zerosS n).size = n := by simp [zerosS, ByteArray.size]
theorem repeat_zeros (n : Nat) : (⟨(Lib.repeatL (⟨#[0]⟩ : ByteArray).data.toList n).toArray⟩ : ByteArray) = zerosS n := by
  unfold zerosS
  congr 2
  induction n with
  | zero => rfl
  | succ n ih => simp only [Lib.repeatL, ih]; rfl
theorem repeat0 (c : Nat) (w : World) (hc : c ≤ 255) : Calls Try.prog 52 #[.string ⟨#[0]⟩, .int .i64 c] w fun e w' => e = .returned (.string (zerosS c)) ∧ Below w.heap.size w w' := by
  have h1 : (⟨#[0]⟩ : ByteArray).size = 1 := rfl
  have := repeat_any ⟨#[0]⟩ c w (by omega) (by rw [h1]; omega)
  rw [repeat_zeros] at this
  exact this
/-- is it of a number? -/
def numB (t : Nat) : Bool := decide (1 ≤ t % 256) && decide (t % 256 ≤ 31)
/-- a text cut, or filled up -/
def fitS (t n : Nat) (s : ByteArray) : ByteArray := if numB t = true then zerosS (n - s.size) ++ s.extract (s.size - n) s.size else s.extract 0 (min s.size n) ++ zerosS (n - s.size)

set_option maxRecDepth 100000 in
theorem isNumber_any (t : Nat) (w : World) (ht : t < 16777216) :
    Calls Try.prog 53 #[.int .i64 t] w fun e w' => e = .returned (.bool (numB t)) ∧ w' = w := by
  have h1 := and_255 (t : Int) (by omega) (by omega)
  have e1 : decide (1 ≤ (t : Int) % 256) = decide (1 ≤ t % 256) := by rw [Bool.eq_iff_iff]; simp; omega
  have e2 : decide ((t : Int) % 256 ≤ 31) = decide (t % 256 ≤ 31) := by rw [Bool.eq_iff_iff]; simp; omega
  unfold numB
  rw [← e1, ← e2]
  clear e1 e2
  go_enter Try.func53, Try.ntmps53
  go_wp2
  all_goals
    go_ret
    exact ⟨by first | rfl | (simp_all; done) | (simp_all; omega), rfl⟩

set_option maxRecDepth 100000 in
set_option maxHeartbeats 2000000 in
theorem fit_any (t n : Nat) (s : ByteArray) (w : World) (ht : t < 16777216) (hn : n ≤ 255) (hs : s.size ≤ 1048576) :
    Calls Try.prog 41 #[.string s, .agg #[.int .i64 t, .int .i64 n]] w fun e w' => e = .returned (.string (fitS t n s)) ∧ Below w.heap.size w w' := by
  have n1 := fun w => repeat0 (n - s.size) w (by omega)
  have n2 := fun w => isNumber_any t w ht
  have hzs := zerosS_size (n - s.size)
  have hfs : fitS t n s = if numB t = true then zerosS (n - s.size) ++ s.extract (s.size - n) s.size else s.extract 0 (min s.size n) ++ zerosS (n - s.size) := rfl
  have hsi : (s.size : Int) ≤ 1048576 := by omega
  have hni : (n : Int) ≤ 255 := by omega
  have e1 : ((n - s.size : Nat) : Int) = max ((n : Int) - (s.size : Int)) 0 := by omega
  have e2 : ((s.size - n : Nat) : Int) = max ((s.size : Int) - (n : Int)) 0 := by omega
  have e3 : ((min s.size n : Nat) : Int) = min (s.size : Int) (n : Int) := by omega
  rw [e1] at n1
  generalize zerosS (n - s.size) = Z at *
  cases hb : numB t with
  | true =>
    rw [hb] at n2 hfs
    simp only [if_true] at hfs
    rw [hfs]
    have hsl : ∀ wx, (Instr.slice 9 (.string s) (some (.int .i64 (max ((s.size : Int) - (n : Int)) 0))) none none).run Try.prog wx = .ok (.string (s.extract (s.size - n) s.size)) wx := fun wx => by
      have := run_slice_string_l (P := Try.prog) wx 9 s Try.underlying9 .i64 (((s.size - n : Nat)) : Int) (by omega) (by omega)
      rw [e2] at this
      rw [this]
      congr 3
      omega
    have ha := fun w' => run_string_add_sum (P := Try.prog) w' Z (s.extract (s.size - n) s.size) (by rw [ByteArray.size_extract]; omega)
    generalize s.extract (s.size - n) s.size = X at *
    have N1 := hide n1; have N2 := hide n2
    clear n1 n2 hb hfs hs hn ht e1 e2 e3
    go_enter Try.func41, Try.ntmps41
    go_wp2_with fail
    refine (unhide N1 _).mono ?_
    rintro e w1 ⟨rfl, hb1⟩
    have z0 : w1.cell? ⟨w.heap.size, 0, none⟩ = some (.int .i64 (t : Int)) := (hb1.cell (p := ⟨w.heap.size, 0, none⟩) (by simp)).trans (cell_of_row _ _ 0 _ _ _ (heap_alloc_new w _))
    have z1 : w1.cell? ⟨w.heap.size, 1, none⟩ = some (.int .i64 (n : Int)) := (hb1.cell (p := ⟨w.heap.size, 1, none⟩) (by simp)).trans (cell_of_row _ _ 1 _ _ _ (heap_alloc_new w _))
    have hb1' := below_more ((Below.refl w.heap.size w).alloc (Nat.le_refl _) _) (by simp) hb1
    clear hb1
    go_wp2_with fail
    refine (unhide N2 _).mono ?_
    rintro e w2 ⟨rfl, hw2⟩
    subst hw2
    go_wp2
    go_ret
    exact ⟨rfl, by first | exact hb1' | exact hb1'.drew | exact below_draws' hb1' _⟩
  | false =>
    rw [hb] at n2 hfs
    simp only [Bool.false_eq_true, if_false] at hfs
    rw [hfs]
    have hsl : ∀ wx, (Instr.slice 9 (.string s) none (some (.int .i64 (min (s.size : Int) (n : Int)))) none).run Try.prog wx = .ok (.string (s.extract 0 (min s.size n))) wx := fun wx => by
      have := run_slice_string_h (P := Try.prog) wx 9 s Try.underlying9 .i64 ((min s.size n : Nat) : Int) (by omega) (by omega)
      rw [e3] at this
      rw [this]
      congr 3
      omega
    have ha := fun w' => run_string_add_sum (P := Try.prog) w' (s.extract 0 (min s.size n)) Z (by rw [ByteArray.size_extract]; omega)
    generalize s.extract 0 (min s.size n) = X at *
    have N1 := hide n1; have N2 := hide n2
    clear n1 n2 hb hfs hs hn ht e1 e2 e3
    go_enter Try.func41, Try.ntmps41
    go_wp2_with fail
    refine (unhide N1 _).mono ?_
    rintro e w1 ⟨rfl, hb1⟩
    have z0 : w1.cell? ⟨w.heap.size, 0, none⟩ = some (.int .i64 (t : Int)) := (hb1.cell (p := ⟨w.heap.size, 0, none⟩) (by simp)).trans (cell_of_row _ _ 0 _ _ _ (heap_alloc_new w _))
    have z1 : w1.cell? ⟨w.heap.size, 1, none⟩ = some (.int .i64 (n : Int)) := (hb1.cell (p := ⟨w.heap.size, 1, none⟩) (by simp)).trans (cell_of_row _ _ 1 _ _ _ (heap_alloc_new w _))
    have hb1' := below_more ((Below.refl w.heap.size w).alloc (Nat.le_refl _) _) (by simp) hb1
    clear hb1
    go_wp2_with fail
    refine (unhide N2 _).mono ?_
    rintro e w2 ⟨rfl, hw2⟩
    subst hw2
    go_wp2
    go_ret
    exact ⟨rfl, by first | exact hb1' | exact hb1'.drew | exact below_draws' hb1' _⟩
end Go.Proofs.Ythamjfgiklbifab
