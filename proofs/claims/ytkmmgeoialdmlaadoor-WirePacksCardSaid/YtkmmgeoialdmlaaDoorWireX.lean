/- The reference's numbers and fields. -/
import Derived.Test.YtkmmgeoialdmlaaDoorWireG
import Derived.BigQuiet
namespace Go.Proofs.YtkmmgeoialdmlaaDoor
open Go.RowKit
set_option linter.unusedVariables false

theorem digs_cons : ∀ (i n : Nat), digs n (i + 1) = UInt8.ofNat (48 + n / 10 ^ i % 10) :: digs n i
  | 0, n => by simp [digs]
  | i + 1, n => by
    rw [digs, digs_cons i (n / 10)]
    show _ :: (digs (n / 10) i ++ _) = _ :: digs n (i + 1)
    rw [digs, Nat.div_div_eq_div_mul, Nat.pow_succ, Nat.mul_comm 10]
theorem one_byteX (w : World) (x : Int) : (convert 41 9 (.slice (some ⟨w.heap.size, 0, none⟩) 1 1)).run Tryd.prog (w.alloc (.cells #[.int .u8 x] 5)) = .ok (.string (strOfNums [x])) (w.alloc (.cells #[.int .u8 x] 5)) :=
  run_convert_bytes_arg (P := Tryd.prog) _ 41 5 Tryd.underlying41 Tryd.underlying5 w.heap.size 0 1 1 [x] rfl (fun i hi => by
    have h2 : i = 0 := by omega
    subst h2; simp) 9 Tryd.underlying9
set_option maxRecDepth 100000 in
set_option maxHeartbeats 2000000 in
theorem rdecimal_any (n k : Nat) (hn : n < 9223372036854775808) (hk : k ≤ 9999) (w : World) :
    Calls Tryd.prog 22 #[.int .i64 (n : Int), .int .i64 (k : Int)] w fun e w' => e = .returned (.string ⟨(digs n k).toArray⟩) ∧ Below w.heap.size w w' := by
  have hki : (k : Int) ≤ 9999 := by omega
  have hcv := one_byteX
  have hsz : ∀ x : Int, (strOfNums [x]).size = 1 := fun x => by rw [strOfNums_size]; rfl
  go_enter Tryd.func22, Tryd.ntmps22
  go_wp2_with fail
  go_loopw [0, 5, 6] (fun nv sv iv wr => ∃ (i m : Nat) (s : ByteArray), i ≤ k ∧ iv = .int .i64 (i : Int) ∧ nv = .int .i64 (m : Int) ∧ m = n / 10 ^ i ∧ sv = .string s ∧ s = ⟨(digs n i).toArray⟩ ∧ Below w.heap.size w wr) (fun _ _ iv _ => k - (intOf iv).toNat)
  case atStart => exact ⟨0, n, ⟨#[]⟩, Nat.zero_le _, rfl, rfl, by simp, rfl, rfl, Below.refl _ _⟩
  case round =>
    obtain ⟨i, m, s, hi, rfl, rfl, hm, rfl, hs, hb⟩ := hrel
    by_cases hlt : i < k
    · have hlti : (i : Int) < (k : Int) := by omega
      have hmn : m ≤ n := by rw [hm]; exact Nat.div_le_self _ _
      have hss : s.size = i := by rw [hs]; show (digs n i).toArray.size = i; simp [digs_length]
      have hsi : (s.size : Int) ≤ 9999 := by omega
      obtain ⟨d, hd⟩ : ∃ d, d = m % 10 := ⟨_, rfl⟩
      have h1 : (m : Int) % 10 = (d : Int) := by omega
      have h2 : (m : Int).tmod 10 = (d : Int) := by rw [Int.tmod_eq_emod_of_nonneg (by omega)]; omega
      have hd9 : (d : Int) ≤ 9 := by omega
      have hwd : IntKind.u8.wrap (48 + (d : Int)) = 48 + (d : Int) := wraps_u8 _ (by omega) (by omega)
      obtain ⟨m2, hm2⟩ : ∃ m2, m2 = m / 10 := ⟨_, rfl⟩
      have h3 : (m : Int) / 10 = (m2 : Int) := by omega
      have h4 : (m : Int).tdiv 10 = (m2 : Int) := by rw [Int.tdiv_eq_ediv_of_nonneg (by omega)]; omega
      have HS : Hid (strOfNums [48 + (d : Int)] ++ s = ⟨(digs n (i + 1)).toArray⟩) := hide (by
        rw [digs_cons, hs, hd, hm]
        apply ByteArray.ext
        apply Array.toList_inj.1
        rw [ByteArray.data_append, Array.toList_append, strOfNums_data]
        simp only [List.map_cons, List.map_nil, List.cons_append, List.nil_append]
        congr 2)
      have HM : Hid (m2 = n / 10 ^ (i + 1)) := hide (by rw [hm2, hm, Nat.div_div_eq_div_mul, Nat.pow_succ])
      have hmi : (m : Int) ≤ 9223372036854775807 := by omega
      have hlim : ¬ 9223372036854775807 < 1 + s.size := by omega
      clear hm hs hd hm2
      go_wp2_with fail
      first
        | (refine ⟨⟨i + 1, m2, _, by omega, by go_num, rfl, unhide HM, rfl, unhide HS, hb.alloc hb.size _⟩, ?_⟩; simp [intOf]; omega)
    · have hlti : ¬ (i : Int) < (k : Int) := by omega
      have hik : i = k := by omega
      have HS : Hid (s = ⟨(digs n k).toArray⟩) := hide (by rw [hs, hik])
      clear hs hm hik
      go_wp2
      go_ret
      exact ⟨by rw [unhide HS]; rfl, hb⟩
theorem drewN_below {B : Nat} {a b : World} (h : Below B a b) (q : Nat) : Below B a (b.drewN q) := ⟨h.os, h.tape, h.output, h.size, h.block⟩
set_option maxRecDepth 100000 in
set_option maxHeartbeats 8000000 in
theorem rfield_any (n : Nat) (h1 : 1 ≤ n) (h16 : n ≤ 16) (w : World) :
    Calls Tryd.prog 21 #[.int .i64 (n : Int)] w fun e w' => e = .returned (.tuple #[.bool (fdig n), .int .i64 (fahead n : Int), .int .i64 (fmost n : Int)]) ∧ Below w.heap.size w w' := by
  go_enter Tryd.func21, Tryd.ntmps21
  go_upto_region 2 with fail
  rcases one_to_16 h1 h16 with rfl | rfl | rfl | rfl | rfl | rfl | rfl | rfl | rfl | rfl | rfl | rfl | rfl | rfl | rfl | rfl
  all_goals
    clear h1 h16
    go_wp2_with fail
    go_quiet (fail)
    go_wp2
    go_ret3
    exact ⟨rfl, drewN_below (((Below.refl _ _).alloc (Nat.le_refl _) _).alloc (by simp) _) _⟩
end Go.Proofs.YtkmmgeoialdmlaaDoor
