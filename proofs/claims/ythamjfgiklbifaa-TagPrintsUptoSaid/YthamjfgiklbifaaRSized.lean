/- sized of the reference. -/
import Derived.Test.YthamjfgiklbifaaPrintI
import Derived.Deep.RegionWith
namespace Go.Proofs.Ythamjfgiklbifaa
open Go.RowKit
set_option linter.unusedVariables false
attribute [local go_sem ↓] Go.wp_at_zero Go.wp_at_succ

/-- a text behind its length -/
def sizedS (s : ByteArray) : ByteArray := strOfNums (lenL s.size) ++ s

set_option maxRecDepth 100000 in
set_option maxHeartbeats 2000000 in
theorem sized_any (s : ByteArray) (w : World) (hs : s.size ≤ 65535) :
    Calls Try.prog 21 #[.string s] w fun e w' => e = .returned (.string (sizedS s)) ∧ Below w.heap.size w w' := by
  have hsi : (s.size : Int) ≤ 65535 := by omega
  by_cases c1 : s.size < 128
  · have e1 : sizedS s = strOfNums [(s.size : Int)] ++ s := by unfold sizedS lenL; rw [if_pos c1]
    rw [e1]
    have h1 : (strOfNums [(s.size : Int)]).size = 1 := by rw [strOfNums_size]; rfl
    have ha := fun w' => run_string_add_sum (P := Try.prog) w' (strOfNums [(s.size : Int)]) s (by omega)
    have hlow : lowByte (s.size : Int) = (s.size : Int) := by unfold lowByte; omega
    have n1 := fun b off cap w h1 h2 => bytes_one (s.size : Int) b off cap w h1 h2
    rw [hlow] at n1
    have N1 := hide n1
    clear n1 hlow e1 hs
    go_enter Try.func21, Try.ntmps21
    go_wp2_with fail
    refine (unhide N1 _ _ _ _ (by simp) (by simp)).mono ?_
    rintro e w2 ⟨rfl, hb2⟩
    go_wp2
    go_ret
    exact ⟨rfl, below_more ((Below.refl _ _).alloc (Nat.le_refl _) _) (by simp) hb2⟩
  · by_cases c2 : s.size < 256
    · have e1 : sizedS s = strOfNums [129, (s.size : Int)] ++ s := by unfold sizedS lenL; rw [if_neg c1, if_pos c2]
      rw [e1]
      have h1 : (strOfNums [129, (s.size : Int)]).size = 2 := by rw [strOfNums_size]; rfl
      have ha := fun w' => run_string_add_sum (P := Try.prog) w' (strOfNums [129, (s.size : Int)]) s (by omega)
      have hlow : lowByte (s.size : Int) = (s.size : Int) := by unfold lowByte; omega
      have hlow2 : lowByte 129 = 129 := by unfold lowByte; omega
      have n1 := fun (b : Nat) cap (w : World) (h1 : b < w.heap.size) (h2 : w.cell? ⟨b, 0, none⟩ = some (.int .i64 129)) (h3 : w.cell? ⟨b, 1, none⟩ = some (.int .i64 (s.size : Int))) => bytes_any [129, (s.size : Int)] b 0 2 cap w rfl (by omega) h1 (fun i hi => by
        have h : i = 0 ∨ i = 1 := by omega
        rcases h with h | h
        · subst h; exact h2
        · subst h; exact h3)
      simp only [List.map_cons, List.map_nil, hlow, hlow2] at n1
      have N1 := hide n1
      clear n1 hlow hlow2 e1 hs
      go_enter Try.func21, Try.ntmps21
      go_wp2_with fail
      refine (unhide N1 _ _ _ (by simp) (by simp) (by simp)).mono ?_
      rintro e w2 ⟨rfl, hb2⟩
      go_wp2
      go_ret
      exact ⟨rfl, below_more ((Below.refl _ _).alloc (Nat.le_refl _) _) (by simp) hb2⟩
    · have e1 : sizedS s = (strOfNums [130] ++ strOfNums (bigL s.size 2)) ++ s := by
        unfold sizedS lenL
        rw [if_neg c1, if_neg c2]
        have e2 : [130, (s.size : Int) / 256, (s.size : Int) % 256] = [130] ++ bigL s.size 2 := by simp [bigL]; omega
        rw [e2]
        first | rw [strOfNums_append] | rw [← strOfNums_append]
      rw [e1]
      have h1 : (strOfNums [130]).size = 1 := by rw [strOfNums_size]; rfl
      have h2 : (strOfNums (bigL s.size 2)).size = 2 := by rw [strOfNums_size, bigL_length]
      have h3 : (strOfNums [130] ++ strOfNums (bigL s.size 2)).size = 3 := by rw [ByteArray.size_append, h1, h2]
      have ha := fun w' => run_string_add_sum (P := Try.prog) w' (strOfNums [130]) (strOfNums (bigL s.size 2)) (by omega)
      have ha2 := fun w' => run_string_add_sum (P := Try.prog) w' (strOfNums [130] ++ strOfNums (bigL s.size 2)) s (by omega)
      have hlow2 : lowByte 130 = 130 := by unfold lowByte; omega
      have n1 := fun b off cap w h1 h2 => bytes_one 130 b off cap w h1 h2
      rw [hlow2] at n1
      have n2 := fun w => big_any s.size 2 w (by omega) (by omega)
      have N1 := hide n1; have N2 := hide n2
      clear n1 n2 hlow2 e1 hs
      go_enter Try.func21, Try.ntmps21
      go_wp2_with fail
      refine (unhide N1 _ _ _ _ (by simp) (by simp)).mono ?_
      rintro e w2 ⟨rfl, hb2⟩
      have hb2' := below_more ((Below.refl w.heap.size w).alloc (Nat.le_refl _) _) (by simp) hb2
      go_wp2_with fail
      refine (unhide N2 _).mono ?_
      rintro e w3 ⟨rfl, hb3⟩
      go_wp2
      go_ret
      exact ⟨rfl, below_more hb2' hb2'.size hb3⟩
end Go.Proofs.Ythamjfgiklbifaa
