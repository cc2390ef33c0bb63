/- Print of the program. -/
import Derived.Test.YtamamlpicookiahAppItems
namespace Go.Proofs.Ytamamlpicookiah
open Go.RowKit
set_option linter.unusedVariables false

/-- what Print answers -/
def printsE (m : Option (Nat × Nat)) : Int := match m with | none => 1 | some (s, p) => if 8 < p ∨ 65535 < s then 2 else 0
def printsS (d : Nat) (l : List It) : ByteArray := if printsE (measD d l) = 0 then strOfNums (textD d l) else ⟨#[]⟩

set_option maxRecDepth 1000000 in
set_option maxHeartbeats 2000000 in
theorem print_any (d : Nat) (l : List It) (ao : Option Addr) (cap : Nat) (w : World) (hr : IRow w d ao l) (hw : wt d l ≤ 2097152) (hd : d ≤ 2097152) :
    Calls Try.prog 32 #[.slice ao l.length cap] w fun e w' => e = .returned (.tuple #[.string (printsS d l), .int .i64 (printsE (measD d l))]) ∧ Below w.heap.size w w' := by
  have n1 := measure_any d l ao cap w hr hw hd
  have hlen := hr.length_le
  have hlm : (l.length : Int) ≤ 2097152 := by omega
  have hps : printsS d l = if printsE (measD d l) = 0 then strOfNums (textD d l) else ⟨#[]⟩ := rfl
  cases hm : measD d l with
  | none =>
    rw [hm] at n1 hps
    have h1 : printsE none = 1 := rfl
    rw [h1] at hps ⊢
    simp only [Int.reduceEq, if_false] at hps
    rw [hps]
    have N1 := hide n1
    clear n1 hps h1 hm hw hr hlen
    go_enter Try.func32, Try.ntmps32
    go_wp2_with fail
    refine (unhide N1).mono ?_
    rintro e w1 ⟨he, hb1⟩
    have he2 : e = .returned (.tuple #[.int .i64 0, .int .i64 0, .bool false]) := he
    subst he2
    clear he
    go_wp2
    go_ret2
    exact ⟨rfl, hb1⟩
  | some sp =>
    obtain ⟨s, p⟩ := sp
    have hle := meas_le d l s p hm
    rw [hm] at n1 hps
    have h1 : printsE (some (s, p)) = if 8 < p ∨ 65535 < s then 2 else 0 := rfl
    have hsm : (s : Int) ≤ 14680064 := by omega
    have hpm : (p : Int) ≤ 2097152 := by omega
    have N1 := hide n1
    by_cases hc : 8 < p ∨ 65535 < s
    · rw [if_pos hc] at h1
      rw [h1] at hps ⊢
      simp only [Int.reduceEq, if_false] at hps
      rw [hps]
      by_cases h8 : 8 < p
      · have t1 : decide ((8 : Int) < (p : Int)) = true := decide_eq_true (by omega)
        clear n1 hps h1 hm hw hr hlen hle hc
        go_enter Try.func32, Try.ntmps32
        go_wp2_with fail
        refine (unhide N1).mono ?_
        rintro e w1 ⟨he, hb1⟩
        have he2 : e = .returned (.tuple #[.int .i64 s, .int .i64 p, .bool true]) := he
        subst he2
        clear he
        go_wp2
        go_ret2
        exact ⟨rfl, hb1⟩
      · have t1 : decide ((8 : Int) < (p : Int)) = false := decide_eq_false (by omega)
        have t2 : decide ((65535 : Int) < (s : Int)) = true := decide_eq_true (by omega)
        clear n1 hps h1 hm hw hr hlen hle hc
        go_enter Try.func32, Try.ntmps32
        go_wp2_with fail
        refine (unhide N1).mono ?_
        rintro e w1 ⟨he, hb1⟩
        have he2 : e = .returned (.tuple #[.int .i64 s, .int .i64 p, .bool true]) := he
        subst he2
        clear he
        go_wp2
        go_ret2
        exact ⟨rfl, hb1⟩
    · rw [if_neg hc] at h1
      rw [h1] at hps ⊢
      simp only [if_true] at hps
      rw [hps]
      have t1 : decide ((8 : Int) < (p : Int)) = false := decide_eq_false (by omega)
      have t2 : decide ((65535 : Int) < (s : Int)) = false := decide_eq_false (by omega)
      have N2 := hide (fun (w2 : World) (h : Below w.heap.size w w2) => appendItems_any d l ao cap w2 s p (IRow.below h d hr) hm (by omega) hlm)
      clear n1 hps h1 hm hw hr hlen hle hc
      go_enter Try.func32, Try.ntmps32
      go_wp2_with fail
      refine (unhide N1).mono ?_
      rintro e w1 ⟨he, hb1⟩
      have he2 : e = .returned (.tuple #[.int .i64 s, .int .i64 p, .bool true]) := he
      subst he2
      clear he
      go_wp2_with fail
      refine (unhide N2 _ hb1).mono ?_
      rintro e w2 ⟨v, rfl, hown, hb2'⟩
      have hb2 := below_more hb1 hb1.size hb2'
      rcases owned_cells hown with ⟨hv, hn⟩ | ⟨g3, cap3, hv, _, hcl⟩
      · have hcv := run_convert_bytes_nil (P := Try.prog) w2 63 5 Try.underlying63 Try.underlying5 0 0 9 Try.underlying9
        subst hv
        have HN := hide hn
        clear hown hn
        go_wp2
        go_ret2
        exact ⟨by rw [unhide HN]; rfl, hb2⟩
      · have hcv := run_convert_bytes_arg (P := Try.prog) w2 63 5 Try.underlying63 Try.underlying5 g3 0 (textD d l).length cap3 _ rfl hcl 9 Try.underlying9
        subst hv
        clear hown hcl
        go_wp2
        go_ret2
        exact ⟨rfl, hb2⟩
end Go.Proofs.Ytamamlpicookiah
