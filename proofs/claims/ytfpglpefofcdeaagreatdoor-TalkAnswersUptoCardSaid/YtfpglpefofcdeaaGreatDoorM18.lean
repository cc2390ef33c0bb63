/- Commands read, by the program: dealOf, commandOf. -/
import Derived.Test.YtfpglpefofcdeaaGreatDoorM15
namespace Go.Proofs.YtfpglpefofcdeaaGreatDoor
open Go.RowKit
set_option linter.unusedVariables false

set_option maxHeartbeats 1000000 in
theorem tnumber_any (s : ByteArray) (w : World) (hs : s.size ≤ maxLen) :
    Calls Tryz.prog 98 #[.string s] w fun e w' => e = .returned (.int .i64 (readV s)) ∧ w' = w := by
  have N1 := hide (fun w => read_all s w hs)
  generalize readV s = v at *
  generalize readE s = ve at *
  clear hs
  go_enter Tryz.func98, Tryz.ntmps98
  go_wp2_with fail
  refine (unhide N1 _).mono ?_
  rintro e w1 ⟨rfl, rfl⟩
  go_wp2
  go_ret
  exact ⟨rfl, rfl⟩
set_option maxHeartbeats 1000000 in
theorem htext_any (n : Int) (d : Nat) (l : List It) (ao : Option Addr) (cap : Nat) (w : World) (hr : IRow w d ao l) (hw : wt d l ≤ 1048576) :
    Calls Tryz.prog 59 #[.slice ao l.length cap, .int .i64 n] w fun e w' => e = .returned (.string (gotT n d l)) ∧ Below w.heap.size w w' := by
  have n1 := find_any n d l ao cap w hr hw
  have g1 : foundV (findD n d l) = .tuple #[.string (gotT n d l), .bool (findD n d l).isSome] := rfl
  rw [g1] at n1
  generalize gotT n d l = s at *
  generalize (findD n d l).isSome = b at *
  generalize l.length = ll at *
  have N1 := hide n1
  clear n1 g1 hr hw
  go_enter Tryz.func59, Tryz.ntmps59
  go_wp2_with fail
  refine (unhide N1).mono ?_
  rintro e w1 ⟨rfl, hb1⟩
  go_wp2
  go_ret
  exact ⟨rfl, hb1⟩
set_option maxHeartbeats 1000000 in
theorem hnumber_any (n : Int) (d : Nat) (l : List It) (ao : Option Addr) (cap : Nat) (w : World) (hr : IRow w d ao l) (hw : wt d l ≤ 1048576) :
    Calls Tryz.prog 61 #[.slice ao l.length cap, .int .i64 n] w fun e w' => e = .returned (.int .i64 (readV (gotT n d l))) ∧ Below w.heap.size w w' := by
  have n1 := htext_any n d l ao cap w hr hw
  have hz := got_size n d l
  have n2 := fun w => tnumber_any (gotT n d l) w (by unfold maxLen; omega)
  generalize readV (gotT n d l) = v at *
  generalize gotT n d l = s at *
  generalize l.length = ll at *
  have N1 := hide n1; have N2 := hide n2
  clear n1 n2 hr hw hz
  go_enter Tryz.func61, Tryz.ntmps61
  go_wp2_with fail
  refine (unhide N1).mono ?_
  rintro e w1 ⟨rfl, hb1⟩
  go_wp2_with fail
  refine (unhide N2 _).mono ?_
  rintro e w2 ⟨rfl, rfl⟩
  go_wp2
  go_ret
  exact ⟨rfl, hb1⟩
/-- the deal of a text, as the program reads it -/
def dealP (s : ByteArray) : XDeal := if s.size = 29 then ⟨readV (s.extract 0 4), readV (s.extract 4 8), readV (s.extract 8 16), (readV (s.extract 16 17) == 1), readV (s.extract 17 19), readV (s.extract 19 21), s.extract 21 s.size⟩ else zeroD
set_option maxRecDepth 100000 in
set_option maxHeartbeats 4000000 in
theorem dealOf_any (s : ByteArray) (w : World) (hs : s.size ≤ maxLen) :
    Calls Tryz.prog 88 #[.string s] w fun e w' => e = .returned (valDeal (dealP s)) ∧ Below w.heap.size w w' := by
  have HB := hide (fun o : Obj => (Below.refl w.heap.size w).alloc (Nat.le_refl _) o)
  by_cases h : s.size = 29
  case neg =>
    have hd : dealP s = zeroD := by unfold dealP; rw [if_neg h]
    rw [hd]
    have hv : valDeal zeroD = .agg #[.int .i64 0, .int .i64 0, .int .i64 0, .bool false, .int .i64 0, .int .i64 0, .string ⟨#[]⟩] := rfl
    rw [hv]
    have t1 : ((s.size : Int) != 29) = true := by simp; omega
    clear hd hv h hs
    go_enter Tryz.func88, Tryz.ntmps88
    go_wp2
    exact bodyPost_ret (v := .agg #[.int .i64 0, .int .i64 0, .int .i64 0, .bool false, .int .i64 0, .int .i64 0, .string ⟨#[]⟩]) (by simp [results, Tryz.results88, go_sem]) rfl ⟨rfl, unhide HB _⟩
  have hd : dealP s = ⟨readV (s.extract 0 4), readV (s.extract 4 8), readV (s.extract 8 16), (readV (s.extract 16 17) == 1), readV (s.extract 17 19), readV (s.extract 19 21), s.extract 21 s.size⟩ := by unfold dealP; rw [if_pos h]
  have hv : valDeal (dealP s) = .agg #[.int .i64 (readV (s.extract 0 4)), .int .i64 (readV (s.extract 4 8)), .int .i64 (readV (s.extract 8 16)), .bool (readV (s.extract 16 17) == 1), .int .i64 (readV (s.extract 17 19)), .int .i64 (readV (s.extract 19 21)), .string (s.extract 21 s.size)] := by rw [hd]; rfl
  rw [hv]
  have t1 : ((s.size : Int) != 29) = false := by simp; omega
  have hsi : (s.size : Int) = 29 := by omega
  have n0 := fun w => tnumber_any (s.extract 0 4) w (by rw [ByteArray.size_extract]; unfold maxLen; omega)
  have hsl0 : ∀ wx, (Instr.slice 9 (.string s) none (some (.int .i64 4)) none).run Tryz.prog wx = .ok (.string (s.extract 0 4)) wx := fun wx => run_slice_string_h (P := Tryz.prog) wx 9 s Tryz.underlying9 .i64 4 (by omega) (by omega)
  have n1 := fun w => tnumber_any (s.extract 4 8) w (by rw [ByteArray.size_extract]; unfold maxLen; omega)
  have hsl1 : ∀ wx, (Instr.slice 9 (.string s) (some (.int .i64 4)) (some (.int .i64 8)) none).run Tryz.prog wx = .ok (.string (s.extract 4 8)) wx := fun wx => run_slice_string (P := Tryz.prog) wx 9 s .i64 .i64 4 8 Tryz.underlying9 (by omega) (by omega) (by omega)
  have n2 := fun w => tnumber_any (s.extract 8 16) w (by rw [ByteArray.size_extract]; unfold maxLen; omega)
  have hsl2 : ∀ wx, (Instr.slice 9 (.string s) (some (.int .i64 8)) (some (.int .i64 16)) none).run Tryz.prog wx = .ok (.string (s.extract 8 16)) wx := fun wx => run_slice_string (P := Tryz.prog) wx 9 s .i64 .i64 8 16 Tryz.underlying9 (by omega) (by omega) (by omega)
  have n3 := fun w => tnumber_any (s.extract 16 17) w (by rw [ByteArray.size_extract]; unfold maxLen; omega)
  have hsl3 : ∀ wx, (Instr.slice 9 (.string s) (some (.int .i64 16)) (some (.int .i64 17)) none).run Tryz.prog wx = .ok (.string (s.extract 16 17)) wx := fun wx => run_slice_string (P := Tryz.prog) wx 9 s .i64 .i64 16 17 Tryz.underlying9 (by omega) (by omega) (by omega)
  have n4 := fun w => tnumber_any (s.extract 17 19) w (by rw [ByteArray.size_extract]; unfold maxLen; omega)
  have hsl4 : ∀ wx, (Instr.slice 9 (.string s) (some (.int .i64 17)) (some (.int .i64 19)) none).run Tryz.prog wx = .ok (.string (s.extract 17 19)) wx := fun wx => run_slice_string (P := Tryz.prog) wx 9 s .i64 .i64 17 19 Tryz.underlying9 (by omega) (by omega) (by omega)
  have n5 := fun w => tnumber_any (s.extract 19 21) w (by rw [ByteArray.size_extract]; unfold maxLen; omega)
  have hsl5 : ∀ wx, (Instr.slice 9 (.string s) (some (.int .i64 19)) (some (.int .i64 21)) none).run Tryz.prog wx = .ok (.string (s.extract 19 21)) wx := fun wx => run_slice_string (P := Tryz.prog) wx 9 s .i64 .i64 19 21 Tryz.underlying9 (by omega) (by omega) (by omega)
  have hsl6 : ∀ wx, (Instr.slice 9 (.string s) (some (.int .i64 21)) none none).run Tryz.prog wx = .ok (.string (s.extract 21 s.size)) wx := fun wx => run_slice_string_l (P := Tryz.prog) wx 9 s Tryz.underlying9 .i64 21 (by omega) (by omega)
  generalize readV (s.extract 0 4) = v0 at *
  generalize readV (s.extract 4 8) = v1 at *
  generalize readV (s.extract 8 16) = v2 at *
  generalize readV (s.extract 16 17) = v3 at *
  generalize readV (s.extract 17 19) = v4 at *
  generalize readV (s.extract 19 21) = v5 at *
  generalize s.extract 0 4 = p0 at *
  generalize s.extract 4 8 = p1 at *
  generalize s.extract 8 16 = p2 at *
  generalize s.extract 16 17 = p3 at *
  generalize s.extract 17 19 = p4 at *
  generalize s.extract 19 21 = p5 at *
  generalize s.extract 21 s.size = p6 at *
  have N0 := hide n0; have N1 := hide n1; have N2 := hide n2; have N3 := hide n3; have N4 := hide n4; have N5 := hide n5
  clear n0 n1 n2 n3 n4 n5 hd hv h hs
  go_enter Tryz.func88, Tryz.ntmps88
  go_wp2_with fail
  go_region_held3 (fun _ => True) (exact trivial)
    ((first | (go_at_call_of 98 (Value.string p0); refine (unhide N0 _).mono ?_; rintro e y0 ⟨rfl, hy⟩; subst hy) | (go_at_call_of 98 (Value.string p1); refine (unhide N1 _).mono ?_; rintro e y1 ⟨rfl, hy⟩; subst hy) | (go_at_call_of 98 (Value.string p2); refine (unhide N2 _).mono ?_; rintro e y2 ⟨rfl, hy⟩; subst hy) | (go_at_call_of 98 (Value.string p3); refine (unhide N3 _).mono ?_; rintro e y3 ⟨rfl, hy⟩; subst hy) | (go_at_call_of 98 (Value.string p4); refine (unhide N4 _).mono ?_; rintro e y4 ⟨rfl, hy⟩; subst hy) | (go_at_call_of 98 (Value.string p5); refine (unhide N5 _).mono ?_; rintro e y5 ⟨rfl, hy⟩; subst hy)))
  all_goals
    go_wp2
    exact bodyPost_ret (v := .agg #[.int .i64 v0, .int .i64 v1, .int .i64 v2, .bool (v3 == 1), .int .i64 v4, .int .i64 v5, .string p6]) (by simp [results, Tryz.results88, go_sem]) rfl ⟨rfl, (unhide HB _).drew⟩
end Go.Proofs.YtfpglpefofcdeaaGreatDoor
