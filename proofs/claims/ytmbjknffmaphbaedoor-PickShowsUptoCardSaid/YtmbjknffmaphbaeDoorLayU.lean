/- The library's utf8.DecodeRuneInString at this program: the table of numbers, and that the library's text lies there; what stands for a letter. -/
import Derived.Shelf.Unicode.DecodeAny
import Derived.Test.YtmbjknffmaphbaeDoorShwP
namespace Go.Proofs
open Go.Shelf
def Tryd.lays197_ren : Go.Shelf.Ren := ⟨fun | 197 => 7 | 260 => 8 | n => n, fun | 9 => 9 | 21 => 21 | 3 => 3 | 4 => 4 | 5 => 5 | 105 => 27 | 119 => 29 | 0 => 0 | 46 => 30 | 139 => 33 | 138 => 32 | n => n, fun | 3 => 0 | 4 => 1 | n => n⟩
theorem Tryd.lays197 : Go.Proofs.Lays.n197 Tryd.prog Tryd.lays197_ren := {
  mixed := by kernel_rfl
  f197 := Tryd.func7.trans (congrArg some (by kernel_rfl))
  f260 := Tryd.func8.trans (congrArg some (by kernel_rfl))
  t0 := Tryd.underlying0
  a0 := Tryd.isAgg0
  z0 := Tryd.sizeOf0
  v0 := Tryd.zeroValue0
  t3 := Tryd.underlying3
  a3 := Tryd.isAgg3
  z3 := Tryd.sizeOf3
  v3 := Tryd.zeroValue3
  t4 := Tryd.underlying4
  a4 := Tryd.isAgg4
  z4 := Tryd.sizeOf4
  v4 := Tryd.zeroValue4
  t5 := Tryd.underlying5
  a5 := Tryd.isAgg5
  z5 := Tryd.sizeOf5
  v5 := Tryd.zeroValue5
  t9 := Tryd.underlying9
  a9 := Tryd.isAgg9
  z9 := Tryd.sizeOf9
  v9 := Tryd.zeroValue9
  t21 := Tryd.underlying21
  a21 := Tryd.isAgg21
  z21 := Tryd.sizeOf21
  v21 := Tryd.zeroValue21
  t46 := Tryd.underlying30
  a46 := Tryd.isAgg30
  z46 := Tryd.sizeOf30
  v46 := Tryd.zeroValue30
  t105 := Tryd.underlying27
  a105 := Tryd.isAgg27
  z105 := Tryd.sizeOf27
  v105 := Tryd.zeroValue27
  t119 := Tryd.underlying29
  a119 := Tryd.isAgg29
  z119 := Tryd.sizeOf29
  t138 := Tryd.underlying32
  a138 := Tryd.isAgg32
  z138 := Tryd.sizeOf32
  v138 := Tryd.zeroValue32
  t139 := Tryd.underlying33
  a139 := Tryd.isAgg33
  z139 := Tryd.sizeOf33
  v139 := Tryd.zeroValue33
  g3 := by kernel_rfl
  g4 := by kernel_rfl }
end Go.Proofs
namespace Go.Proofs.YtmbjknffmaphbaeDoor
open Go.RowKit Go.Lib
set_option linter.unusedVariables false
/-- the two tables of letters -/
def Tabs (w : World) : Prop := Lib.Utf8Tabs (Tryd.lays197_ren.g 3) (Tryd.lays197_ren.g 4) w
theorem decode_any (s : ByteArray) (w : World) (hT : Tabs w) :
    Calls Tryd.prog 7 #[.string s] w fun e w' => e = .returned (.tuple #[.int .i32 (Lib.decodeGo s).1, .int .i64 (Lib.decodeGo s).2]) ∧ Below w.heap.size w w' :=
  Any.utf8_DecodeRuneInString Tryd.lays197 s w hT
theorem Tabs.below {w w' : World} {B : Nat} (h : Tabs w) (hb : Below B w w') (hB : 2 ≤ B) : Tabs w' :=
  ⟨fun c hc => (hb.cell (p := ⟨Tryd.lays197_ren.g 3, c, none⟩) (by show 0 < B; omega)).trans (h.1 c hc), fun i hi => ⟨(hb.cell (p := ⟨Tryd.lays197_ren.g 4, 2 * i, none⟩) (by show 1 < B; omega)).trans (h.2 i hi).1, (hb.cell (p := ⟨Tryd.lays197_ren.g 4, 2 * i + 1, none⟩) (by show 1 < B; omega)).trans (h.2 i hi).2⟩⟩
theorem Tabs.two {w : World} (h : Tabs w) : 2 ≤ w.heap.size := World.block_lt_of_cell? w ⟨Tryd.lays197_ren.g 4, 0, none⟩ (h.2 0 (by decide)).1
theorem decodeGo_at (s : ByteArray) (h : s.size ≠ 0) : Lib.decodeGo s = decodeL s.data.toList := by
  unfold Lib.decodeGo decodeL
  rw [if_neg h]

set_option maxRecDepth 100000 in
theorem shownAs_any (r : Nat) (s : ByteArray) (w : World) (hT : Tabs w) (hr : (r : Int) ≤ 1114111) :
    Calls Tryd.prog 6 #[.int .i32 (r : Int), .string s] w fun e w' => e = .returned (.int .i32 (asR r (Lib.decodeGo s).2)) ∧ Below w.heap.size w w' := by
  have N1 := hide (decode_any s w hT)
  generalize Lib.decodeGo s = gd at *
  obtain ⟨r0, n0⟩ := gd
  have HA := hide (show asR r n0 = if r = 65533 ∧ n0 = 1 then 63 else if r < 32 ∨ r = 127 then 32 else (r : Int) from rfl)
  simp only at *
  generalize asR r n0 = out at *
  clear hT
  by_cases h1 : r = 65533 ∧ n0 = 1
  · have t1 : ((r : Int) == 65533) = true := by rw [beq_iff_eq]; omega
    have t2 : ((n0 : Int) == 1) = true := by rw [beq_iff_eq]; omega
    have HO := hide (show out = 63 by rw [unhide HA]; exact if_pos h1)
    clear HA h1
    go_enter Tryd.func6, Tryd.ntmps6
    go_wp2_with fail
    refine (unhide N1).mono ?_
    rintro e w1 ⟨rfl, hb1⟩
    go_wp2
    go_ret
    exact ⟨by rw [unhide HO]; rfl, hb1⟩
  · by_cases h2 : r < 32 ∨ r = 127
    · have HO := hide (show out = 32 by rw [unhide HA, if_neg h1]; exact if_pos h2)
      have t1 : ((r : Int) == 65533) = false := by rw [beq_eq_false_iff_ne]; omega
      clear HA h1
      rcases h2 with h2 | h2
      · have t3 : (r : Int) < 32 := by omega
        clear h2
        go_enter Tryd.func6, Tryd.ntmps6
        go_wp2_with fail
        refine (unhide N1).mono ?_
        rintro e w1 ⟨rfl, hb1⟩
        go_wp2
        go_ret
        exact ⟨by rw [unhide HO]; rfl, hb1⟩
      · have t3 : ¬ (r : Int) < 32 := by omega
        have t4 : ((r : Int) == 127) = true := by rw [beq_iff_eq]; omega
        clear h2
        go_enter Tryd.func6, Tryd.ntmps6
        go_wp2_with fail
        refine (unhide N1).mono ?_
        rintro e w1 ⟨rfl, hb1⟩
        go_wp2
        go_ret
        exact ⟨by rw [unhide HO]; rfl, hb1⟩
    · have HO := hide (show out = (r : Int) by rw [unhide HA, if_neg h1]; exact if_neg h2)
      have t3 : ¬ (r : Int) < 32 := by omega
      have t4 : ((r : Int) == 127) = false := by rw [beq_eq_false_iff_ne]; omega
      by_cases h3 : r = 65533
      · have t1 : ((r : Int) == 65533) = true := by rw [beq_iff_eq]; omega
        have t2 : ((n0 : Int) == 1) = false := by rw [beq_eq_false_iff_ne]; omega
        clear HA h1 h2 h3
        go_enter Tryd.func6, Tryd.ntmps6
        go_wp2_with fail
        refine (unhide N1).mono ?_
        rintro e w1 ⟨rfl, hb1⟩
        go_wp2
        go_ret
        exact ⟨by rw [unhide HO]; rfl, hb1⟩
      · have t1 : ((r : Int) == 65533) = false := by rw [beq_eq_false_iff_ne]; omega
        clear HA h1 h2 h3
        go_enter Tryd.func6, Tryd.ntmps6
        go_wp2_with fail
        refine (unhide N1).mono ?_
        rintro e w1 ⟨rfl, hb1⟩
        go_wp2
        go_ret
        exact ⟨by rw [unhide HO]; rfl, hb1⟩
end Go.Proofs.YtmbjknffmaphbaeDoor
