/- Decide, of the program and of the document's own: one contract each. -/
import Derived.Test.YtklnbkfajjgkaagDecP
import Derived.Test.YtklnbkfajjgkaagQB0
import Derived.Deep.RegionWith
namespace Go.Proofs.Ytklnbkfajjgkaag
open Go.RowKit
set_option linter.unusedVariables false

theorem within_any (n lo hi : Int) (w : World) :
    Calls Try.prog 8 #[.int .i64 n, .int .i64 lo, .int .i64 hi] w fun e w' => e = .returned (.bool (decide (lo ≤ n) && decide (n ≤ hi))) ∧ w' = w := by
  by_cases c0 : lo ≤ n
  · go_enter Try.func8, Try.ntmps8
    go_wp2
    go_ret
    exact ⟨ret_bool (by simp [c0]), rfl⟩
  · go_enter Try.func8, Try.ntmps8
    go_wp2
    go_ret
    exact ⟨ret_bool (by simp; omega), rfl⟩
theorem isBits_any (n : Int) (w : World) :
    Calls Try.prog 5 #[.int .i64 n] w fun e w' => e = .returned (.bool (bitsOK n)) ∧ w' = w := by
  have n1 := fun w => within_any n 0 4095 w
  have N1 := hide n1
  clear n1
  go_enter Try.func5, Try.ntmps5
  go_wp2_with fail
  refine (unhide N1 _).mono ?_
  rintro e w1 ⟨rfl, rfl⟩
  go_wp2
  go_ret
  exact ⟨rfl, rfl⟩
theorem areBits_any (m : XMasks) (w : World) :
    Calls Try.prog 6 #[valMasks m] w fun e w' => e = .returned (.bool (masksOK m)) ∧ Below w.heap.size w w' := by
  obtain ⟨d, o, f⟩ := m
  have n1 := fun w => isBits_any d w
  have n2 := fun w => isBits_any o w
  have n3 := fun w => isBits_any f w
  unfold valMasks masksOK
  simp only
  generalize bitsOK d = bd at *
  generalize bitsOK o = bo at *
  generalize bitsOK f = bf at *
  have N1 := hide n1; have N2 := hide n2; have N3 := hide n3
  clear n1 n2 n3
  cases bd <;> cases bo <;>
  · go_enter Try.func6, Try.ntmps6
    go_wp2_with (first | (go_at_call_of 5 (Value.int .i64 d); refine (unhide N1 _).mono ?_; rintro e w1 ⟨rfl, hw1⟩; subst hw1) | (go_at_call_of 5 (Value.int .i64 o); refine (unhide N2 _).mono ?_; rintro e w1 ⟨rfl, hw1⟩; subst hw1) | (go_at_call_of 5 (Value.int .i64 f); refine (unhide N3 _).mono ?_; rintro e w1 ⟨rfl, hw1⟩; subst hw1))
    go_ret
    exact ⟨ret_bool (by simp), (Below.refl _ _).alloc (Nat.le_refl _) _⟩

/-- the literal that asks whether one is among two masks -/
theorem among_any (b c s : Int) (g : Nat) (w : World) (hc : w.cell? ⟨g, 0, none⟩ = some (.int .i64 b)) :
    Calls Try.prog 7 #[.int .i64 c, .int .i64 s, .pointer (some ⟨g, 0, none⟩)] w fun e w' => e = .returned (.bool (bits .and .i64 b (bits .or .i64 c s) != 0)) ∧ w' = w := by
  go_enter Try.func7, Try.ntmps7
  go_wp2
  go_ret
  exact ⟨rfl, rfl⟩

/-- three new blocks -/
def boxes (b : Int) (c s : XMasks) (w : World) : World :=
  (((w.alloc (Obj.cells #[.int .i64 b] 3)).alloc (Obj.cells #[.int .i64 c.d, .int .i64 c.o, .int .i64 c.f] 23)).alloc (Obj.cells #[.int .i64 s.d, .int .i64 s.o, .int .i64 s.f] 23))
structure InBoxes (b : Int) (c s : XMasks) (n : Nat) (w : World) : Prop where
  b0 : w.cell? ⟨n, 0, none⟩ = some (.int .i64 b)
  c0 : w.cell? ⟨n + 1, 0, none⟩ = some (.int .i64 c.d)
  c1 : w.cell? ⟨n + 1, 1, none⟩ = some (.int .i64 c.o)
  c2 : w.cell? ⟨n + 1, 2, none⟩ = some (.int .i64 c.f)
  s0 : w.cell? ⟨n + 1 + 1, 0, none⟩ = some (.int .i64 s.d)
  s1 : w.cell? ⟨n + 1 + 1, 1, none⟩ = some (.int .i64 s.o)
  s2 : w.cell? ⟨n + 1 + 1, 2, none⟩ = some (.int .i64 s.f)
theorem inBoxes (b : Int) (c s : XMasks) (w w' : World) (h : Below (boxes b c s w).heap.size (boxes b c s w) w') : InBoxes b c s w.heap.size w' := by
  have hz : (boxes b c s w).heap.size = w.heap.size + 3 := by simp [boxes]
  refine ⟨?_, ?_, ?_, ?_, ?_, ?_, ?_⟩ <;> (refine (h.cell (by rw [hz]; simp <;> omega)).trans ?_; unfold boxes; first | (rw [World.cell?_alloc_at _ _ _ _ (by simp)]; rfl) | (rw [World.cell?_alloc_past _ _ _ (by simp), World.cell?_alloc_at _ _ _ _ (by simp)]; rfl) | (rw [World.cell?_alloc_past _ _ _ (by simp <;> omega), World.cell?_alloc_past _ _ _ (by simp), World.cell?_alloc_at _ _ _ _ rfl]; rfl))
theorem below_boxes (b : Int) (c s : XMasks) (w : World) : Below w.heap.size w (boxes b c s w) :=
  (((Below.refl _ _).alloc (Nat.le_refl _) _).alloc (by simp) _).alloc (by simp; omega) _

set_option maxHeartbeats 4000000 in
theorem decide_any (b : Int) (c s : XMasks) (able : Bool) (w : World) :
    Calls Try.prog 4 #[.int .i64 b, valMasks c, valMasks s, .bool able] w fun e w' => e = .returned (.tuple #[.int .i64 (decA b c s able), .int .i64 (decE b c s)]) ∧ Below w.heap.size w w' := by
  have n1 := fun w => isBits_any b w
  have n2 := fun w => areBits_any c w
  have n3 := fun w => areBits_any s w
  have hbx := below_boxes b c s w
  have hin := inBoxes b c s w
  unfold valMasks at n2 n3
  cases h1 : bitsOK b with
  | false =>
    have e1 : decA b c s able = 0 := by simp [decA, decOK, h1]
    have e2 : decE b c s = 3 := by simp [decE, decOK, h1]
    rw [e1, e2]
    rw [h1] at n1
    have N1 := hide n1
    clear n1 n2 n3 e1 e2 h1 hin
    unfold valMasks
    go_enter Try.func4, Try.ntmps4
    go_wp2_with (go_at_call 5; refine (unhide N1 _).mono ?_; rintro e w1 ⟨rfl, hw1⟩; subst hw1)
    go_ret2
    exact ⟨rfl, hbx⟩
  | true =>
    rw [h1] at n1
    have N1 := hide n1
    clear n1
    cases h2 : masksOK c with
    | false =>
      have e1 : decA b c s able = 0 := by simp [decA, decOK, h2]
      have e2 : decE b c s = 3 := by simp [decE, decOK, h2]
      rw [e1, e2]
      rw [h2] at n2
      have N2 := hide n2
      clear n2 n3 e1 e2 h1 h2 hin
      unfold valMasks
      go_enter Try.func4, Try.ntmps4
      go_wp2_with fail
      refine (unhide N1 _).mono ?_
      rintro e w1 ⟨rfl, hw1⟩
      subst hw1
      go_wp2_with fail
      refine (unhide N2 _).mono ?_
      rintro e w1 ⟨rfl, hb1⟩
      go_wp2_with fail
      go_ret2
      exact ⟨rfl, hbx.trans (hb1.mono hbx.size)⟩
    | true =>
      rw [h2] at n2
      have N2 := hide n2
      clear n2
      cases h3 : masksOK s with
      | false =>
        have e1 : decA b c s able = 0 := by simp [decA, decOK, h3]
        have e2 : decE b c s = 3 := by simp [decE, decOK, h3]
        rw [e1, e2]
        rw [h3] at n3
        have N3 := hide n3
        have hin1 := hin
        clear n3 e1 e2 h1 h2 h3
        unfold valMasks
        go_enter Try.func4, Try.ntmps4
        go_wp2_with fail
        refine (unhide N1 _).mono ?_
        rintro e w1 ⟨rfl, hw1⟩
        subst hw1
        go_wp2_with fail
        refine (unhide N2 _).mono ?_
        rintro e w1 ⟨rfl, hb1⟩
        have HB : Below (boxes b c s w).heap.size (boxes b c s w) w1 := hb1
        obtain ⟨i0, i1, i2, i3, i4, i5, i6⟩ := hin _ HB
        clear hb1
        go_wp2_with fail
        refine (unhide N3 _).mono ?_
        rintro e w2 ⟨rfl, hb2⟩
        go_wp2_with fail
        go_ret2
        exact ⟨rfl, hbx.trans ((HB.trans (hb2.mono HB.size)).mono hbx.size)⟩
      | true =>
        rw [h3] at n3
        have N3 := hide n3
        have k1 : ∀ x : XMasks, masksOK x = true → bitsOK x.d = true ∧ bitsOK x.o = true ∧ bitsOK x.f = true := fun x hx => by simpa [masksOK] using hx
        obtain ⟨c1, c2, c3⟩ := k1 c h2
        obtain ⟨s1, s2, s3⟩ := k1 s h3
        have e2 : decE b c s = 0 := by simp [decE, decOK, h1, h2, h3]
        have e1 : decA b c s able = bif hit b c.d s.d then 1 else bif able then (bif hit b c.o s.o then 2 else 3) else (bif hit b c.f s.f then 1 else 3) := by simp [decA, decOK, h1, h2, h3]
        have f1 := fun g w hc => among_any b c.d s.d g w hc
        have f2 := fun g w hc => among_any b c.o s.o g w hc
        have f3 := fun g w hc => among_any b c.f s.f g w hc
        rw [hit_or b c.d s.d h1 c1 s1] at f1
        rw [hit_or b c.o s.o h1 c2 s2] at f2
        rw [hit_or b c.f s.f h1 c3 s3] at f3
        rw [e1, e2]
        clear n3 e1 e2 h1 h2 h3 k1 c1 c2 c3 s1 s2 s3
        unfold valMasks
        generalize hit b c.d s.d = t1 at *
        generalize hit b c.o s.o = t2 at *
        generalize hit b c.f s.f = t3 at *
        have F1 := hide f1; have F2 := hide f2; have F3 := hide f3
        clear f1 f2 f3
        have hcase : t1 = true ∨ (t1 = false ∧ able = true ∧ t2 = true) ∨ (t1 = false ∧ able = true ∧ t2 = false) ∨ (t1 = false ∧ able = false ∧ t3 = true) ∨ (t1 = false ∧ able = false ∧ t3 = false) := by
          cases t1 <;> cases able <;> cases t2 <;> cases t3 <;> simp
        rcases hcase with rfl | ⟨rfl, rfl, rfl⟩ | ⟨rfl, rfl, rfl⟩ | ⟨rfl, rfl, rfl⟩ | ⟨rfl, rfl, rfl⟩ <;>
        · go_enter Try.func4, Try.ntmps4
          go_wp2_with fail
          refine (unhide N1 _).mono ?_
          rintro e w1 ⟨rfl, hw1⟩
          subst hw1
          go_wp2_with fail
          refine (unhide N2 _).mono ?_
          rintro e w1 ⟨rfl, hb1⟩
          have HB : Below (boxes b c s w).heap.size (boxes b c s w) w1 := hb1
          have i4 := (hin _ HB).s0
          have i5 := (hin _ HB).s1
          have i6 := (hin _ HB).s2
          clear hb1
          go_wp2_with fail
          refine (unhide N3 _).mono ?_
          rintro e w2 ⟨rfl, hb2⟩
          have HB2 : Below (boxes b c s w).heap.size (boxes b c s w) w2 := HB.trans (hb2.mono HB.size)
          clear i4 i5 i6 HB hb2
          obtain ⟨i0, i1, i2, i3, i4, i5, i6⟩ := hin _ HB2
          have I0 := hide i0
          clear i0
          go_wp2_with (first
            | (go_at_call_of 7 (Value.int .i64 c.d); refine (unhide F1 _ _ (unhide I0)).mono ?_; rintro e w3 ⟨rfl, hw3⟩; subst hw3)
            | (go_at_call_of 7 (Value.int .i64 c.o); refine (unhide F2 _ _ (unhide I0)).mono ?_; rintro e w3 ⟨rfl, hw3⟩; subst hw3)
            | (go_at_call_of 7 (Value.int .i64 c.f); refine (unhide F3 _ _ (unhide I0)).mono ?_; rintro e w3 ⟨rfl, hw3⟩; subst hw3))
          go_ret2
          exact ⟨rfl, hbx.trans (HB2.mono hbx.size)⟩
end Go.Proofs.Ytklnbkfajjgkaag
