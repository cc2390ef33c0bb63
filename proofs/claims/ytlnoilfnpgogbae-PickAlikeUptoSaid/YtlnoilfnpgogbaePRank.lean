/- Where an application stands: rank, and the literal by which candidates are ordered. -/
import Derived.Test.YtlnoilfnpgogbaePKnow2
import Derived.Deep.RegionHeld3
namespace Go.Proofs.Ytlnoilfnpgogbae
open Go.RowKit
set_option linter.unusedVariables false

def rankOf (x : XApp) : Int := if x.prio = 0 then 16 else x.prio
/-- what the literal answers -/
def cmpOf (a b : Int) : Int := if a < b then -1 else if b < a then 1 else 0

theorem rank_any (x : XApp) (w : World) :
    Calls Try.prog 31 #[valApp x] w fun e w' => e = .returned (.int .i64 (rankOf x)) ∧ Below w.heap.size w w' := by
  obtain ⟨nm, lb, pr, cf⟩ := x
  have hbx := fun o : Obj => (Below.refl w.heap.size w).alloc (Nat.le_refl _) o
  have HB := hide hbx
  clear hbx
  unfold valApp
  simp only
  by_cases h : pr = 0
  · have HE : Hid (rankOf ⟨nm, lb, pr, cf⟩ = 16) := hide (by rw [rankOf, if_pos h])
    go_enter Try.func31, Try.ntmps31
    go_wp2
    go_ret
    exact ⟨ret_int (unhide HE).symm, unhide HB _⟩
  · have HE : Hid (rankOf ⟨nm, lb, pr, cf⟩ = pr) := hide (by rw [rankOf, if_neg h])
    go_enter Try.func31, Try.ntmps31
    go_wp2
    go_ret
    exact ⟨ret_int (unhide HE).symm, unhide HB _⟩
theorem isNaN_any (x : Int) (w : World) : Calls Try.prog 43 #[.int .i64 x] w fun e w' => e = .returned (.bool false) ∧ w' = w := by
  go_enter Try.func43, Try.ntmps43
  go_wp2
  go_ret
  exact ⟨ret_bool (by simp), rfl⟩
theorem compare_any (a b : Int) (w : World) : Calls Try.prog 30 #[.int .i64 a, .int .i64 b] w fun e w' => e = .returned (.int .i64 (cmpOf a b)) ∧ w' = w := by
  have hcase : a < b ∨ (b ≤ a ∧ b < a) ∨ (b ≤ a ∧ a ≤ b) := by omega
  rcases hcase with h | ⟨h1, h2⟩ | ⟨h1, h2⟩
  · have HE : Hid (cmpOf a b = -1) := hide (by rw [cmpOf, if_pos h])
    go_enter Try.func30, Try.ntmps30
    go_wp2_with (go_at_call 43; refine (isNaN_any _ _).mono ?_; rintro e w1 ⟨rfl, hw1⟩; subst hw1)
    go_ret
    exact ⟨ret_int (unhide HE).symm, rfl⟩
  · have HE : Hid (cmpOf a b = 1) := hide (by rw [cmpOf, if_neg (by omega), if_pos h2])
    go_enter Try.func30, Try.ntmps30
    go_wp2_with (go_at_call 43; refine (isNaN_any _ _).mono ?_; rintro e w1 ⟨rfl, hw1⟩; subst hw1)
    go_ret
    exact ⟨ret_int (unhide HE).symm, rfl⟩
  · have HE : Hid (cmpOf a b = 0) := hide (by rw [cmpOf, if_neg (by omega), if_neg (by omega)])
    go_enter Try.func30, Try.ntmps30
    go_wp2_with (go_at_call 43; refine (isNaN_any _ _).mono ?_; rintro e w1 ⟨rfl, hw1⟩; subst hw1)
    go_ret
    exact ⟨ret_int (unhide HE).symm, rfl⟩

set_option maxHeartbeats 2000000 in
theorem order_any (x y : XApp) (w : World) :
    Calls Try.prog 29 #[valApp x, valApp y] w fun e w' => e = .returned (.int .i64 (cmpOf (rankOf x) (rankOf y))) ∧ Below w.heap.size w w' := by
  have n1 := fun w => rank_any x w
  have n2 := fun w => rank_any y w
  have n3 := fun w => compare_any (rankOf x) (rankOf y) w
  obtain ⟨W, hW⟩ : ∃ W, W = ((w.alloc (Obj.cells #[.string x.name, .string x.label, .int .i64 x.prio, .bool x.confirm] 31)).alloc (Obj.cells #[.string y.name, .string y.label, .int .i64 y.prio, .bool y.confirm] 31)) := ⟨_, rfl⟩
  have hbx : Below w.heap.size w W := by rw [hW]; exact ((Below.refl _ _).alloc (Nat.le_refl _) _).alloc (by simp) _
  have hsz : W.heap.size = w.heap.size + 2 := by rw [hW]; simp
  have hS : ∀ w', Below W.heap.size W w' → (w'.cell? ⟨w.heap.size, 0, none⟩ = some (.string x.name) ∧ w'.cell? ⟨w.heap.size, 1, none⟩ = some (.string x.label) ∧ w'.cell? ⟨w.heap.size, 2, none⟩ = some (.int .i64 x.prio) ∧ w'.cell? ⟨w.heap.size, 3, none⟩ = some (.bool x.confirm) ∧ w'.cell? ⟨w.heap.size + 1, 0, none⟩ = some (.string y.name) ∧ w'.cell? ⟨w.heap.size + 1, 1, none⟩ = some (.string y.label) ∧ w'.cell? ⟨w.heap.size + 1, 2, none⟩ = some (.int .i64 y.prio) ∧ w'.cell? ⟨w.heap.size + 1, 3, none⟩ = some (.bool y.confirm)) := fun w' hb => by
    refine ⟨?_, ?_, ?_, ?_, ?_, ?_, ?_, ?_⟩ <;> (refine (hb.cell (by rw [hsz]; simp)).trans ?_; rw [hW]; first | (rw [World.cell?_alloc_at _ _ _ _ (by simp)]; rfl) | (rw [World.cell?_alloc_past _ _ _ (by simp), World.cell?_alloc_at _ _ _ _ (by simp)]; rfl))
  unfold valApp at *
  generalize rankOf x = rx at *
  generalize rankOf y = ry at *
  generalize cmpOf rx ry = rc at *
  have N1 := hide n1; have N2 := hide n2; have N3 := hide n3
  have HW := hide hW
  clear n1 n2 n3 hW
  go_enter Try.func29, Try.ntmps29
  go_wp2_with fail
  rw [← unhide HW]
  go_region_held3 (fun w' => w'.cell? ⟨w.heap.size, 0, none⟩ = some (.string x.name) ∧ w'.cell? ⟨w.heap.size, 1, none⟩ = some (.string x.label) ∧ w'.cell? ⟨w.heap.size, 2, none⟩ = some (.int .i64 x.prio) ∧ w'.cell? ⟨w.heap.size, 3, none⟩ = some (.bool x.confirm) ∧ w'.cell? ⟨w.heap.size + 1, 0, none⟩ = some (.string y.name) ∧ w'.cell? ⟨w.heap.size + 1, 1, none⟩ = some (.string y.label) ∧ w'.cell? ⟨w.heap.size + 1, 2, none⟩ = some (.int .i64 y.prio) ∧ w'.cell? ⟨w.heap.size + 1, 3, none⟩ = some (.bool y.confirm))
    (first
      | exact hS _ (Below.refl _ _)
      | exact hS _ (Below.refl _ _).drew
      | exact hs3
      | exact hs2)
    ((first
      | (go_at_call 30; refine (unhide N3 _).mono ?_; rintro e y5 ⟨rfl, hy5⟩; subst hy5)
      | (go_at_call_of 31 (Value.int .i64 y.prio); rename Below W.heap.size W _ => hq; refine (unhide N2 _).mono ?_; rintro e y3 ⟨rfl, hy3⟩; have hy4 : Below W.heap.size W y3 := hq.trans (hy3.mono hq.size); have hs3 := hS _ hy4)
      | (go_at_call_of 31 (Value.int .i64 x.prio); refine (unhide N1 _).mono ?_; rintro e y1 ⟨rfl, hy1⟩; have hy2 : Below W.heap.size W y1 := (Below.refl _ _).drew.trans hy1; have hs2 := hS _ hy2)))
  all_goals
    go_wp2
    go_ret
    exact ⟨rfl, hbx.trans (hy4.mono hbx.size)⟩
end Go.Proofs.Ytlnoilfnpgogbae
