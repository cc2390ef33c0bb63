/- host's newAccount: a struct of 109 cells. -/
import Derived.Test.YtbiipeapcclbkaaDoorHkG
import Derived.Deep.RegionLaw
namespace Go.Proofs.YtbiipeapcclbkaaDoor
open Go.RowKit Go.WideMaps Go.Maps
set_option linter.unusedVariables false
set_option linter.unusedSimpArgs false
set_option maxRecDepth 100000

theorem step_call2 {P : Program} {ops : Array Oper} {o : Oper} {a : Act} {w : World} {K : Act → World → Prop} {Q : Exit → Act → World → Prop} {E : Prop} (hgd : o.guard = none) (f : FuncId) (x0 x1 : Operand) (ts : Array TypeId)
    (ho : o.op = .call { callee := .value (.func f), args := #[x0, x1], argTypes := ts }) (v0 v1 : Value) (hx0 : a.eval x0 = v0) (hx1 : a.eval x1 = v1) (hf : ∀ args w, (callFunc f args).run P w = .ok (.enter f args) w)
    {S : Ending → World → Prop} (hc : Calls P f #[v0, v1] w S) (hv : ∀ e w', S e w' → ∃ v, e = .returned v ∧ K (a.put o.dst v) w') :
    if Region.wanted o (yielded ops a.tmps) = true then Oper.wp P o a w K Q else E := by
  have hw : Region.wanted o (yielded ops a.tmps) = true := by simp [Region.wanted, hgd]
  rw [if_pos hw]
  obtain ⟨dst, op, ty, pos, after, guard⟩ := o
  cases ho
  have hrun : (execOp a.eval { dst, op := .call { callee := .value (.func f), args := #[x0, x1], argTypes := ts }, type := ty, pos, after, guard }).run P w = .ok (.enter f #[v0, v1]) w := by
    show (callFunc f (#[] ++ #[x0, x1].map a.eval ++ #[])).run P w = _
    have e : (#[] ++ #[x0, x1].map a.eval ++ #[]) = #[v0, v1] := by simp [hx0, hx1]
    rw [e]; exact hf _ _
  unfold Oper.wp
  rw [hrun, Oper.upon_enter]
  refine hc.mono fun e w' hh => ?_
  obtain ⟨v, rfl, hk⟩ := hv e w' hh
  exact hk
theorem ent_keyFor (args : Array Value) (w : World) : (callFunc 31 args).run Tryd.prog w = .ok (.enter 31 args) w := by kernel_rfl
set_option maxHeartbeats 4000000 in
theorem newAccount_any (a : XAccount) (v : Int) (k : ByteArray) (hi : a.id.size ≤ maxLen) (w : World) :
    Calls Tryd.prog 16 #[valAccount a, .agg #[.int .i64 v, .string k]] w fun e w' => (∃ n, e = .returned (.pointer (some ⟨n, 0, none⟩))) ∧ Below w.heap.size w w' := by
  obtain ⟨id, pin, bal, mo, ver⟩ := a
  unfold valAccount
  dsimp only at hi ⊢
  have N := hide (fun W => keyFor_any v k id hi W)
  have hmm := @run_makeMap Tryd.prog
  clear hi
  go_enter Tryd.func16, Tryd.ntmps16
  go_upto_region 2 with fail
  have z4 : (((((Tryd.zeroCells82.setIfInBounds 0 (Value.string pin)).setIfInBounds 1 (Value.int .i64 bal)).setIfInBounds 3 (Value.int .i64 mo)).setIfInBounds 106 (Value.map (some (w.heap.size + 1 + 1)))))[4]? = some (.int .i64 0) := by
    rw [Array.getElem?_setIfInBounds_ne (by decide), Array.getElem?_setIfInBounds_ne (by decide), Array.getElem?_setIfInBounds_ne (by decide), Array.getElem?_setIfInBounds_ne (by decide)]
    kernel_rfl
  have z5 : (((((Tryd.zeroCells82.setIfInBounds 0 (Value.string pin)).setIfInBounds 1 (Value.int .i64 bal)).setIfInBounds 3 (Value.int .i64 mo)).setIfInBounds 106 (Value.map (some (w.heap.size + 1 + 1)))))[5]? = some (.string ⟨#[]⟩) := by
    rw [Array.getElem?_setIfInBounds_ne (by decide), Array.getElem?_setIfInBounds_ne (by decide), Array.getElem?_setIfInBounds_ne (by decide), Array.getElem?_setIfInBounds_ne (by decide)]
    kernel_rfl
  generalize (((((Tryd.zeroCells82.setIfInBounds 0 (Value.string pin)).setIfInBounds 1 (Value.int .i64 bal)).setIfInBounds 3 (Value.int .i64 mo)).setIfInBounds 106 (Value.map (some (w.heap.size + 1 + 1))))) = cs at *
  obtain ⟨W4, hW4⟩ : ∃ W4, W4 = (((w.alloc (.cells #[.string id, .string pin, .int .i64 bal, .int .i64 mo, .int .i64 ver] 27)).alloc (.cells #[.int .i64 v, .string k] 52)).alloc (.map #[] 0)).alloc (.cells cs 82) := ⟨_, rfl⟩
  have a1 : ∀ (u : World) (o : Obj), Below u.heap.size u (u.alloc o) := fun u o => (Below.refl _ _).alloc (Nat.le_refl _) _
  have s1 : (w.alloc (.cells #[.string id, .string pin, .int .i64 bal, .int .i64 mo, .int .i64 ver] 27)).heap.size = w.heap.size + 1 := by simp
  have s2 : ((w.alloc (.cells #[.string id, .string pin, .int .i64 bal, .int .i64 mo, .int .i64 ver] 27)).alloc (.cells #[.int .i64 v, .string k] 52)).heap.size = w.heap.size + 1 + 1 := by simp
  have s3 : (((w.alloc (.cells #[.string id, .string pin, .int .i64 bal, .int .i64 mo, .int .i64 ver] 27)).alloc (.cells #[.int .i64 v, .string k] 52)).alloc (.map #[] 0)).heap.size = w.heap.size + 1 + 1 + 1 := by simp
  have hx0 := heap_alloc_new w (.cells #[.string id, .string pin, .int .i64 bal, .int .i64 mo, .int .i64 ver] 27)
  have hx1 := heap_alloc_new (w.alloc (.cells #[.string id, .string pin, .int .i64 bal, .int .i64 mo, .int .i64 ver] 27)) (.cells #[.int .i64 v, .string k] 52)
  have hx3 := heap_alloc_new (((w.alloc (.cells #[.string id, .string pin, .int .i64 bal, .int .i64 mo, .int .i64 ver] 27)).alloc (.cells #[.int .i64 v, .string k] 52)).alloc (.map #[] 0)) (.cells cs 82)
  replace hx0 := ((a1 _ (.cells #[.int .i64 v, .string k] 52)).block _ (by rw [s1]; omega)).trans hx0
  replace hx0 := ((a1 _ (.map #[] 0)).block _ (by rw [s2]; omega)).trans hx0
  replace hx0 := ((a1 _ (.cells cs 82)).block _ (by rw [s3]; omega)).trans hx0
  rw [s1] at hx1
  replace hx1 := ((a1 _ (.map #[] 0)).block _ (by rw [s2]; omega)).trans hx1
  replace hx1 := ((a1 _ (.cells cs 82)).block _ (by rw [s3]; omega)).trans hx1
  rw [s3] at hx3
  have hB4 : Below w.heap.size w W4 := by
    rw [hW4]
    exact ((((Below.refl _ _).alloc (Nat.le_refl _) _).alloc (by simp) _).alloc (by simp; omega) _).alloc (by simp; omega) _
  rw [← hW4] at hx0 hx1 hx3 ⊢
  have d0 : W4.cell? ⟨w.heap.size, 0, none⟩ = some (.string id) := (cell_of_row _ _ 0 _ _ _ hx0).trans rfl
  have m0 : W4.cell? ⟨w.heap.size + 1, 0, none⟩ = some (.int .i64 v) := (cell_of_row _ _ 0 _ _ _ hx1).trans rfl
  have m1 : W4.cell? ⟨w.heap.size + 1, 1, none⟩ = some (.string k) := (cell_of_row _ _ 1 _ _ _ hx1).trans rfl
  have HX3 := hide hx3; have HB4 := hide hB4; have HZ4 := hide z4; have HZ5 := hide z5
  clear hx0 hx1 hx3 hB4 z4 z5 hW4 s1 s2 s3 a1
  go_region_law ((refine step_call2 (by rfl) 31 _ _ _ (by rfl) (.agg #[.int .i64 v, .string k]) (.string id) (by rfl) (by rfl) ent_keyFor (unhide N _) ?_; rintro ev z1 ⟨⟨s, rfl⟩, k1⟩; refine ⟨_, rfl, ?_⟩; have k0 : Below W4.heap.size W4 z1 := (Below.refl _ _).drew.trans k1; have hy := (k0.block _ (blkLtH (unhide HX3))).trans (unhide HX3); have q4 : z1.cell? ⟨w.heap.size + 1 + 1 + 1, 4, none⟩ = some (.int .i64 0) := (cell_of_row _ _ 4 _ _ _ hy).trans (unhide HZ4); have q5 : z1.cell? ⟨w.heap.size + 1 + 1 + 1, 5, none⟩ = some (.string ⟨#[]⟩) := (cell_of_row _ _ 5 _ _ _ hy).trans (unhide HZ5); have g4 : z1.frozen? ⟨w.heap.size + 1 + 1 + 1, 4, none⟩ = false := (by simp [World.frozen?, hy]); have g5 : z1.frozen? ⟨w.heap.size + 1 + 1 + 1, 5, none⟩ = false := (by simp [World.frozen?, hy])))
  all_goals
    have HBZ := hide ((unhide HB4).trans (k0.mono (unhide HB4).size))
    clear k0 k1 hy
    go_wp2
    go_ret
    exact ⟨⟨_, rfl⟩, ((unhide HBZ).setCell (by simp; omega) _).setCell (by simp; omega) _⟩
end Go.Proofs.YtbiipeapcclbkaaDoor
