/- The big numbers themselves: Add into one of its own; Bit, Int64. -/
import Derived.Test.YtckkhpegimkefaaGreatDoorM27
namespace Go.Proofs.YtckkhpegimkefaaGreatDoor
open Go.RowKit
set_option linter.unusedVariables false

theorem step_call3 {P : Program} {ops : Array Oper} {o : Oper} {a : Act} {w : World} {K : Act → World → Prop} {Q : Exit → Act → World → Prop} {E : Prop} (hgd : o.guard = none) (f : FuncId) (x0 x1 x2 : Operand) (ts : Array TypeId)
    (ho : o.op = .call { callee := .value (.func f), args := #[x0, x1, x2], argTypes := ts }) (v0 v1 v2 : Value) (hx0 : a.eval x0 = v0) (hx1 : a.eval x1 = v1) (hx2 : a.eval x2 = v2) (hf : ∀ args w, (callFunc f args).run P w = .ok (.enter f args) w)
    {S : Ending → World → Prop} (hc : Calls P f #[v0, v1, v2] w S) (hv : ∀ e w', S e w' → ∃ v, e = .returned v ∧ K (a.put o.dst v) w') :
    if Region.wanted o (yielded ops a.tmps) = true then Oper.wp P o a w K Q else E := by
  have hw : Region.wanted o (yielded ops a.tmps) = true := by simp [Region.wanted, hgd]
  rw [if_pos hw]
  obtain ⟨dst, op, ty, pos, after, guard⟩ := o
  cases ho
  have hrun : (execOp a.eval { dst, op := .call { callee := .value (.func f), args := #[x0, x1, x2], argTypes := ts }, type := ty, pos, after, guard }).run P w = .ok (.enter f #[v0, v1, v2]) w := by
    show (callFunc f (#[] ++ #[x0, x1, x2].map a.eval ++ #[])).run P w = _
    have e : (#[] ++ #[x0, x1, x2].map a.eval ++ #[]) = #[v0, v1, v2] := by simp [hx0, hx1, hx2]
    rw [e]; exact hf _ _
  unfold Oper.wp
  rw [hrun, Oper.upon_enter]
  refine hc.mono fun e w' hh => ?_
  obtain ⟨v, rfl, hk⟩ := hv e w' hh
  exact hk
theorem step_call4 {P : Program} {ops : Array Oper} {o : Oper} {a : Act} {w : World} {K : Act → World → Prop} {Q : Exit → Act → World → Prop} {E : Prop} (hgd : o.guard = none) (f : FuncId) (x0 x1 x2 x3 : Operand) (ts : Array TypeId)
    (ho : o.op = .call { callee := .value (.func f), args := #[x0, x1, x2, x3], argTypes := ts }) (v0 v1 v2 v3 : Value) (hx0 : a.eval x0 = v0) (hx1 : a.eval x1 = v1) (hx2 : a.eval x2 = v2) (hx3 : a.eval x3 = v3) (hf : ∀ args w, (callFunc f args).run P w = .ok (.enter f args) w)
    {S : Ending → World → Prop} (hc : Calls P f #[v0, v1, v2, v3] w S) (hv : ∀ e w', S e w' → ∃ v, e = .returned v ∧ K (a.put o.dst v) w') :
    if Region.wanted o (yielded ops a.tmps) = true then Oper.wp P o a w K Q else E := by
  have hw : Region.wanted o (yielded ops a.tmps) = true := by simp [Region.wanted, hgd]
  rw [if_pos hw]
  obtain ⟨dst, op, ty, pos, after, guard⟩ := o
  cases ho
  have hrun : (execOp a.eval { dst, op := .call { callee := .value (.func f), args := #[x0, x1, x2, x3], argTypes := ts }, type := ty, pos, after, guard }).run P w = .ok (.enter f #[v0, v1, v2, v3]) w := by
    show (callFunc f (#[] ++ #[x0, x1, x2, x3].map a.eval ++ #[])).run P w = _
    have e : (#[] ++ #[x0, x1, x2, x3].map a.eval ++ #[]) = #[v0, v1, v2, v3] := by simp [hx0, hx1, hx2, hx3]
    rw [e]; exact hf _ _
  unfold Oper.wp
  rw [hrun, Oper.upon_enter]
  refine hc.mono fun e w' hh => ?_
  obtain ⟨v, rfl, hk⟩ := hv e w' hh
  exact hk
theorem ent_sum (args : Array Value) (w : World) : (callFunc 132 args).run Tryz.prog w = .ok (.enter 132 args) w := by kernel_rfl
theorem ent_give (args : Array Value) (w : World) : (callFunc 93 args).run Tryz.prog w = .ok (.enter 93 args) w := by kernel_rfl
set_option maxHeartbeats 4000000 in
set_option maxRecDepth 100000 in
theorem addOwn_any (p py a b : Nat) (w : World) (hx : IntAt w p a) (hy : IntAt w py b) (hpy : py ≠ p) (hla : a < B32 ^ 10000) (hlb : b < B32 ^ 10000) :
    Calls Tryz.prog 119 #[.pointer (some ⟨p, 0, none⟩), .pointer (some ⟨p, 0, none⟩), .pointer (some ⟨py, 0, none⟩)] w fun e w' => e = .returned (.pointer (some ⟨p, 0, none⟩)) ∧ IntAt w' p (a + b) ∧ (∀ B, B ≤ p → Below B w w') ∧ (∀ k, k < w.heap.size → k ≠ p → w'.heap[k]? = w.heap[k]?) ∧ w.heap.size ≤ w'.heap.size := by
  obtain ⟨va, hbx, hva⟩ := hx
  obtain ⟨vb, hby, hvb⟩ := hy
  have hplt := heap_lt hbx.1
  have N1 := hide (fun w' (hb : Below w.heap.size w w') => sum_add a b va vb w' (hva.below hb) (hvb.below hb) hla hlb)
  have N2 := hide (fun w' (hb : Below w.heap.size w w') v (hv : BigV w' v (a + b)) => give_any p (a + b) false va v w' (hbx.below hb) hv)
  obtain ⟨c0, c1⟩ := hbx.cells
  obtain ⟨d0, d1⟩ := hby.cells
  obtain ⟨x1, x2, x3, hv1⟩ := slice_of hva
  obtain ⟨y1, y2, y3, hv2⟩ := slice_of hvb
  subst hv1 hv2
  clear hla hlb hva hvb hbx hby
  go_enter Tryz.func119, Tryz.ntmps119
  go_wp2_with fail
  go_region_law ((first
    | (have hq := k1; refine step_call3 (by rfl) 93 _ _ _ _ (by rfl) (.pointer (some ⟨p, 0, none⟩)) (.bool false) v1 (by rfl) (by rfl) (by rfl) ent_give (unhide N2 _ k0 _ h1) ?_; rintro ev z2 ⟨rfl, hint, hbel, ho, hsz⟩; refine ⟨_, rfl, ?_⟩)
    | (refine step_call4 (by rfl) 132 _ _ _ _ _ (by rfl) (.bool false) (.slice x1 x2 x3) (.bool false) (.slice y1 y2 y3) (by rfl) (by rfl) (by rfl) (by rfl) ent_sum (unhide N1 _ (Below.refl _ _).drew) ?_; rintro ev z1 ⟨⟨v1, rfl, h1⟩, k1⟩; refine ⟨_, rfl, ?_⟩; have k0 : Below w.heap.size w z1 := (Below.refl _ _).drew.trans k1)))
  all_goals
    have R2 : Hid (∀ B, B ≤ p → Below B w z2) := hide (fun B hB' => (k0.mono (by omega)).trans (hbel B hB'))
    have R3 : Hid (∀ k, k < w.heap.size → k ≠ p → z2.heap[k]? = w.heap[k]?) := hide (fun k hk1 hk2 => (ho k (by have := k0.size; omega) hk2).trans (k0.block k hk1))
    have R4 : Hid (w.heap.size ≤ z2.heap.size) := hide (by have := k0.size; omega)
    have R1 := hide hint
    clear hint hbel ho hsz k0 k1 h1
    go_wp2
    go_ret
    exact ⟨rfl, unhide R1, unhide R2, unhide R3, unhide R4⟩
set_option maxHeartbeats 1000000 in
theorem bit0_any (p n : Nat) (w : World) (h : IntAt w p n) :
    Calls Tryz.prog 66 #[.pointer (some ⟨p, 0, none⟩), .int .i64 0] w fun e w' => e = .returned (.int .u64 ((n % 2 : Nat) : Int)) ∧ w' = w := by
  obtain ⟨v, hbx, hv⟩ := h
  obtain ⟨c0, c1⟩ := hbx.cells
  obtain ⟨ao, cap, rfl, hr⟩ := hv
  by_cases h0 : n = 0
  · subst h0
    rw [dig_zero] at c1
    clear hbx hr
    go_enter Tryz.func66, Tryz.ntmps66
    go_wp2
    go_ret
    exact ⟨rfl, rfl⟩
  · have hd := dig_pos h0
    obtain ⟨x, hx⟩ : ∃ x, x = n % 4294967296 := ⟨_, rfl⟩
    have hxe : n % B32 = x := hx.symm
    rw [hxe] at hd
    have hlen : (dig n).length = (dig (n / B32)).length + 1 := by rw [hd]; rfl
    rcases hr with h2 | ⟨g, off, rfl, hg, hc⟩
    · rw [hd] at h2; cases h2
    have c2 : w.cell? ⟨g, off, none⟩ = some (.int .u32 (x : Int)) := hc 0 x (by rw [hd]; rfl)
    have hl1 : (0 : Int) < ((dig n).length : Int) := by omega
    have hl2 : ¬ ((dig n).length : Int) ≤ 0 := by omega
    have wx : IntKind.u64.wrap (x : Int) = (x : Int) := wraps_u64 _ (by omega) (by omega)
    have hand : bits .and .u64 (x : Int) 1 = ((n % 2 : Nat) : Int) := by
      have e := (bits_nat .u64 64 (by decide) (fun n h0 h1 => wraps_u64 n h0 h1) x 1 (by omega) (by omega)).1
      rw [Nat.and_one_is_mod, show x % 2 = n % 2 by omega] at e
      exact e
    generalize (dig n).length = L at *
    have HAND := hide hand
    clear hbx hc hd hx hxe h0 hlen hand
    go_enter Tryz.func66, Tryz.ntmps66
    go_wp2
    go_ret
    exact ⟨ret_int (unhide HAND), rfl⟩
end Go.Proofs.YtckkhpegimkefaaGreatDoor
