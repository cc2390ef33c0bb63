/- Pair of the law's: one of six secrets. -/
import Derived.Test.YtckkhpegimkefaaGreatDoorM43
namespace Go.Proofs.YtckkhpegimkefaaGreatDoor
open Go.RowKit
set_option linter.unusedVariables false
set_option linter.unusedSimpArgs false
set_option maxRecDepth 100000

/-- which of so many -/
def chN (n c : Int) : Nat := ((if n < 0 then -(n + 1) else n) % c).toNat
theorem chN_lt (n c : Int) (hc : 0 < c) : (chN n c : Int) < c := by
  unfold chN
  have h1 := Int.emod_nonneg (if n < 0 then -(n + 1) else n) (Int.ne_of_gt hc)
  have h2 := Int.emod_lt_of_pos (if n < 0 then -(n + 1) else n) hc
  omega
theorem chN_int (n c : Int) (hc : 0 < c) : (chN n c : Int) = (if n < 0 then -(n + 1) else n) % c := by
  unfold chN
  have h1 := Int.emod_nonneg (if n < 0 then -(n + 1) else n) (Int.ne_of_gt hc)
  omega
theorem choose_any (n c : Int) (w : World) (hn : -9223372036854775808 ≤ n ∧ n ≤ 9223372036854775807) (hc : 0 < c ∧ c ≤ 9223372036854775807) :
    Calls Tryz.prog 10 #[.int .i64 n, .int .i64 c] w fun e w' => e = .returned (.int .i64 (chN n c : Int)) ∧ w' = w := by
  have hv := chN_int n c hc.1
  have hlt := chN_lt n c hc.1
  have e3 : IntKind.i64.wrap (chN n c : Int) = (chN n c : Int) := wraps_i64 _ (by omega) (by omega)
  have hc0 : c ≠ 0 := by omega
  have hcz : ¬ c = 0 := hc0
  by_cases hneg : n < 0
  · rw [if_pos hneg] at hv
    have hm : Int.tmod (-(n + 1)) c = (chN n c : Int) := by rw [hv]; exact Int.tmod_eq_emod_of_nonneg (by omega)
    generalize (chN n c : Int) = v at *
    clear hv hlt hc
    go_enter Tryz.func10, Tryz.ntmps10
    go_wp2
    go_ret
    exact ⟨rfl, rfl⟩
  · rw [if_neg hneg] at hv
    have hm : Int.tmod n c = (chN n c : Int) := by rw [hv]; exact Int.tmod_eq_emod_of_nonneg (by omega)
    generalize (chN n c : Int) = v at *
    clear hv hlt hc
    go_enter Tryz.func10, Tryz.ntmps10
    go_wp2
    go_ret
    exact ⟨rfl, rfl⟩
theorem choose6_any (c : Int) (w : World) (hc : -9223372036854775808 ≤ c ∧ c ≤ 9223372036854775807) :
    Calls Tryz.prog 10 #[.int .i64 c, .int .i64 6] w fun e w' => (∃ v : Nat, e = .returned (.int .i64 (v : Int)) ∧ v < 6 ∧ v = chN c 6) ∧ w' = w :=
  (choose_any c 6 w hc (by decide)).mono fun e w' h => ⟨⟨chN c 6, h.1, by have := chN_lt c 6 (by decide); omega, rfl⟩, h.2⟩
theorem ext_drewR {W x : World} (h : Below W.heap.size W x) : Below W.heap.size W x.drew := h.drew
theorem step_call1R {P : Program} {ops : Array Oper} {o : Oper} {a : Act} {w : World} {K : Act → World → Prop} {Q : Exit → Act → World → Prop} {E : Prop} (hgd : o.guard = none) (f : FuncId) (x : Operand) (ts : Array TypeId)
    (ho : o.op = .call { callee := .value (.func f), args := #[x], argTypes := ts }) (v : Value) (hx : a.eval x = v) (hf : ∀ args w, (callFunc f args).run P w = .ok (.enter f args) w)
    {S : Ending → World → Prop} (hc : Calls P f #[v] w S) (hv : ∀ e w', S e w' → ∃ v, e = .returned v ∧ K (a.put o.dst v) w') :
    if Region.wanted o (yielded ops a.tmps) = true then Oper.wp P o a w K Q else E := by
  have hw : Region.wanted o (yielded ops a.tmps) = true := by simp [Region.wanted, hgd]
  rw [if_pos hw]
  obtain ⟨dst, op, ty, pos, after, guard⟩ := o
  cases ho
  have hrun : (execOp a.eval { dst, op := .call { callee := .value (.func f), args := #[x], argTypes := ts }, type := ty, pos, after, guard }).run P w = .ok (.enter f #[v]) w := by
    show (callFunc f (#[] ++ #[x].map a.eval ++ #[])).run P w = _
    have e : (#[] ++ #[x].map a.eval ++ #[]) = #[v] := by simp [hx]
    rw [e]; exact hf _ _
  unfold Oper.wp
  rw [hrun, Oper.upon_enter]
  refine hc.mono fun e w' hh => ?_
  obtain ⟨v, rfl, hk⟩ := hv e w' hh
  exact hk
theorem entHex (args : Array Value) (w : World) : (callFunc 23 args).run Tryz.prog w = .ok (.enter 23 args) w := by kernel_rfl
theorem set_rowR {w : World} {g j : Nat} {cs : Array Value} {e : TypeId} {fr : Nat × Nat} {v : Value} (h : w.heap[g]? = some (.cells cs e fr)) : (w.setCell ⟨g, j, none⟩ v).heap[g]? = some (.cells (cs.setIfInBounds j v) e fr) := by
  simp [World.setCell, Array.getElem?_modify, h]

theorem fromHexT (j : Nat) (h : j < 12) (w : World) : Calls Tryz.prog 23 #[.string (hexT j)] w fun e w' => e = .returned (.string (prB j)) ∧ Below w.heap.size w w' := by
  have := fromHex_any (hexT j) (prL j) (hexT_size j) (by have := prL_le j h; omega) (hexT_hex j h) w
  rw [hexT_bytes j h] at this
  exact this
set_option maxHeartbeats 4000000 in
theorem pairF_any (n : Int) (w : World) (hn : -9223372036854775808 ≤ n ∧ n ≤ 9223372036854775807) (ht : PairTab w) :
    Calls Tryz.prog 8 #[.int .i64 n] w fun e w' => (∃ i, i < 6 ∧ e = .returned (.agg #[.string (prB (2 * i)), .string (prB (2 * i + 1))]) ∧ i = chN n 6) ∧ Below w.heap.size w w' := by
  have N0 := hide (fun W => choose6_any n W hn)
  have N1 := hide fromHexT
  have HT := hide ht
  have HB := hide (fun o : Obj => (Below.refl w.heap.size w).alloc (Nat.le_refl _) o)
  go_enter Tryz.func8, Tryz.ntmps8
  go_wp2_with fail
  refine (unhide N0 _).mono ?_
  rintro e w1 ⟨⟨v, rfl, hv, hvc⟩, hw⟩
  have hw' := hw.symm
  subst hw'
  clear hw
  obtain ⟨W1, hW1⟩ : ∃ W1, W1 = w.alloc (.cells #[.string ⟨#[]⟩, .string ⟨#[]⟩] 34) := ⟨_, rfl⟩
  have hB1 : Below w.heap.size w W1 := by rw [hW1]; exact unhide HB _
  have hX1 : W1.heap[w.heap.size]? = some (.cells #[.string ⟨#[]⟩, .string ⟨#[]⟩] 34 (0, 0)) := by rw [hW1]; exact heap_alloc_new _ _
  have ht1 : PairTab W1 := ht.below hB1 ht.lt
  rw [← hW1]
  obtain ⟨a, ha⟩ : ∃ a, a = hexT (2 * v) := ⟨_, rfl⟩
  obtain ⟨b, hb⟩ : ∃ b, b = hexT (2 * v + 1) := ⟨_, rfl⟩
  obtain ⟨p, hp⟩ : ∃ p, p = prB (2 * v) := ⟨_, rfl⟩
  obtain ⟨q, hq⟩ : ∃ q, q = prB (2 * v + 1) := ⟨_, rfl⟩
  have d0 := ht1 (2 * v) (by omega)
  have d1 := ht1 (2 * v + 1) (by omega)
  have n1 := fun W => unhide N1 (2 * v) (by omega) W
  have n2 := fun W => unhide N1 (2 * v + 1) (by omega) W
  rw [← ha] at d0 n1
  rw [← hb] at d1 n2
  rw [← hp] at n1
  rw [← hq] at n2
  have M1 := hide n1; have M2 := hide n2
  have HQ : Hid (∃ i, i < 6 ∧ (Value.agg #[.string p, .string q]) = .agg #[.string (prB (2 * i)), .string (prB (2 * i + 1))] ∧ i = chN n 6) := hide ⟨v, hv, by rw [hp, hq], hvc⟩
  clear hvc
  have HB1 := hide hB1
  obtain ⟨W2, hW2⟩ : ∃ W2, W2 = W1.alloc (.cells #[.string a, .string b] 55) := ⟨_, rfl⟩
  have hB2 : Below W1.heap.size W1 W2 := by rw [hW2]; exact (Below.refl _ _).alloc (Nat.le_refl _) _
  have hY2 : W2.heap[W1.heap.size]? = some (.cells #[.string a, .string b] 55 (0, 0)) := by rw [hW2]; exact heap_alloc_new _ _
  have hl1 : w.heap.size < W1.heap.size := by rw [hW1]; simp
  have hX2 := (hB2.block _ hl1).trans hX1
  have hl2 : W1.heap.size < W2.heap.size := by rw [hW2]; simp
  have HC : Hid (∀ W, Below W2.heap.size W2 W → W.cell? ⟨W1.heap.size, 0, none⟩ = some (.string a) ∧ W.cell? ⟨W1.heap.size, 1, none⟩ = some (.string b) ∧ W.frozen? ⟨w.heap.size, 0, none⟩ = false ∧ W.frozen? ⟨w.heap.size, 1, none⟩ = false ∧ W.heap[w.heap.size]? = some (.cells #[.string ⟨#[]⟩, .string ⟨#[]⟩] 34 (0, 0))) := hide (fun W hb => by
    have h1 := (hb.block _ hl2).trans hY2
    have h2 := (hb.block _ (Nat.lt_trans hl1 hl2)).trans hX2
    exact ⟨cell_of_row _ _ 0 _ _ _ h1, cell_of_row _ _ 1 _ _ _ h1, by simp [World.frozen?, h2], by simp [World.frozen?, h2], h2⟩)
  have HK : Hid (∀ (x r : ByteArray), (∀ W : World, Calls Tryz.prog 23 #[.string x] W fun e w' => e = .returned (.string r) ∧ Below W.heap.size W w') → ∀ W, Below W2.heap.size W2 W → Calls Tryz.prog 23 #[.string x] W fun e w' => e = .returned (.string r) ∧ Below W2.heap.size W2 w' ∧ w'.cell? ⟨W1.heap.size, 0, none⟩ = some (.string a) ∧ w'.cell? ⟨W1.heap.size, 1, none⟩ = some (.string b) ∧ w'.cell? ⟨w.heap.size, 0, none⟩ = some (.string ⟨#[]⟩) ∧ w'.cell? ⟨w.heap.size, 1, none⟩ = some (.string ⟨#[]⟩) ∧ w'.frozen? ⟨w.heap.size, 0, none⟩ = false ∧ w'.frozen? ⟨w.heap.size, 1, none⟩ = false) := hide (fun x r hc W hb => (hc W).mono (fun e w' ⟨he, h⟩ => by
    have hz := ext_callB hb h
    obtain ⟨q0, q1, q2, q3, q4⟩ := unhide HC w' hz
    exact ⟨he, hz, q0, q1, cell_of_row _ _ 0 _ _ _ q4, cell_of_row _ _ 1 _ _ _ q4, q2, q3⟩))
  have K1 := hide (unhide HK a p (unhide M1))
  have K2 := hide (unhide HK b q (unhide M2))
  clear M1 M2 HK
  have HW2 := hide hW2
  have HB2 := hide (hB1.trans (hB2.mono hB1.size))
  clear n1 n2 hp hq ha hb hB1 hX1 ht1 hW1 HB HT N0 N1 hn ht hW2 hB2 hY2 hX2
  have hvc : v = 0 ∨ v = 1 ∨ v = 2 ∨ v = 3 ∨ v = 4 ∨ v = 5 := by omega
  rcases hvc with rfl | rfl | rfl | rfl | rfl | rfl
  all_goals
    simp only [Nat.mul_zero, Nat.zero_add, Nat.reduceMul, Nat.reduceAdd] at d0 d1
    clear hv
    go_upto_region 2 with fail
    rw [← unhide HW2]
    obtain ⟨c0, c1, f0, f1, _⟩ := unhide HC W2 (Below.refl _ _)
    have hb0 : Below W2.heap.size W2 W2.drew := (Below.refl _ _).drew
    go_region_law (first
      | (refine step_call1R (by rfl) 23 _ _ (by rfl) (.string b) (by rfl) entHex (unhide K2 _ h1) ?_; rintro ev z2 ⟨rfl, h2, _, _, g0, g1, g2, g3⟩; refine ⟨_, rfl, ?_⟩)
      | (refine step_call1R (by rfl) 23 _ _ (by rfl) (.string a) (by rfl) entHex (unhide K1 _ hb0) ?_; rintro ev z1 ⟨rfl, h1, d0, d1, g0, g1, g2, g3⟩; refine ⟨_, rfl, ?_⟩)
      | fail)
    all_goals
      obtain ⟨_, _, _, _, x0⟩ := unhide HC _ h2
      have hB := (unhide HB2).trans (h2.mono (unhide HB2).size)
      have hQ : Below w.heap.size w ((z2.setCell ⟨w.heap.size, 0, none⟩ (.string p)).setCell ⟨w.heap.size, 1, none⟩ (.string q)) := (hB.setCell (p := ⟨w.heap.size, 0, none⟩) (Nat.le_refl _) _).setCell (p := ⟨w.heap.size, 1, none⟩) (Nat.le_refl _) _
      have q2 : ((z2.setCell ⟨w.heap.size, 0, none⟩ (.string p)).setCell ⟨w.heap.size, 1, none⟩ (.string q)).cell? ⟨w.heap.size, 0, none⟩ = some (.string p) := by rw [cell_of_row _ _ 0 _ _ _ (set_rowR (set_rowR x0))]; rfl
      have q3 : ((z2.setCell ⟨w.heap.size, 0, none⟩ (.string p)).setCell ⟨w.heap.size, 1, none⟩ (.string q)).cell? ⟨w.heap.size, 1, none⟩ = some (.string q) := by rw [cell_of_row _ _ 1 _ _ _ (set_rowR (set_rowR x0))]; rfl
      have HF := hide hQ
      obtain ⟨i, hi6, hie, hic⟩ := unhide HQ
      have HI := hide hie
      have HIC := hide hic
      clear hie hic hQ hB x0 h1 h2 d0 d1 c0 c1
      go_wp2
      exact bodyPost_ret (v := .agg #[.string p, .string q]) (by simp [results, Tryz.results8, go_sem, q2, q3]) rfl ⟨⟨i, hi6, by rw [unhide HI], unhide HIC⟩, unhide HF⟩
theorem pair_any (n : Int) (w : World) (hn : -9223372036854775808 ≤ n ∧ n ≤ 9223372036854775807) (ht : PairTab w) :
    Calls Tryz.prog 8 #[.int .i64 n] w fun e w' => (∃ i, i < 6 ∧ e = .returned (.agg #[.string (prB (2 * i)), .string (prB (2 * i + 1))])) ∧ Below w.heap.size w w' :=
  (pairF_any n w hn ht).mono fun e w' ⟨⟨i, h1, h2, _⟩, hb⟩ => ⟨⟨i, h1, h2⟩, hb⟩
end Go.Proofs.YtckkhpegimkefaaGreatDoor
