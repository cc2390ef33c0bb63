/- The law's sameBooks of a book and the document's that hold one list; openedBook. -/
import Derived.Test.YtbiipeapcclbkaaBkE
import Derived.Test.YtbiipeapcclbkaaBkU
import Derived.Test.YtbiipeapcclbkaaBkD1
import Derived.Deep.RegionLaw
import Derived.Laws.StructEq
namespace Go.Proofs.Ytbiipeapcclbkaa
open Go.RowKit Go.Shelf
set_option linter.unusedVariables false
set_option linter.unusedSimpArgs false
set_option maxRecDepth 100000

set_option maxHeartbeats 2000000 in
theorem same_entry (a b c : Int) (t : ByteArray) (w : World) : (binOp .neq 60 (.agg #[.int .i64 a, .int .i64 b, .int .i64 c, .string t]) (.agg #[.int .i64 a, .int .i64 b, .int .i64 c, .string t])).run Try.prog w = .ok (.bool false) w := by
  go_simp
  try simp
theorem guard_entry (op : BinOp) (x y : Operand) (a b : Array Value) (w : World) : (eqGuard op 60 x y (.agg a) (.agg b)).run Try.prog w = .ok () w := run_eqGuard_agg w op _ x y _ _ (by kernel_rfl)
theorem step_call1w {P : Program} {ops : Array Oper} {o : Oper} {a : Act} {w : World} {K : Act → World → Prop} {Q : Exit → Act → World → Prop} {E : Prop} (hw : Region.wanted o (yielded ops a.tmps) = true) (f : FuncId) (x : Operand) (ts : Array TypeId)
    (ho : o.op = .call { callee := .value (.func f), args := #[x], argTypes := ts }) (v : Value) (hx : a.eval x = v) (hf : ∀ args w, (callFunc f args).run P w = .ok (.enter f args) w)
    {S : Ending → World → Prop} (hc : Calls P f #[v] w S) (hv : ∀ e w', S e w' → ∃ v, e = .returned v ∧ K (a.put o.dst v) w') :
    if Region.wanted o (yielded ops a.tmps) = true then Oper.wp P o a w K Q else E := by
  rw [if_pos hw]
  obtain ⟨dst, op, ty, pos, after, guard⟩ := o
  cases ho
  have hrun : (execOp a.eval { dst, op := .call { callee := .value (.func f), args := #[x], argTypes := ts }, type := ty, pos, after, guard }).run P w = .ok (.enter f #[v]) w := by
    show (callFunc f (#[] ++ #[x].map a.eval ++ #[])).run P w = _
    have e : (#[] ++ #[x].map a.eval ++ #[]) = #[v] := by simp [hx]
    rw [e]; exact hf _ _
  unfold Oper.wp
  rw [hrun, Oper.upon_enter]
  refine hc.mono fun e w' hh => ?_
  obtain ⟨v, rfl, hk⟩ := hv e w' hh
  exact hk
theorem step_call2w {P : Program} {ops : Array Oper} {o : Oper} {a : Act} {w : World} {K : Act → World → Prop} {Q : Exit → Act → World → Prop} {E : Prop} (hw : Region.wanted o (yielded ops a.tmps) = true) (f : FuncId) (x y : Operand) (ts : Array TypeId)
    (ho : o.op = .call { callee := .value (.func f), args := #[x, y], argTypes := ts }) (v u : Value) (hx : a.eval x = v) (hy : a.eval y = u) (hf : ∀ args w, (callFunc f args).run P w = .ok (.enter f args) w)
    {S : Ending → World → Prop} (hc : Calls P f #[v, u] w S) (hv : ∀ e w', S e w' → ∃ v, e = .returned v ∧ K (a.put o.dst v) w') :
    if Region.wanted o (yielded ops a.tmps) = true then Oper.wp P o a w K Q else E := by
  rw [if_pos hw]
  obtain ⟨dst, op, ty, pos, after, guard⟩ := o
  cases ho
  have hrun : (execOp a.eval { dst, op := .call { callee := .value (.func f), args := #[x, y], argTypes := ts }, type := ty, pos, after, guard }).run P w = .ok (.enter f #[v, u]) w := by
    show (callFunc f (#[] ++ #[x, y].map a.eval ++ #[])).run P w = _
    have e : (#[] ++ #[x, y].map a.eval ++ #[]) = #[v, u] := by simp [hx, hy]
    rw [e]; exact hf _ _
  unfold Oper.wp
  rw [hrun, Oper.upon_enter]
  refine hc.mono fun e w' hh => ?_
  obtain ⟨v, rfl, hk⟩ := hv e w' hh
  exact hk
theorem ent_len (args : Array Value) (w : World) : (callFunc 17 args).run Try.prog w = .ok (.enter 17 args) w := by kernel_rfl
theorem ent_wait (args : Array Value) (w : World) : (callFunc 19 args).run Try.prog w = .ok (.enter 19 args) w := by kernel_rfl
theorem ent_rwait (args : Array Value) (w : World) : (callFunc 20 args).run Try.prog w = .ok (.enter 20 args) w := by kernel_rfl
theorem ent_same (args : Array Value) (w : World) : (callFunc 18 args).run Try.prog w = .ok (.enter 18 args) w := by kernel_rfl
section
variable {w w' : World} {B B' bb mb : Nat} {v pl rv : Value} {M : Mm} {L : List En}
theorem opened_any (e m : Value) (bb : Nat) (w : World) : Calls Try.prog 7 #[.pointer (some ⟨bb, 0, none⟩), .int .i64 0, m] w fun r w' => r = .returned (.bool true) ∧ w' = w := by
  go_enter Try.func7, Try.ntmps7
  go_wp2
  go_ret
  exact ⟨rfl, rfl⟩
set_option maxHeartbeats 8000000 in
theorem sameBooks_any (h : BookAt w B bb mb v M pl L) (k : OwnR w B' 60 4 cellsE rv (plsL L)) (cs : Int) : Calls Try.prog 9 #[.pointer (some ⟨bb, 0, none⟩), .agg #[.int .i64 cs, rv]] w fun r w' => r = .returned (.bool true) ∧ Below w.heap.size w w' := by
  obtain ⟨⟨ao, cap, hv⟩, hfm⟩ := k.form
  have hlen := h.len
  have hli : (L.length : Int) ≤ 100000 := by omega
  have hpl := plsL_len L
  rw [hpl] at hv
  obtain ⟨W1, hW1⟩ : ∃ W1, W1 = w.alloc (.cells #[.int .i64 cs, rv] 33) := ⟨_, rfl⟩
  have hB1 : Below w.heap.size w W1 := by rw [hW1]; exact (Below.refl _ _).alloc (Nat.le_refl _) _
  have hX1 : W1.heap[w.heap.size]? = some (.cells #[.int .i64 cs, rv] 33) := by rw [hW1]; exact heap_alloc_new _ _
  have hc : ∀ wx, Below W1.heap.size W1 wx → wx.cell? ⟨w.heap.size, 0, none⟩ = some (.int .i64 cs) ∧ wx.cell? ⟨w.heap.size, 1, none⟩ = some rv := fun wx hb => by
    have x1 := (hb.block _ (block_ltR hX1)).trans hX1
    refine ⟨?_, ?_⟩ <;> simp [World.cell?, x1]
  have h1 := h.below hB1
  have k1 := k.below hB1
  have NL := hide (fun (W : World) (hb : Below W1.heap.size W1 W) => blen_any (h1.below hb))
  have NW := hide (fun (W : World) (hb : Below W1.heap.size W1 W) => waiting_any (h1.below hb))
  have NR := hide (fun (W : World) (hb : Below W1.heap.size W1 W) => rwaiting_any (k1.below hb) hlen cs)
  have NG0 := hide (fun (W : World) (hb : Below W1.heap.size W1 W) (n : Int) (hn : wiB n 1 (L.length : Int) = false) => get_no (h1.below hb) n hn)
  have NG1 := hide (fun (W : World) (hb : Below W1.heap.size W1 W) (i : Nat) (e : En) (he : L[i]? = some e) => get_yes (h1.below hb) i e he)
  have hwl : (waitF 0 L).length ≤ 100000 := Nat.le_trans (waitF_len _ _) hlen
  have NS := hide (fun (W : World) (B1 B2 : Nat) (u1 u2 : Value) (o1 : OwnR W B1 3 1 cellsI u1 (waitF 0 L)) (o2 : OwnR W B2 3 1 cellsI u2 (waitF 0 L)) => sameInt_any o1 o2 hwl)
  have hrow : ∀ (i : Nat) (e : En), L[i]? = some e → ∃ g, ao = some ⟨g, 0, none⟩ ∧ ∀ wx, Below W1.heap.size W1 wx → wx.cell? ⟨g, i * 4, none⟩ = some (.int .i64 ((i : Int) + 1)) ∧ wx.cell? ⟨g, i * 4 + 1, none⟩ = some (.int .i64 e.what) ∧ wx.cell? ⟨g, i * 4 + 2, none⟩ = some (.int .i64 e.how) ∧ wx.cell? ⟨g, i * 4 + 3, none⟩ = some (.string e.text) := fun i e he => by
    have hi := (List.getElem?_eq_some_iff.1 he).1
    rcases k1.form.2 with hn | ⟨g, cap', hv2, hgB, hgl⟩
    · rw [hn] at hpl; simp at hpl; omega
    have e1 := hv.symm.trans hv2
    injection e1 with a1 _ _
    refine ⟨g, a1, fun wx hb => ?_⟩
    have h2 := k1
    rw [hv2] at h2
    have hcell := fun (j : Nat) (hj : j < 4) => (hb.cell (p := ⟨g, i * 4 + j, none⟩) hgl).trans (h2.cell cellsE_len i _ (plsL_get he) j hj)
    have a0 := hcell 0 (by omega); have a1 := hcell 1 (by omega); have a2 := hcell 2 (by omega); have a3 := hcell 3 (by omega)
    simp only [cellsE, List.getElem?_cons_zero, List.getElem?_cons_succ, Nat.add_zero] at a0 a1 a2 a3
    exact ⟨a0, a1, a2, a3⟩
  have HROW := hide hrow; have HC := hide hc; have HB1 := hide hB1; have HW1 := hide hW1; have HSW := hide (block_ltR hX1)
  subst hv
  obtain ⟨n, hn⟩ : ∃ n, n = L.length := ⟨_, rfl⟩
  have HN := hide hn
  rw [← hn] at hli HW1 HC NL NR NG0
  rw [← hn]
  obtain ⟨c0, c1⟩ := hc W1 (Below.refl _ _)
  rw [← hn] at c1
  clear h k h1 k1 hfm hlen hpl hW1 hB1 hX1 hc hrow hwl hn
  go_enter Try.func9, Try.ntmps9
  go_upto_region 1 with fail
  rw [← unhide HW1]
  have hs0 : W1.drew.cell? ⟨w.heap.size, 0, none⟩ = some (.int .i64 cs) ∧ W1.drew.cell? ⟨w.heap.size, 1, none⟩ = some (.slice ao n cap) := unhide HC W1.drew (Below.refl _ _).drew
  have kk0 : Below W1.heap.size W1 W1.drew := (Below.refl _ _).drew
  go_cut [21] (fun v21 wx => v21 = .bool false ∧ Below W1.heap.size W1 wx)
  case first =>
    go_wp2_with fail
    go_region_law ((first
        | (refine step_call2w (by rfl) 18 _ _ _ (by rfl) u1 u2 (by rfl) (by rfl) ent_same (unhide NS _ _ _ _ _ (o1.below j2) o2) ?_; rintro ev z3 ⟨rfl, j3⟩; refine ⟨_, rfl, ?_⟩; have kk3 : Below W1.heap.size W1 z3 := kk2.trans (j3.mono kk2.size); have hs4 := unhide HC z3 kk3)
        | (refine step_call1w (by rfl) 20 _ _ (by rfl) (.agg #[.int .i64 cs, .slice ao n cap]) (by rfl) ent_rwait (unhide NR _ kk1) ?_; rintro ev z2 ⟨⟨u2, rfl, o2⟩, j2⟩; refine ⟨_, rfl, ?_⟩; have kk2 : Below W1.heap.size W1 z2 := kk1.trans (j2.mono kk1.size); obtain ⟨hs3, hs3'⟩ := unhide HC z2 kk2)
        | (refine step_call1w (by rfl) 19 _ _ (by rfl) (.pointer (some ⟨bb, 0, none⟩)) (by rfl) ent_wait (unhide NW _ kk0) ?_; rintro ev z1 ⟨⟨u1, rfl, o1⟩, j1⟩; refine ⟨_, rfl, ?_⟩; have kk1 : Below W1.heap.size W1 z1 := kk0.trans (j1.mono kk0.size); obtain ⟨hs2, hs2'⟩ := unhide HC z1 kk1)
        | (refine step_call1w (by rfl) 17 _ _ (by rfl) (.pointer (some ⟨bb, 0, none⟩)) (by rfl) ent_len (unhide NL _ kk0) ?_; rintro ev z0 ⟨rfl, rfl⟩; refine ⟨_, rfl, ?_⟩; have hs1 := hs0)
        | fail))
    all_goals
      have HK3 := hide kk3
      clear kk0 kk1 kk2 kk3 j1 j2 j3 o1 o2 hs0 hs1 hs2 hs3 hs4 c0 c1 hs2' hs3'
      go_wp2_with fail
      go_meet
      exact ⟨rfl, unhide HK3⟩
  case rest =>
  obtain ⟨rfl, hbc⟩ := hcut
  have HBC := hide hbc
  clear hbc hs0 kk0 c0 c1 NL NW NR NS
  go_wp2_with fail
  go_loopw [5] (fun nv wx => ∃ i : Nat, i ≤ n + 2 ∧ nv = .int .i64 (i : Int) ∧ Below W1.heap.size W1 wx) (fun nv _ => n + 2 - (intOf nv).toNat)
  case atStart => exact ⟨0, Nat.zero_le _, rfl, unhide HBC⟩
  case round =>
    obtain ⟨i, hi, rfl, hbw⟩ := hrel
    obtain ⟨c0, c1⟩ := unhide HC wr hbw
    have hii : (i : Int) ≤ (n : Int) + 2 := by omega
    by_cases h1 : i < n + 2
    · have hle : (i : Int) ≤ (n : Int) + 1 := by omega
      have hgd := fun op x y a b w => guard_entry op x y a b w
      by_cases h2 : 1 ≤ i ∧ i ≤ n
      · obtain ⟨j, rfl⟩ : ∃ j, i = j + 1 := ⟨i - 1, by omega⟩
        have hj : j < L.length := by have := unhide HN; omega
        obtain ⟨e, he⟩ : ∃ e, L[j]? = some e := ⟨_, List.getElem?_eq_getElem hj⟩
        obtain ⟨g, hao, hcells⟩ := unhide HROW j e he
        have NG := hide (unhide NG1 wr hbw j e he)
        have hc2 := hide (fun y (hy : Below wr.heap.size wr y) => And.intro (unhide HC y (hbw.trans (hy.mono hbw.size))) (hcells y (hbw.trans (hy.mono hbw.size))))
        have HBW := hide hbw
        obtain ⟨e1, e2, e3⟩ := e
        unfold enV at NG
        dsimp only at NG hc2
        have hse := fun w => same_entry ((j : Int) + 1) e1 e2 e3 w
        have hj1 : ¬ (j : Int) + 1 < 1 := by omega
        have hj2 : ¬ (n : Int) < (j : Int) + 1 := by omega
        have hj3 : (j : Int) < (n : Int) := by omega
        have hji : (j : Int) ≤ 100000 := by omega
        have hsub3 : IntKind.i64.wrap ((j : Int) + 1 - 1) = (j : Int) := by rw [IntKind.wrap_i64]; omega
        subst hao
        have hle' : (j : Int) + 1 ≤ (n : Int) + 1 := by omega
        have hii' : (j : Int) + 1 + 1 ≤ (n : Int) + 2 := by omega
        push_cast at hle hii
        clear he hj hcells hbw h2
        go_wp2_with fail
        refine (unhide NG).mono ?_
        rintro r y1 ⟨rfl, hy⟩
        obtain ⟨W5, hW5⟩ : ∃ W5, W5 = y1.alloc (.cells #[.int .i64 ((j : Int) + 1), .int .i64 e1, .int .i64 e2, .string e3] 60) := ⟨_, rfl⟩
        have hy5 : Below wr.heap.size wr W5 := by rw [hW5]; exact hy.alloc hy.size _
        have hX5 : W5.heap[y1.heap.size]? = some (.cells #[.int .i64 ((j : Int) + 1), .int .i64 e1, .int .i64 e2, .string e3] 60) := by rw [hW5]; exact heap_alloc_new _ _
        obtain ⟨⟨d0, d1⟩, p0, p1, p2, p3⟩ := unhide hc2 W5 hy5
        have q0 : W5.cell? ⟨y1.heap.size, 0, none⟩ = some (.int .i64 ((j : Int) + 1)) := by simp [World.cell?, hX5]
        have q1 : W5.cell? ⟨y1.heap.size, 1, none⟩ = some (.int .i64 e1) := by simp [World.cell?, hX5]
        have q2 : W5.cell? ⟨y1.heap.size, 2, none⟩ = some (.int .i64 e2) := by simp [World.cell?, hX5]
        have q3 : W5.cell? ⟨y1.heap.size, 3, none⟩ = some (.string e3) := by simp [World.cell?, hX5]
        have HB2 := hide ((unhide HBW).trans (hy5.mono (unhide HBW).size))
        have HW5 := hide hW5
        have hsy : w.heap.size < y1.heap.size := Nat.lt_of_lt_of_le (Nat.lt_of_lt_of_le (unhide HSW) (unhide HBW).size) hy.size
        obtain ⟨⟨x0, x1⟩, _⟩ := unhide hc2 y1 hy
        clear hy hy5 hX5 hW5
        go_upto_region 10 with fail
        rw [← unhide HW5]
        go_wp2_with fail
        go_quiet (fail)
        all_goals
          go_wp2
          refine ⟨⟨j + 1 + 1, by omega, by go_num, ?_⟩, by simp [intOf]; omega⟩
          exact ⟨(unhide HB2).os, (unhide HB2).tape, (unhide HB2).output, (unhide HB2).size, (unhide HB2).block⟩
      · have NG := hide (unhide NG0 wr hbw (i : Int) (decide_eq_false (by omega)))
        have hc2 := hide (fun y (hy : Below wr.heap.size wr y) => unhide HC y (hbw.trans (hy.mono hbw.size)))
        have HBW := hide hbw
        have hse := fun w => same_entry 0 0 0 ⟨#[]⟩ w
        have hor : (i : Int) < 1 ∨ (n : Int) < (i : Int) := by omega
        clear hbw h2
        go_wp2_with fail
        refine (unhide NG).mono ?_
        rintro r y1 ⟨rfl, hy⟩
        obtain ⟨d0, d1⟩ := unhide hc2 (y1.alloc (.cells #[.int .i64 0, .int .i64 0, .int .i64 0, .string ⟨#[]⟩] 60)) (hy.alloc hy.size _)
        obtain ⟨x0, x1⟩ := unhide hc2 y1 hy
        have HB2 := hide ((unhide HBW).trans ((hy.alloc hy.size (.cells #[.int .i64 0, .int .i64 0, .int .i64 0, .string ⟨#[]⟩] 60)).mono (unhide HBW).size))
        have hsy : w.heap.size < y1.heap.size := Nat.lt_of_lt_of_le (Nat.lt_of_lt_of_le (unhide HSW) (unhide HBW).size) hy.size
        clear hy
        rcases hor with hor | hor
        · go_wp2
          refine ⟨⟨i + 1, by omega, by go_num, unhide HB2⟩, by simp [intOf]; omega⟩
        · have hor' : ¬ (i : Int) < 1 := by omega
          go_wp2
          refine ⟨⟨i + 1, by omega, by go_num, unhide HB2⟩, by simp [intOf]; omega⟩
    · have hle : ¬ (i : Int) ≤ (n : Int) + 1 := by omega
      have HB2 := hide ((unhide HB1).trans (hbw.mono (unhide HB1).size))
      clear hbw
      go_wp2
      go_ret
      exact ⟨rfl, unhide HB2⟩
end
end Go.Proofs.Ytbiipeapcclbkaa
