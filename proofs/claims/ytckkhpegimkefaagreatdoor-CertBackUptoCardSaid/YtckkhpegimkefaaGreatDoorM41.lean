/- ReadKey of the document's own: the walk. -/
import Derived.Test.YtckkhpegimkefaaGreatDoorM40
import Derived.Deep.RegionLaw
namespace Go.Proofs.YtckkhpegimkefaaGreatDoor
open Go.RowKit
set_option linter.unusedVariables false
set_option linter.unusedSimpArgs false
set_option maxRecDepth 100000

theorem step_call1J {P : Program} {ops : Array Oper} {o : Oper} {a : Act} {w : World} {K : Act → World → Prop} {Q : Exit → Act → World → Prop} {E : Prop} (hgd : o.guard = none) (f : FuncId) (x : Operand) (ts : Array TypeId)
    (ho : o.op = .call { callee := .value (.func f), args := #[x], argTypes := ts }) (v : Value) (hx : a.eval x = v) (hf : ∀ args w, (callFunc f args).run P w = .ok (.enter f args) w)
    {S : Ending → World → Prop} (hc : Calls P f #[v] w S) (hv : ∀ e w', S e w' → ∃ v, e = .returned v ∧ K (a.put o.dst v) w') :
    if Region.wanted o (yielded ops a.tmps) = true then Oper.wp P o a w K Q else E := by
  have hw : Region.wanted o (yielded ops a.tmps) = true := by simp [Region.wanted, hgd]
  rw [if_pos hw]
  obtain ⟨dst, op, ty, pos, after, guard⟩ := o
  cases ho
  have hrun : (execOp a.eval { dst, op := .call { callee := .value (.func f), args := #[x], argTypes := ts }, type := ty, pos, after, guard }).run P w = .ok (.enter f #[v]) w := by
    show (callFunc f (#[] ++ #[x].map a.eval ++ #[])).run P w = _
    have e : (#[] ++ #[x].map a.eval ++ #[]) = #[v] := by simp [hx]
    rw [e]; exact hf _ _
  unfold Oper.wp
  rw [hrun, Oper.upon_enter]
  refine hc.mono fun e w' hh => ?_
  obtain ⟨v, rfl, hk⟩ := hv e w' hh
  exact hk
theorem entVal (args : Array Value) (w : World) : (callFunc 40 args).run Tryz.prog w = .ok (.enter 40 args) w := by kernel_rfl
set_option maxHeartbeats 4000000 in
theorem rreadKey_any (s : ByteArray) (w : World) (hs : s.size ≤ maxLen) :
    Calls Tryz.prog 22 #[.string s] w fun e w' => e = .returned (.tuple #[.agg #[.string (rkO s), .int .i64 (rkT s), .string (rkM s)], .int .i64 (rkE s)]) ∧ Below w.heap.size w w' := by
  obtain ⟨W1, hW1⟩ : ∃ W1, W1 = w.alloc (.cells #[.string ⟨#[]⟩, .int .i64 0, .string ⟨#[]⟩] 48) := ⟨_, rfl⟩
  have hB1 : Below w.heap.size w W1 := by rw [hW1]; exact (Below.refl _ _).alloc (Nat.le_refl _) _
  have hX1 : W1.heap[w.heap.size]? = some (.cells #[.string ⟨#[]⟩, .int .i64 0, .string ⟨#[]⟩] 48 (0, 0)) := by rw [hW1]; exact heap_alloc_new _ _
  have hl1 : w.heap.size < W1.heap.size := by rw [hW1]; simp
  -- the result's cells, before and behind a store
  have HW : Hid (∀ (W : World) (o m : ByteArray) (t : Int), Below W1.heap.size W1 W → W.frozen? ⟨w.heap.size, 0, none⟩ = false ∧ W.frozen? ⟨w.heap.size, 1, none⟩ = false ∧ W.frozen? ⟨w.heap.size, 2, none⟩ = false ∧ W.cell? ⟨w.heap.size, 0, none⟩ = some (.string ⟨#[]⟩) ∧ W.cell? ⟨w.heap.size, 1, none⟩ = some (.int .i64 0) ∧ W.cell? ⟨w.heap.size, 2, none⟩ = some (.string ⟨#[]⟩) ∧
      Below w.heap.size w (((W.setCell ⟨w.heap.size, 0, none⟩ (.string o)).setCell ⟨w.heap.size, 1, none⟩ (.int .i64 t)).setCell ⟨w.heap.size, 2, none⟩ (.string m)) ∧
      (((W.setCell ⟨w.heap.size, 0, none⟩ (.string o)).setCell ⟨w.heap.size, 1, none⟩ (.int .i64 t)).setCell ⟨w.heap.size, 2, none⟩ (.string m)).cell? ⟨w.heap.size, 0, none⟩ = some (.string o) ∧
      (((W.setCell ⟨w.heap.size, 0, none⟩ (.string o)).setCell ⟨w.heap.size, 1, none⟩ (.int .i64 t)).setCell ⟨w.heap.size, 2, none⟩ (.string m)).cell? ⟨w.heap.size, 1, none⟩ = some (.int .i64 t) ∧
      (((W.setCell ⟨w.heap.size, 0, none⟩ (.string o)).setCell ⟨w.heap.size, 1, none⟩ (.int .i64 t)).setCell ⟨w.heap.size, 2, none⟩ (.string m)).cell? ⟨w.heap.size, 2, none⟩ = some (.string m)) := hide (fun W o m t hb => by
    have h := (hb.block _ hl1).trans hX1
    have k := hB1.trans (hb.mono hB1.size)
    refine ⟨by simp [World.frozen?, h], by simp [World.frozen?, h], by simp [World.frozen?, h], cell_of_row _ _ 0 _ _ _ h, cell_of_row _ _ 1 _ _ _ h, cell_of_row _ _ 2 _ _ _ h, ((k.setCell (p := ⟨w.heap.size, 0, none⟩) (Nat.le_refl _) _).setCell (p := ⟨w.heap.size, 1, none⟩) (Nat.le_refl _) _).setCell (p := ⟨w.heap.size, 2, none⟩) (Nat.le_refl _) _, ?_, ?_, ?_⟩
    · rw [cell_of_row _ _ 0 _ _ _ (set_rowM (set_rowM (set_rowM h)))]; rfl
    · rw [cell_of_row _ _ 1 _ _ _ (set_rowM (set_rowM (set_rowM h)))]; rfl
    · rw [cell_of_row _ _ 2 _ _ _ (set_rowM (set_rowM (set_rowM h)))]; rfl)
  have HW1 := hide hW1; have HB1 := hide hB1
  clear hW1 hB1 hX1 hl1
  have HNo := hide (fun h => rk_no (s := s) h)
  have HYes := hide (fun h => rk_yes (s := s) h)
  have HPt := hide (fun h => rk_parts (s := s) h)
  have hsz : (s.size : Int) ≤ 9223372036854775807 := by unfold maxLen at hs; omega
  have HS := hide hs
  clear hs
  generalize hrE : rkE s = rE at *
  generalize hrO : rkO s = rO at *
  generalize hrT : rkT s = rT at *
  generalize hrM : rkM s = rM at *
  clear hrE hrO hrT hrM
  go_enter Tryz.func22, Tryz.ntmps22
  go_upto_region 1 with fail
  rw [← unhide HW1]
  go_wp2
  go_loopw [4] (fun i wr => ∃ n : Nat, 1 ≤ n ∧ n ≤ 20 ∧ i = .int .i64 (n : Int) ∧ Below W1.heap.size W1 wr ∧ Hid (rkB s = true → n ≤ kN s)) (fun i _ => 20 - (intOf i).toNat)
  case atStart => exact ⟨1, by omega, by omega, rfl, Below.refl _ _, hide (fun h => (unhide HPt h).1)⟩
  case round =>
    obtain ⟨n, h1, h20, rfl, hbw, HK⟩ := hrel
    have HBW := hide hbw
    clear hbw
    have hw3 : wrap64 ((n : Int) + 3) = (n : Int) + 3 := by unfold wrap64; omega
    have hw1 : wrap64 ((n : Int) + 1) = (n : Int) + 1 := by unfold wrap64; omega
    have hv1' : IntKind.i64.wrap ((n : Int) + 1) = (n : Int) + 1 := wraps_i64 _ (by omega) (by omega)
    have hv3' : IntKind.i64.wrap ((n : Int) + 3) = (n : Int) + 3 := wraps_i64 _ (by omega) (by omega)
    by_cases hin : n ≤ 19 ∧ n + 3 ≤ s.size
    case neg =>
      have hrb : rkB s = false := by
        cases hb : rkB s with
        | false => rfl
        | true =>
          have h2 := unhide HK hb
          obtain ⟨p1, p2, p3, _⟩ := unhide HPt hb
          exact absurd ⟨by omega, by omega⟩ hin
      obtain ⟨rfl, rfl, rfl, rfl⟩ := unhide HNo hrb
      obtain ⟨f0, f1, f2, g0, g1, g2, hF, r0, r1, r2⟩ := unhide HW wr ⟨#[]⟩ ⟨#[]⟩ 0 (unhide HBW)
      have HF := hide hF
      have hcs : Hid ((19 : Int) < (n : Int) ∨ ((n : Int) ≤ 19 ∧ (s.size : Int) < (n : Int) + 3)) := hide (by omega)
      clear hrb hF HNo HYes HPt HK hin
      rcases unhide hcs with hc | ⟨hc, hc2⟩
      all_goals
        clear hcs
        go_wp2
        exact bodyPost_ret (v := .tuple #[.agg #[.string ⟨#[]⟩, .int .i64 0, .string ⟨#[]⟩], .int .i64 1]) (by simp [results, Tryz.results22, go_sem, r0, r1, r2]) rfl ⟨rfl, unhide HF⟩
    case pos =>
    obtain ⟨h19, h3⟩ := hin
    obtain ⟨e1, e2, e3⟩ := kRest_cut s n h3
    have hsame := keyS_same s n h1 h19 h3
    have hat := rk_at (s := s) n h3
    have ht := kT_lt s n
    have hke := keyE_two (o := kO s n) (m := kM s n) (t := (kT s n : Int)) (by omega) (by omega)
    have HOZ : (kO s n).size ≤ maxLen := by rw [e3, ByteArray.size_extract]; unfold maxLen; omega
    have N2 := hide (fun W => rkeyText_any (kO s n) (kT s n : Int) (kM s n) W HOZ)
    have N1 := hide (fun W => value_any (s.extract (n + 1) (n + 3)) W (by rw [ByteArray.size_extract]; omega) (by rw [← e1]; show kT s n ≤ _; omega))
    have hv1 : valN (s.extract (n + 1) (n + 3)).data.toList = kT s n := by rw [← e1]; rfl
    have N1' := unhide N1
    rw [hv1] at N1'
    have N1 := hide N1'
    have sl1 : ∀ wx, (Instr.slice 9 (.string s) (some (.int .i64 1)) (some (.int .i64 ((n : Int) + 1))) none).run Tryz.prog wx = .ok (.string (kO s n)) wx := fun wx => by
      rw [run_slice_string (P := Tryz.prog) wx 9 s .i64 .i64 (1 : Int) ((n : Int) + 1) Tryz.underlying9 (by omega) (by omega) (by omega), e3]
      rfl
    have sl2 : ∀ wx, (Instr.slice 9 (.string s) (some (.int .i64 ((n : Int) + 1))) (some (.int .i64 ((n : Int) + 3))) none).run Tryz.prog wx = .ok (.string (s.extract (n + 1) (n + 3))) wx := fun wx => by
      rw [run_slice_string (P := Tryz.prog) wx 9 s .i64 .i64 ((n : Int) + 1) ((n : Int) + 3) Tryz.underlying9 (by omega) (by omega) (by omega)]
      rfl
    have sl3 : ∀ wx, (Instr.slice 9 (.string s) (some (.int .i64 ((n : Int) + 3))) none none).run Tryz.prog wx = .ok (.string (kM s n)) wx := fun wx => by
      have := slice_from s (n + 3) (by omega) wx
      rw [show (((n + 3 : Nat)) : Int) = (n : Int) + 3 by omega] at this
      rw [this, e2]
    have hi1 : (n : Int) ≤ 19 := by omega
    have hi2 : (n : Int) + 3 ≤ (s.size : Int) := by omega
    have HYn : Hid (kN s = n → keyB (kO s n) (kM s n) = true → rE = 0 ∧ rO = kO s n ∧ rT = (kT s n : Int) ∧ rM = kM s n) := hide (fun hn hk => by
      have := unhide HYes (by rw [hat hn]; exact hk)
      rwa [hn] at this)
    have HAT := hide hat; have HSAME := hide hsame; have HKE := hide hke
    clear hat hsame hke e1 e2 e3 HOZ N1' hv1
    generalize kT s n = t at *
    generalize kO s n = o at *
    generalize kM s n = m at *
    generalize s.extract (n + 1) (n + 3) = x2 at *
    go_upto_region 4 with fail
    go_region_held3 (fun w' => wr.heap.size ≤ w'.heap.size)
      (first | (simp; done) | (simp; omega) | assumption)
      ((first
        | (go_at_call 40; refine (unhide N1 _).mono ?_; rintro e z1 ⟨rfl, q1⟩; have q1' := q1.symm; subst q1')))
    all_goals
      obtain ⟨W2, hW2⟩ : ∃ W2, W2 = (wr.alloc (.cells #[.string o, .int .i64 (t : Int), .string m] 48)).drew := ⟨_, rfl⟩
      have hB2 : Below W1.heap.size W1 W2 := by rw [hW2]; exact ((unhide HBW).alloc (unhide HBW).size _).drew
      have hY2 : W2.heap[wr.heap.size]? = some (.cells #[.string o, .int .i64 (t : Int), .string m] 48 (0, 0)) := by
        rw [hW2]
        exact heap_alloc_new wr _
      have hlt2 : wr.heap.size < W2.heap.size := by rw [hW2]; simp
      have c0 := cell_of_row _ _ 0 _ _ _ hY2
      have c1 := cell_of_row _ _ 1 _ _ _ hY2
      have c2 := cell_of_row _ _ 2 _ _ _ hY2
      simp only [List.getElem?_toArray, List.getElem?_cons_zero, List.getElem?_cons_succ] at c0 c1 c2
      rw [← hW2]
      have HB2 := hide hB2; have HY2 := hide hY2; have HLT2 := hide hlt2
      clear hW2 hB2 hY2 hlt2
      generalize keyE o (t : Int) m = ke at *
      generalize keyS o (t : Int) m = ks at *
      cases hk : keyB o m with
      | false =>
        have HKn : Hid (rkB s = true → n + 1 ≤ kN s) := hide (fun hb => by
          have h2 := unhide HK hb
          by_cases hkn : kN s = n
          · rw [unhide HAT hkn, hk] at hb; cases hb
          · omega)
        have hke := unhide HKE
        rw [hk, show (bif false then (0 : Int) else 1) = 1 from rfl] at hke
        subst hke
        clear HAT HSAME HKE HYn HYes HNo HPt HK hk
        go_wp2_with fail
        refine (unhide N2 _).mono ?_
        rintro e y2 ⟨rfl, k2⟩
        have HK2 := hide (ext_callB (unhide HB2) k2)
        clear k2 c0 c1 c2
        go_wp2
        go_roundw
        case rel => exact ⟨n + 1, by omega, by omega, by go_num, unhide HK2, HKn⟩
        case measure => simp [intOf]; omega
      | true =>
        have hke := unhide HKE
        rw [hk, show (bif true then (0 : Int) else 1) = 0 from rfl] at hke
        subst hke
        by_cases hkn : kN s = n
        · obtain ⟨rfl, rfl, rfl, rfl⟩ := unhide HYn hkn hk
          obtain rfl : ks = s := (unhide HSAME rfl).2 hkn
          have t1 : (ks.toList == ks.toList) = true := by simp
          clear HAT HSAME HKE HYn HYes HNo HPt HK hk hkn
          go_wp2_with fail
          refine (unhide N2 _).mono ?_
          rintro e y2 ⟨rfl, k2⟩
          have hx2 := (k2.block _ (unhide HLT2)).trans (unhide HY2)
          have d0 := cell_of_row _ _ 0 _ _ _ hx2
          have d1 := cell_of_row _ _ 1 _ _ _ hx2
          have d2 := cell_of_row _ _ 2 _ _ _ hx2
          simp only [List.getElem?_toArray, List.getElem?_cons_zero, List.getElem?_cons_succ] at d0 d1 d2
          have kk2 := ext_callB (unhide HB2) k2
          obtain ⟨f0, f1, f2, g0, g1, g2, hF, r0, r1, r2⟩ := unhide HW y2 rO rM (t : Int) kk2
          have HF := hide hF
          clear k2 kk2 hF c0 c1 c2 hx2
          go_wp2
          exact bodyPost_ret (v := .tuple #[.agg #[.string rO, .int .i64 (t : Int), .string rM], .int .i64 0]) (by simp [results, Tryz.results22, go_sem, r0, r1, r2]) rfl ⟨rfl, unhide HF⟩
        · have HKn : Hid (rkB s = true → n + 1 ≤ kN s) := hide (fun hb => by
            have h2 := unhide HK hb
            omega)
          have t1 : (ks.toList == s.toList) = false := by
            rw [beq_eq_false_iff_ne]
            intro he
            refine hkn ((unhide HSAME rfl).1 ?_)
            rw [Lib.toList_data, Lib.toList_data] at he
            exact ByteArray.ext (Array.toList_inj.1 he)
          clear HAT HSAME HKE HYn HYes HNo HPt HK hk hkn
          go_wp2_with fail
          refine (unhide N2 _).mono ?_
          rintro e y2 ⟨rfl, k2⟩
          have HK2 := hide (ext_callB (unhide HB2) k2)
          clear k2 c0 c1 c2
          go_wp2
          go_roundw
          case rel => exact ⟨n + 1, by omega, by omega, by go_num, unhide HK2, HKn⟩
          case measure => simp [intOf]; omega
end Go.Proofs.YtckkhpegimkefaaGreatDoor
