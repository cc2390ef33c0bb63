/- A book's store: an entry's first cell; an entry is laid. -/
import Derived.Test.YtbiipeapcclbkaaBkQ
import Derived.Deep.RegionHeld3
namespace Go.Proofs.Ytbiipeapcclbkaa
open Go.RowKit Go.Shelf
set_option linter.unusedVariables false
set_option linter.unusedSimpArgs false
set_option maxRecDepth 100000

theorem cellsOf_any (n : Nat) (hn : n ≤ 100000) (w : World) : Calls Try.prog 31 #[.int .i64 (n : Int)] w fun e w' => e = .returned (.int .i64 (nC n : Nat)) ∧ w' = w := by
  have HQ : Hid (((n : Int) + 16 - 1) / 16 = ((nC n : Nat) : Int)) := hide (by unfold nC; omega)
  have hni : (n : Int) ≤ 100000 := by omega
  clear hn
  go_enter Try.func31, Try.ntmps31
  go_wp2
  go_ret
  exact ⟨by rw [← unhide HQ]; rfl, rfl⟩
theorem endOf_any (c n : Nat) (hc : c ≤ 200000) (hn : n ≤ 100000) (w : World) : Calls Try.prog 30 #[.int .i64 (c : Int), .int .i64 (n : Int)] w fun e w' => e = .returned (.int .i64 ((c + (1 + nC n) : Nat) : Int)) ∧ w' = w := by
  have N := hide (cellsOf_any n hn w)
  have HQ : Hid ((c : Int) + 1 + ((nC n : Nat) : Int) = ((c + (1 + nC n) : Nat) : Int)) := hide (by omega)
  have hci : (c : Int) ≤ 200000 := by omega
  have hni : ((nC n : Nat) : Int) ≤ 100000 := by unfold nC; omega
  generalize nC n = k at *
  clear hn hc
  go_enter Try.func30, Try.ntmps30
  go_wp2_with fail
  refine (unhide N).mono ?_
  rintro e w1 ⟨rfl, hw⟩
  have hw' := hw.symm
  subst hw'
  go_wp2
  go_ret
  exact ⟨by rw [← unhide HQ]; rfl, rfl⟩
/-- an entry with its number, and where it lies -/
def plV (n : Nat) (e : En) (p : Nat) : Value := .agg #[.int .i64 (n : Int), .int .i64 e.what, .int .i64 e.how, .string e.text, .int .i64 (p : Int)]
def plO (n : Nat) (e : En) (p : Nat) : Obj := .cells #[.int .i64 (n : Int), .int .i64 e.what, .int .i64 e.how, .string e.text, .int .i64 (p : Int)] 62
theorem plCells {w : World} {g n p : Nat} {e : En} (h : w.heap[g]? = some (plO n e p)) : w.cell? ⟨g, 0, none⟩ = some (.int .i64 (n : Int)) ∧ w.cell? ⟨g, 1, none⟩ = some (.int .i64 e.what) ∧ w.cell? ⟨g, 2, none⟩ = some (.int .i64 e.how) ∧ w.cell? ⟨g, 3, none⟩ = some (.string e.text) ∧ w.cell? ⟨g, 4, none⟩ = some (.int .i64 (p : Int)) := by
  unfold plO at h
  refine ⟨?_, ?_, ?_, ?_, ?_⟩ <;> simp [World.cell?, h]
theorem end_any (n p : Nat) (e : En) (hp : p ≤ 200000) (ht : e.text.size ≤ 100000) (w : World) : Calls Try.prog 24 #[plV n e p] w fun r w' => r = .returned (.int .i64 ((p + wid e : Nat) : Int)) ∧ Below w.heap.size w w' := by
  have N := hide (fun W => endOf_any p e.text.size hp ht W)
  have HB := hide ((Below.refl w.heap.size w).alloc (Nat.le_refl _) (plO n e p))
  have hti : (e.text.size : Int) ≤ 100000 := by omega
  have hpi : (p : Int) ≤ 200000 := by omega
  unfold wid
  generalize p + (1 + nC e.text.size) = q at *
  obtain ⟨wh, ho, tx⟩ := e
  unfold plV
  unfold plO at HB
  dsimp only at *
  clear hp ht
  go_enter Try.func24, Try.ntmps24
  go_wp2_with fail
  refine (unhide N _).mono ?_
  rintro r w1 ⟨rfl, hw⟩
  have hw' := hw.symm
  subst hw'
  go_wp2
  go_ret
  exact ⟨rfl, unhide HB⟩
section
variable {w w' : World} {B bb mb : Nat} {v pl : Value} {M : Mm}
theorem StoAt.F_lt (h : StoAt w B bb mb v M pl) : ∀ x, stoF bb mb v x → x < w.heap.size := by
  rintro x (rfl | rfl | hx)
  · exact h.lt
  · exact h.mem.lt
  · exact (h.mem.row.lt x hx).2
set_option maxHeartbeats 4000000 in
theorem head_any (h : StoAt w B bb mb v M pl) (n p : Nat) (e : En) (he : okEn e) (hp : p < M.C.length) :
    Calls Try.prog 27 #[.pointer (some ⟨bb, 0, none⟩), plV n e p] w fun r w' => r = .returned (.tuple #[]) ∧ StoAt w' B bb mb v (wrM M p (headB e)) pl ∧ Chg (stoF bb mb v) w w' := by
  obtain ⟨W1, hW1⟩ : ∃ W1, W1 = w.alloc (plO n e p) := ⟨_, rfl⟩
  have hB1 : Below w.heap.size w W1 := by rw [hW1]; exact (Below.refl _ _).alloc (Nat.le_refl _) _
  have hX1 : W1.heap[w.heap.size]? = some (plO n e p) := by rw [hW1]; exact heap_alloc_new _ _
  have CP := hide (fun w' (hb : Below W1.heap.size W1 w') => plCells ((hb.block _ (block_ltR hX1)).trans hX1))
  obtain ⟨z1, z2, z3⟩ := headT_parts e he
  have hhs := headT_size e he
  have N1 := hide (fun W => number_all e.what 1 W (by have := he.2.1; omega))
  have N2 := hide (fun W => number_all e.how 1 W (by have := he.2.2.2.1; omega))
  have N3 := hide (fun W => number_all (e.text.size : Int) 2 W (by have := he.2.2.2.2; omega))
  have N4 : Hid (∀ W, Calls Try.prog 35 #[.string (numS e.what 1 ++ numS e.how 1 ++ numS (e.text.size : Int) 2)] W fun r W' => r = .returned (.string (headB e)) ∧ Below W.heap.size W W') := hide (fun W => cell_any (headT e) (by rw [hhs]; decide) W)
  have N5 := hide (fun W (hb : Below w.heap.size w W) => swrite_any (h.below hb) p (headB e) hp (headB_size e he))
  have hti : (e.text.size : Int) ≤ 20000 := by have := he.2.2.2.2; omega
  have ha1 := fun w' => run_string_add_sum (P := Try.prog) w' (numS e.what 1) (numS e.how 1) (by omega)
  have ha2 := fun w' => run_string_add_sum (P := Try.prog) w' (numS e.what 1 ++ numS e.how 1) (numS (e.text.size : Int) 2) (by rw [ByteArray.size_append]; omega)
  have HW1 := hide hW1; have HB1 := hide hB1
  have HFl := hide h.F_lt
  unfold plO at HW1
  generalize headB e = hb at *
  generalize wrM M p hb = M' at *
  generalize numS e.what 1 = s1 at *
  generalize numS e.how 1 = s2 at *
  generalize numE e.what 1 = e1 at *
  generalize numE e.how 1 = e2 at *
  generalize numS (e.text.size : Int) 2 = s3 at *
  generalize numE (e.text.size : Int) 2 = e3 at *
  obtain ⟨wh, ho, tx⟩ := e
  unfold plV
  dsimp only at *
  clear h he hp hW1 hB1 hX1 z1 z2 z3 hhs
  go_enter Try.func27, Try.ntmps27
  go_upto_region 1 with fail
  rw [← unhide HW1]
  obtain ⟨d0, d1, d2, d3, d4⟩ := unhide CP W1 (Below.refl _ _)
  go_wp2_with fail
  refine (unhide N1 _).mono ?_
  rintro r y1 ⟨rfl, k1⟩
  have HKa := hide k1
  obtain ⟨d0, d1, d2, d3, d4⟩ := unhide CP y1 k1
  clear k1
  go_wp2_with fail
  refine (unhide N2 _).mono ?_
  rintro r y2 ⟨rfl, k2⟩
  have HKb := hide ((unhide HKa).trans (k2.mono (unhide HKa).size))
  obtain ⟨d0, d1, d2, d3, d4⟩ := unhide CP y2 (unhide HKb)
  clear k2
  go_wp2_with fail
  refine (unhide N3 _).mono ?_
  rintro r y3 ⟨rfl, k3⟩
  have HKc := hide ((unhide HKb).trans (k3.mono (unhide HKb).size))
  clear k3
  go_wp2_with fail
  have hs0 : y3.drew.cell? ⟨w.heap.size, 4, none⟩ = some (.int .i64 (p : Int)) := (unhide CP y3.drew (unhide HKc).drew).2.2.2.2
  go_region_held3 (fun w' => w'.cell? ⟨w.heap.size, 4, none⟩ = some (.int .i64 (p : Int)))
    (first
      | exact hs2
      | exact hs1
      | exact hs0)
    ((first
      | (go_at_call 34; refine (unhide N5 _ ((unhide HB1).trans (k4.mono (unhide HB1).size))).mono ?_; rintro r y5 ⟨rfl, q5, q6⟩; have hs2 : y5.cell? ⟨w.heap.size, 4, none⟩ = some (.int .i64 (p : Int)) := (by
          have hlt : w.heap.size < y4.heap.size := Nat.lt_of_lt_of_le (by rw [unhide HW1]; simp) k4.size
          have hne : ¬ stoF bb mb v w.heap.size := fun hf => by
            have := unhide HFl _ hf; omega
          unfold World.cell?
          rw [q6.block _ hlt hne]
          exact (unhide CP y4 k4).2.2.2.2))
      | (go_at_call 35; refine (unhide N4 _).mono ?_; rintro r y4 ⟨rfl, hb4⟩; have k4 : Below W1.heap.size W1 y4 := ((unhide HKc).drew).trans (hb4.mono (unhide HKc).size); have hs1 : y4.cell? ⟨w.heap.size, 4, none⟩ = some (.int .i64 (p : Int)) := (unhide CP y4 k4).2.2.2.2)
      | fail))
  all_goals
    have HZ : Hid (StoAt y5 B bb mb v M' pl ∧ Chg (stoF bb mb v) w y5) := hide ⟨q5, (Chg.of_below (stoF bb mb v) ((unhide HB1).trans (k4.mono (unhide HB1).size))).trans q6 (fun x hx => .inl hx)⟩
    clear q5 q6 k4 hb4 hs0 hs1 hs2
    go_wp2
    go_end0
    exact ⟨rfl, unhide HZ⟩
end
end Go.Proofs.Ytbiipeapcclbkaa
