/- wire's Read. -/
import Derived.Test.YtkmmgeoialdmlaaDoorWnD
namespace Go.Proofs.YtkmmgeoialdmlaaDoor
open Go.RowKit
set_option linter.unusedVariables false

theorem results_cell_tmp {P : Program} {fn : Func} {p q : Tmp} {ty : TypeId} (h : fn.results = #[.cell p ty, .tmp q]) (tmps : Array Value) (w : World) (g : Nat) (t : TypeId) (cs : Array Value) (fr : Nat × Nat) (d : TypeDesc) (v : Value)
    (hp : tmps.getD p undef = .pointer (some ⟨g, 0, none⟩)) (hq : tmps.getD q undef = v) (hg : w.heap[g]? = some (.cells cs t fr))
    (hu : P.underlying ty = some d) (hd : (match d with | .struct _ | .array _ _ => true | _ => false) = true) (hi : (P.info? ty).map (·.size) = some cs.size) :
    (results fn tmps).run P w = .ok (.tuple #[.agg cs, v]) w := by
  have hp' : tmps[p]?.getD undef = .pointer (some ⟨g, 0, none⟩) := by simpa using hp
  have hq' : tmps[q]?.getD undef = v := by simpa using hq
  simp [results, h, hp', hq', asAddr, run_loadVar_row w g t ty cs fr d hg hu hd hi]
theorem rawP_mem : ∀ (ps : List Prt) (f : Nat) (t : ByteArray), rawP ps f = some t → ∃ p ∈ ps, p.2 = t := by
  have : ∀ (ps : List Prt) (st : Nat → Option ByteArray) (f : Nat) (t : ByteArray), (ps.foldl (fun st p i => if i = p.1.toNat then some p.2 else st i) st) f = some t → (∃ p ∈ ps, p.2 = t) ∨ st f = some t := by
    intro ps
    induction ps with
    | nil => intro st f t h; exact .inr h
    | cons x r ih =>
      intro st f t h
      rw [List.foldl_cons] at h
      rcases ih _ f t h with ⟨p, hp, e⟩ | h2
      · exact .inl ⟨p, List.mem_cons_of_mem _ hp, e⟩
      · by_cases hf : f = x.1.toNat
        · rw [if_pos hf] at h2
          exact .inl ⟨x, List.mem_cons_self, Option.some.inj h2⟩
        · rw [if_neg hf] at h2; exact .inr h2
  intro ps f t h
  rcases this ps _ f t h with h | h
  · exact h
  · cases h
theorem rawP_size (ps : List Prt) (hg : goodP 0 ps = true) (f : Nat) : (ptxt (rawP ps f)).size ≤ 9999 := by
  cases h : rawP ps f with
  | none => exact Nat.zero_le _
  | some t =>
    obtain ⟨p, hp, rfl⟩ := rawP_mem ps f t h
    exact (good_mem hg (Int.le_refl 0) p hp).2.2.2
theorem cashN_b (n : Int) : -9223372036854775808 ≤ cashN n ∧ cashN n ≤ 9223372036854775807 := by unfold cashN; split <;> omega
theorem pnum_b (o : Option ByteArray) : -9223372036854775808 ≤ pnum o ∧ pnum o ≤ 9223372036854775807 := by
  cases o with
  | none => exact ⟨by show (-9223372036854775808 : Int) ≤ 0; omega, by show (0 : Int) ≤ _; omega⟩
  | some t => exact atoiN_bounds _
theorem rdP_ok (k : Int) (ps : List Prt) (hg : goodP 0 ps = true) : NtOk (nrm (ntP k ps)) := by
  refine ⟨fun f => ?_, fun f => ?_⟩
  · simp only [nrm]
    by_cases h3 : f = 3
    · rw [if_pos h3]; exact cashN_b _
    · rw [if_neg h3]; exact pnum_b _
  · have := rawP_size ps hg f
    show (ptxt (rawP ps f)).size ≤ _
    omega
theorem setRow_below {B g : Nat} {w w' : World} {cs : Array Value} (h : Below B w w') (hB : B ≤ g) : Below B w (w'.setRow g cs) :=
  ⟨h.os, h.tape, h.output, by simpa [World.setRow] using h.size, fun q hq => by
    rw [← h.block q hq]
    simp only [World.setRow]
    rw [Array.getElem?_modify, if_neg (by omega)]⟩
theorem setRow_other {g q : Nat} {w : World} {cs : Array Value} (h : q ≠ g) : (w.setRow g cs).heap[q]? = w.heap[q]? := by
  simp only [World.setRow]
  rw [Array.getElem?_modify, if_neg (by omega)]
theorem setRow_size {g : Nat} {w : World} {cs : Array Value} : (w.setRow g cs).heap.size = w.heap.size := by simp [World.setRow]
theorem range_of_row {w : World} {b : Nat} {l : List Value} {t : TypeId} (h : w.heap[b]? = some (.cells l.toArray t (0, 0))) : w.rangeAt b 0 l := fun j v hv => by
  rw [Nat.zero_add, cell_of_row _ _ j _ _ _ h, List.getElem?_toArray]
  exact hv
theorem noteC_len (k : Int) (N : Nat → Int) (T : Nat → ByteArray) (c : Bool) : (noteC k N T c).length = 17 := rfl
theorem noteC_one (k : Int) (N : Nat → Int) (T : Nat → ByteArray) (c : Bool) : ∀ v ∈ noteC k N T c, v.oneCell' = true := by unfold noteC; simp [Value.oneCell']
/-- a note as a list of cells -/
structure Cells17 (L : List Value) : Prop where
  one : L.toArray.all (·.oneCell') = true
  len : L.length = 17
theorem cells17 (k : Int) (N : Nat → Int) (T : Nat → ByteArray) (c : Bool) : Cells17 (noteC k N T c) := ⟨all_oneCell_toArray (noteC_one k N T c), rfl⟩
theorem Cells17.info1 {L : List Value} (h : Cells17 L) : (Tryd.prog.info? 35).map (·.size) = some L.length := by rw [h.len]; exact sizeNote
theorem Cells17.info2 {L : List Value} (h : Cells17 L) : (Tryd.prog.info? 35).map (·.size) = some L.toArray.size := by rw [List.size_toArray]; exact h.info1
theorem Cells17.same {L M : List Value} (h : Cells17 L) (h' : Cells17 M) : L.toArray.size = M.toArray.size := by rw [List.size_toArray, List.size_toArray, h.len, h'.len]
def rdV (s : ByteArray) : Value := if rdB s then noteV (rdP s) else .agg noteZ.toArray
def rdE (s : ByteArray) : Int := if rdB s then 0 else 1
set_option maxRecDepth 100000 in
set_option maxHeartbeats 8000000 in
theorem read_any (s : ByteArray) (hs : s.size ≤ 9223372036854775807) (w : World) (he : Env w) (h4 : 4 ≤ w.heap.size) :
    Calls Tryd.prog 12 #[.string s] w fun e w' => e = .returned (.tuple #[rdV s, .int .i64 (rdE s)]) ∧ Below w.heap.size w w' := by
  have hV : rdV s = if rdB s then .agg (noteOfL (unpK s) (unpL s)).toArray else .agg noteZ.toArray := rfl
  have hE : rdE s = if rdB s then 0 else 1 := rfl
  have hB : rdB s = decide (wrE (rdP s) = 0 ∧ wrS (rdP s) = s) := rfl
  have hug := unpL_good s
  have N3 := hide (fun w' (h : Env w') (h4 : 4 ≤ w'.heap.size) => (write_any (rdP s) (rdP_ok _ _ hug) (nrm_cashy _) w' h h4))
  have hnv : noteV (rdP s) = .agg (noteOfL (unpK s) (unpL s)).toArray := rfl
  rw [hnv] at N3
  have hL17 : Cells17 (noteOfL (unpK s) (unpL s)) := cells17 _ _ _ _
  have hZ17 : Cells17 noteZ := cells17 _ _ _ _
  obtain ⟨W0, hW0⟩ : ∃ W0, W0 = w.alloc (.cells noteZ.toArray 35) := ⟨_, rfl⟩
  have hB0 : Below w.heap.size w W0 := by rw [hW0]; exact (Below.refl _ _).alloc (Nat.le_refl _) _
  have hS0 : W0.heap.size = w.heap.size + 1 := by rw [hW0]; simp
  have hX0 : NoteAt W0 w.heap.size noteZ := by unfold NoteAt; rw [hW0]; exact heap_alloc_new _ _
  have N1 := hide (unpack_any s hs W0 (he.below hB0 h4) (by omega))
  have N2 := hide (fun w' pa c (hr : PRow w' pa (unpL s)) (h : Env w') (h4 : 4 ≤ w'.heap.size) => noteOf_any (unpK s) (unpL s) hug pa c w' hr h h4)
  have HEN := hide (fun w' (h : Below W0.heap.size W0 w') => ((he.below hB0 h4).below h (by omega) : Env w'))
  generalize noteOfL (unpK s) (unpL s) = L at *
  generalize unpK s = uk at *
  generalize unpL s = ul at *
  generalize unpE s = ue at *
  generalize wrE (rdP s) = we at *
  generalize wrS (rdP s) = ws at *
  generalize rdB s = rb at *
  generalize rdV s = rv at *
  generalize rdE s = re at *
  obtain ⟨Z, hZ⟩ : ∃ Z, Z = noteZ := ⟨_, rfl⟩
  rw [← hZ] at hV hW0 hX0 hZ17
  have HW0 := hide (hW0.trans (by rw [hZ]; rfl : _ = w.alloc (.cells #[.int .i64 0, .int .i64 0, .int .i64 0, .int .i64 0, .string ⟨#[]⟩, .string ⟨#[]⟩, .string ⟨#[]⟩, .string ⟨#[]⟩, .string ⟨#[]⟩, .string ⟨#[]⟩, .int .i64 0, .int .i64 0, .int .i64 0, .bool false, .int .i64 0, .int .i64 0, .string ⟨#[]⟩] 35)))
  have HV := hide hV; have HE := hide hE; have HB := hide hB; have HB0 := hide hB0; have HS0 := hide hS0; have HX0 := hide hX0; have HZ := hide hZ; have HL17 := hide hL17; have HZ17 := hide hZ17
  clear hV hE hB hW0 hB0 hS0 hX0 hZ hL17 hZ17 he hnv hug
  go_enter Tryd.func12, Tryd.ntmps12
  go_upto_region 1 with fail
  rw [← unhide HW0]
  go_wp2_with fail
  refine (unhide N1).mono ?_
  rintro e w1 ⟨pa, c, rfl, hr, hb1⟩
  obtain ⟨W2, hW2⟩ : ∃ W2, W2 = w1.alloc (.cells #[.int .i64 uk, .slice pa ul.length c] 24) := ⟨_, rfl⟩
  have hB2 : Below w1.heap.size w1 W2 := by rw [hW2]; exact (Below.refl _ _).alloc (Nat.le_refl _) _
  have hS2 : W2.heap.size = w1.heap.size + 1 := by rw [hW2]; simp
  have hX2 : W2.heap[w1.heap.size]? = some (.cells #[.int .i64 uk, .slice pa ul.length c] 24 (0, 0)) := by rw [hW2]; exact heap_alloc_new _ _
  have m0 : W2.cell? ⟨w1.heap.size, 0, none⟩ = some (.int .i64 uk) := (cell_of_row _ _ 0 _ _ _ hX2).trans rfl
  have m1 : W2.cell? ⟨w1.heap.size, 1, none⟩ = some (.slice pa ul.length c) := (cell_of_row _ _ 1 _ _ _ hX2).trans rfl
  have hb2 : Below W0.heap.size W0 W2 := hb1.trans (hB2.mono hb1.size)
  have hs0 := unhide HS0
  have hs1 := hb1.size
  have N4 := hide (unhide N2 W2 pa c (hr.below hB2 (Nat.le_refl _)) (unhide HEN W2 hb2) (by omega))
  have HW2 := hide hW2; have HB2 := hide hb2
  clear hW2 hB2 hS2 hX2 hr hb1 hb2 hs0
  go_upto_region 2 with fail
  rw [← unhide HW2]
  go_wp2_with fail
  refine (unhide N4).mono ?_
  rintro e w3 ⟨rfl, hb3⟩
  have hb3' : Below W0.heap.size W0 w3 := (unhide HB2).trans (hb3.mono (unhide HB2).size)
  clear m0 m1 hb3
  obtain ⟨W4, hW4⟩ : ∃ W4, W4 = (w3.alloc (.cells Z.toArray 35)).setRow w3.heap.size L.toArray := ⟨_, rfl⟩
  have hz3 : (w3.alloc (.cells Z.toArray 35)).heap[w3.heap.size]? = some (.cells Z.toArray 35 (0, 0)) := heap_alloc_new _ _
  have hX4 : W4.heap[w3.heap.size]? = some (.cells L.toArray 35 (0, 0)) := by rw [hW4, setRow_heap _ _ _ _ _ _ hz3]
  have hB4 : Below w3.heap.size w3 W4 := by rw [hW4]; exact setRow_below ((Below.refl _ _).alloc (Nat.le_refl _) _) (Nat.le_refl _)
  have hS4 : W4.heap.size = w3.heap.size + 1 := by rw [hW4, setRow_size]; simp
  have hb4' : Below W0.heap.size W0 W4 := hb3'.trans (hB4.mono hb3'.size)
  have hs3 := hb3'.size
  have hs0 := unhide HS0
  have N5 := hide (unhide N3 W4 (unhide HEN W4 hb4') (by omega))
  have HRG := hide (range_of_row hX4)
  have HW4 := hide (hW4.trans (by rw [unhide HZ]; rfl : _ = (w3.alloc (.cells #[.int .i64 0, .int .i64 0, .int .i64 0, .int .i64 0, .string ⟨#[]⟩, .string ⟨#[]⟩, .string ⟨#[]⟩, .string ⟨#[]⟩, .string ⟨#[]⟩, .string ⟨#[]⟩, .int .i64 0, .int .i64 0, .int .i64 0, .bool false, .int .i64 0, .int .i64 0, .string ⟨#[]⟩] 35)).setRow w3.heap.size L.toArray)); have HX4 := hide hX4; have HB4 := hide hb4'
  have HZ3 := hide hz3; rw [unhide HZ] at HZ3
  have hlt4 : w3.heap.size < W4.heap.size := by omega
  have hltw : w.heap.size < w3.heap.size := by omega
  clear hW4 hz3 hX4 hB4 hS4 hb3' hb4' hs0 hs1 hs3
  go_upto_region 3 with (refine wpList_store_row rfl _ _ _ rfl w3.heap.size L.toArray rfl rfl 35 noteZ.toArray (unhide HZ3) (unhide HL17).info2 ((cells17 _ _ _ _).same (unhide HL17)) (unhide HL17).one ?_)
  rw [← unhide HW4]
  go_wp2_with (refine wpList_load_mid rfl _ _ rfl w3.heap.size 0 rfl L _ (unhide HRG) Tryd.underlying35 rfl (unhide HL17).info1 ?_)
  refine (unhide N5).mono ?_
  rintro e w5 ⟨rfl, hb5⟩
  have hb05 : Below W0.heap.size W0 w5 := (unhide HB4).trans (hb5.mono (unhide HB4).size)
  have hX5 : NoteAt w5 w.heap.size noteZ := (hb05.block _ (by have := unhide HS0; omega)).trans (by have := unhide HX0; rw [unhide HZ] at this; exact this)
  have hY5 : w5.heap[w3.heap.size]? = some (.cells L.toArray 35 (0, 0)) := (hb5.block _ hlt4).trans (unhide HX4)
  have HX5 := hide hX5; have HRG5 := hide (range_of_row hY5); have HB5 := hide ((unhide HB0).trans (hb05.mono (unhide HB0).size))
  clear hb5 hb05 hX5 hY5
  unfold NoteAt at HX5
  by_cases h0 : we = 0
  · subst h0
    by_cases hss : ws = s
    · subst hss
      have h1 : rb = true := by rw [unhide HB]; simp
      have h2 : rv = .agg L.toArray := by rw [unhide HV, h1]; rfl
      have h3 : re = 0 := by rw [unhide HE, h1]; rfl
      subst h2 h3
      clear h1
      go_wp2_with (first | (refine wpList_load_mid rfl _ _ rfl w3.heap.size 0 rfl L _ (unhide HRG5) Tryd.underlying35 rfl (unhide HL17).info1 ?_) | (refine wpList_store_row rfl _ _ _ rfl w.heap.size L.toArray rfl rfl 35 noteZ.toArray (unhide HX5) (unhide HL17).info2 ((cells17 _ _ _ _).same (unhide HL17)) (unhide HL17).one ?_))
      refine bodyPost_ret (v := .tuple #[.agg L.toArray, .int .i64 0]) (results_cell_tmp rfl _ _ w.heap.size 35 L.toArray (0, 0) _ _ rfl rfl (by rw [setRow_heap _ _ _ _ _ _ (unhide HX5)]) Tryd.underlying35 rfl (unhide HL17).info2) rfl ⟨rfl, setRow_below (unhide HB5) (Nat.le_refl _)⟩
    · have hne : (ws.toList == s.toList) = false := by
        rw [beq_eq_false_iff_ne, Lib.toList_data, Lib.toList_data]
        exact fun h => hss (ByteArray.ext (Array.toList_inj.1 h))
      have h1 : rb = false := by rw [unhide HB]; simp [hss]
      have h2 : rv = .agg noteZ.toArray := by rw [unhide HV, h1, unhide HZ]; rfl
      have h3 : re = 1 := by rw [unhide HE, h1]; rfl
      subst h2 h3
      clear h1
      go_wp2_with (refine wpList_store_row rfl _ _ _ rfl w.heap.size noteZ.toArray rfl rfl 35 noteZ.toArray (unhide HX5) (cells17 _ _ _ _).info2 rfl (cells17 _ _ _ _).one ?_)
      refine bodyPost_ret (v := .tuple #[.agg noteZ.toArray, .int .i64 1]) (results_cell_tmp rfl _ _ w.heap.size 35 noteZ.toArray (0, 0) _ _ rfl rfl (by rw [setRow_heap _ _ _ _ _ _ (unhide HX5)]) Tryd.underlying35 rfl (cells17 _ _ _ _).info2) rfl ⟨rfl, setRow_below (unhide HB5) (Nat.le_refl _)⟩
  · have hpe : (we != 0) = true := by simpa using h0
    have h1 : rb = false := by rw [unhide HB]; simp [h0]
    have h2 : rv = .agg noteZ.toArray := by rw [unhide HV, h1, unhide HZ]; rfl
    have h3 : re = 1 := by rw [unhide HE, h1]; rfl
    subst h2 h3
    clear h1
    go_wp2_with (refine wpList_store_row rfl _ _ _ rfl w.heap.size noteZ.toArray rfl rfl 35 noteZ.toArray (unhide HX5) (cells17 _ _ _ _).info2 rfl (cells17 _ _ _ _).one ?_)
    refine bodyPost_ret (v := .tuple #[.agg noteZ.toArray, .int .i64 1]) (results_cell_tmp rfl _ _ w.heap.size 35 noteZ.toArray (0, 0) _ _ rfl rfl (by rw [setRow_heap _ _ _ _ _ _ (unhide HX5)]) Tryd.underlying35 rfl (cells17 _ _ _ _).info2) rfl ⟨rfl, setRow_below (unhide HB5) (Nat.le_refl _)⟩
end Go.Proofs.YtkmmgeoialdmlaaDoor
