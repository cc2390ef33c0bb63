/- The law WireNotes: its walk. -/
import Derived.Test.YtkmmgeoialdmlaaDoorWnH
namespace Go.Proofs.YtkmmgeoialdmlaaDoor
open Go.RowKit
set_option linter.unusedVariables false

theorem wpList_load_midG {P : Program} {ops : Array Oper} {rest : List Oper} {op : Oper} {a : Act} {w : World} {Q : Exit → Act → World → Prop} (hw : Region.wanted op (yielded ops a.tmps) = true) (ty : TypeId) (x : Operand) (ho : op.op = .load ty x)
    (b o : Nat) (hx : a.eval x = .pointer (some ⟨b, o, none⟩)) (cs : List Value) (d : TypeDesc) (hc : w.rangeAt b o cs)
    (hu : P.underlying ty = some d) (hd : d.isRow = true) (hi : (P.info? ty).map (·.size) = some cs.length)
    (h : wpList P ops Q rest (a.put op.dst (.agg cs.toArray)) w) : wpList P ops Q (op :: rest) a w :=
  wpList_step fun K hK => by rw [if_pos hw]; exact wp_load_mid ty x ho b o hx cs d hc hu hd hi (hK _ _ h)
set_option maxRecDepth 100000 in
set_option maxHeartbeats 2000000 in
theorem same_note (k : Int) (N : Nat → Int) (T : Nat → ByteArray) (c : Bool) (w : World) : (binOp .neq 35 (.agg (noteC k N T c).toArray) (.agg (noteC k N T c).toArray)).run Tryd.prog w = .ok (.bool false) w := by
  unfold noteC
  go_simp
  try simp
theorem guard_note (op : BinOp) (x y : Operand) (a b : Array Value) (w : World) : (eqGuard op 35 x y (.agg a) (.agg b)).run Tryd.prog w = .ok () w := run_eqGuard_agg w op _ x y _ _ (by kernel_rfl)
def rdL (s : ByteArray) : List Value := if rdB s then noteC (rdP s).kind (rdP s).num (rdP s).txt (decide ((rdP s).num 3 = 1)) else noteZ
theorem rdL_as (s : ByteArray) : rdV s = .agg (rdL s).toArray := by
  unfold rdV rdL
  cases rdB s with
  | false => rfl
  | true => rfl
theorem rdL_17 (s : ByteArray) : Cells17 (rdL s) := by
  unfold rdL
  split
  · exact cells17 _ _ _ _
  · exact cells17 _ _ _ _
theorem rdL_same (s : ByteArray) (w : World) : (binOp .neq 35 (.agg (rdL s).toArray) (.agg (rdL s).toArray)).run Tryd.prog w = .ok (.bool false) w := by
  unfold rdL
  split
  · exact same_note _ _ _ _ w
  · exact same_note _ _ _ _ w
theorem wrS_len (x : Nt) : (wrS x).size ≤ 9223372036854775807 := by
  unfold wrS
  split
  · exact Nat.zero_le _
  · split
    · exact pack_len _ _
    · exact Nat.zero_le _
set_option maxRecDepth 100000 in
set_option maxHeartbeats 8000000 in
theorem walkNotes (x : Nt) (hx : NtOk x) (hc : Cashy x) (s : ByteArray) (hs : s.size ≤ 9223372036854775807) (w : World) (he : Env w) (h4 : 4 ≤ w.heap.size) :
    Calls Tryd.prog 4 #[noteV x, .string s] w fun e w' => e = .returned (.bool true) ∧ Below w.heap.size w w' := by
  obtain ⟨X, hX⟩ : ∃ X, X = noteC x.kind x.num x.txt (decide (x.num 3 = 1)) := ⟨_, rfl⟩
  have hX17 : Cells17 X := by rw [hX]; exact cells17 _ _ _ _
  have hv : noteV x = .agg X.toArray := by rw [hX]; rfl
  have N1 := hide (fun w' (h : Env w') (h4 : 4 ≤ w'.heap.size) => write_any x hx hc w' h h4)
  have N2 := hide (fun w' => rwrite_any x hx hc w')
  rw [hv] at N1 N2 ⊢
  have N3 := hide (fun w' (h : Env w') (h4 : 4 ≤ w'.heap.size) => read_any s hs w' h h4)
  have N4 := hide (fun w' => rread_any s hs w')
  rw [(rdRV_same s).1, (rdRV_same s).2] at N4
  rw [rdL_as s] at N3 N4
  have hL17 := rdL_17 s
  have hLs := rdL_same s
  have N5 := hide (fun w' (h : Env w') (h4 : 4 ≤ w'.heap.size) => read_any (wrS x) (wrS_len x) w' h h4)
  have hbk : wrE x = 0 → rdE (wrS x) = 0 ∧ ∀ w', Env w' → 4 ≤ w'.heap.size → Calls Tryd.prog 10 #[.agg (rdL (wrS x)).toArray] w' fun e w'' => e = .returned (.tuple #[.string (wrS x), .int .i64 0]) ∧ Below w'.heap.size w' w'' := fun h => by
    obtain ⟨b1, b2, b3⟩ := rd_back hc h
    refine ⟨by unfold rdE; rw [b1]; rfl, fun w' h1 h2 => ?_⟩
    have hw := write_any (rdP (wrS x)) (rdP_ok _ _ (unpL_good _)) (nrm_cashy _) w' h1 h2
    rw [b2, b3] at hw
    have e : noteV (rdP (wrS x)) = .agg (rdL (wrS x)).toArray := by unfold rdL; rw [b1]; rfl
    rw [e] at hw
    exact hw
  rw [rdL_as (wrS x)] at N5
  have hM17 := rdL_17 (wrS x)
  generalize rdL (wrS x) = M at *
  generalize rdE (wrS x) = me at *
  generalize rdL s = L at *
  generalize rdE s = le at *
  generalize wrE x = we at *
  generalize wrS x = ws at *
  obtain ⟨W1, hW1⟩ : ∃ W1, W1 = w.alloc (.cells X.toArray 35) := ⟨_, rfl⟩
  have hB1 : Below w.heap.size w W1 := by rw [hW1]; exact (Below.refl _ _).alloc (Nat.le_refl _) _
  have hS1 : W1.heap.size = w.heap.size + 1 := by rw [hW1]; simp
  have hX1 : W1.heap[w.heap.size]? = some (.cells X.toArray 35 (0, 0)) := by rw [hW1]; exact heap_alloc_new _ _
  have hE1 : Env W1 := he.below hB1 h4
  have HEN := hide (fun w' (h : Below W1.heap.size W1 w') => (show Env w' ∧ 4 ≤ w'.heap.size from ⟨hE1.below h (by omega), by have := h.size; omega⟩))
  have HRX := hide (fun w' (h : Below W1.heap.size W1 w') => range_of_row ((h.block _ (by omega)).trans hX1))
  have HX17 := hide hX17; have HL17 := hide hL17; have HM17 := hide hM17; have HLS := hide hLs; have HBK := hide hbk; have HW1 := hide hW1; have HB1 := hide hB1; have HS1 := hide hS1
  clear hX17 hL17 hM17 hLs hbk hW1 hB1 hS1 hX1 hE1 hv hX he
  go_enter Tryd.func4, Tryd.ntmps4
  go_upto_region 1 with fail
  rw [← unhide HW1]
  go_wp2_with (refine wpList_load_mid rfl _ _ rfl w.heap.size 0 rfl X _ (unhide HRX W1 (Below.refl _ _)) Tryd.underlying35 rfl (unhide HX17).info1 ?_)
  refine (unhide N1 W1 (unhide HEN W1 (Below.refl _ _)).1 (unhide HEN W1 (Below.refl _ _)).2).mono ?_
  rintro e w1 ⟨rfl, hb1⟩
  go_wp2_with (refine wpList_load_mid rfl _ _ rfl w.heap.size 0 rfl X _ (unhide HRX w1 hb1) Tryd.underlying35 rfl (unhide HX17).info1 ?_)
  refine (unhide N2 w1).mono ?_
  rintro e w2 ⟨rfl, hb2⟩
  have hb12 : Below W1.heap.size W1 w2 := hb1.trans (hb2.mono hb1.size)
  have HB12 := hide hb12
  clear hb1 hb2 hb12
  go_wp2_with fail
  refine (unhide N3 w2 (unhide HEN w2 (unhide HB12)).1 (unhide HEN w2 (unhide HB12)).2).mono ?_
  rintro e w3 ⟨rfl, hb3⟩
  have hb13 : Below W1.heap.size W1 w3 := (unhide HB12).trans (hb3.mono (unhide HB12).size)
  have hz3 : (w3.alloc (.cells noteZ.toArray 35)).heap[w3.heap.size]? = some (.cells noteZ.toArray 35 (0, 0)) := heap_alloc_new _ _
  obtain ⟨W4, hW4⟩ : ∃ W4, W4 = (w3.alloc (.cells noteZ.toArray 35)).setRow w3.heap.size L.toArray := ⟨_, rfl⟩
  have hX4 : W4.heap[w3.heap.size]? = some (.cells L.toArray 35 (0, 0)) := by rw [hW4, setRow_heap _ _ _ _ _ _ hz3]
  have hB4 : Below w3.heap.size w3 W4 := by rw [hW4]; exact setRow_below ((Below.refl _ _).alloc (Nat.le_refl _) _) (Nat.le_refl _)
  have hS4 : W4.heap.size = w3.heap.size + 1 := by rw [hW4, setRow_size]; simp
  have hb14 : Below W1.heap.size W1 W4 := hb13.trans (hB4.mono hb13.size)
  have HZ3 := hide hz3; have HX4 := hide hX4; have HB14 := hide hb14; have HS4 := hide hS4
  have HW4 := hide (hW4.trans rfl : W4 = (w3.alloc (.cells #[.int .i64 0, .int .i64 0, .int .i64 0, .int .i64 0, .string ⟨#[]⟩, .string ⟨#[]⟩, .string ⟨#[]⟩, .string ⟨#[]⟩, .string ⟨#[]⟩, .string ⟨#[]⟩, .int .i64 0, .int .i64 0, .int .i64 0, .bool false, .int .i64 0, .int .i64 0, .string ⟨#[]⟩] 35)).setRow w3.heap.size L.toArray)
  have hs13 := hb13.size
  have hs1 := unhide HS1
  have hw3 : w.heap.size < w3.heap.size := by omega
  clear hb3 hb13 hz3 hW4 hX4 hB4 hS4 hb14 hs13 hs1
  go_upto_region 4 with (refine wpList_store_row rfl _ _ _ rfl w3.heap.size L.toArray rfl rfl 35 noteZ.toArray (unhide HZ3) (unhide HL17).info2 ((cells17 _ _ _ _).same (unhide HL17)) (unhide HL17).one ?_)
  rw [← unhide HW4]
  go_wp2_with fail
  refine (unhide N4 W4).mono ?_
  rintro e w5 ⟨rfl, hb5⟩
  have hz5 : (w5.alloc (.cells noteZ.toArray 35)).heap[w5.heap.size]? = some (.cells noteZ.toArray 35 (0, 0)) := heap_alloc_new _ _
  obtain ⟨W6, hW6⟩ : ∃ W6, W6 = (w5.alloc (.cells noteZ.toArray 35)).setRow w5.heap.size L.toArray := ⟨_, rfl⟩
  have hX6 : W6.heap[w5.heap.size]? = some (.cells L.toArray 35 (0, 0)) := by rw [hW6, setRow_heap _ _ _ _ _ _ hz5]
  have hB6 : Below w5.heap.size w5 W6 := by rw [hW6]; exact setRow_below ((Below.refl _ _).alloc (Nat.le_refl _) _) (Nat.le_refl _)
  have hB46 : Below W4.heap.size W4 W6 := hb5.trans (hB6.mono hb5.size)
  have hb16 : Below W1.heap.size W1 W6 := (unhide HB14).trans (hB46.mono (unhide HB14).size)
  have hs4 := unhide HS4
  have hY6 : W6.heap[w3.heap.size]? = some (.cells L.toArray 35 (0, 0)) := (hB46.block _ (by omega)).trans (unhide HX4)
  have HZ5 := hide hz5; have HB16 := hide hb16; have HRA := hide (range_of_row hY6); have HRB := hide (range_of_row hX6); have HY6 := hide hY6
  have HW6 := hide (hW6.trans rfl : W6 = (w5.alloc (.cells #[.int .i64 0, .int .i64 0, .int .i64 0, .int .i64 0, .string ⟨#[]⟩, .string ⟨#[]⟩, .string ⟨#[]⟩, .string ⟨#[]⟩, .string ⟨#[]⟩, .string ⟨#[]⟩, .int .i64 0, .int .i64 0, .int .i64 0, .bool false, .int .i64 0, .int .i64 0, .string ⟨#[]⟩] 35)).setRow w5.heap.size L.toArray)
  have hlt6 : w3.heap.size < W6.heap.size := by have := hB46.size; omega
  clear hb5 hz5 hW6 hX6 hB6 hB46 hb16 hs4 hY6
  go_upto_region 5 with (refine wpList_store_row rfl _ _ _ rfl w5.heap.size L.toArray rfl rfl 35 noteZ.toArray (unhide HZ5) (unhide HL17).info2 ((cells17 _ _ _ _).same (unhide HL17)) (unhide HL17).one ?_)
  rw [← unhide HW6]
  have hne := unhide HLS
  have hgd := fun x y w => guard_note .neq x y L.toArray L.toArray w
  by_cases h0 : we = 0
  · subst h0
    obtain ⟨hme, hwr⟩ := unhide HBK rfl
    subst hme
    go_upto_region 9 with (first
      | (refine wpList_load_midG (by rfl) _ _ rfl w3.heap.size 0 rfl L _ (unhide HRA) Tryd.underlying35 rfl (unhide HL17).info1 ?_)
      | (refine wpList_load_midG (by rfl) _ _ rfl w5.heap.size 0 rfl L _ (unhide HRB) Tryd.underlying35 rfl (unhide HL17).info1 ?_))
    go_wp2_with fail
    refine (unhide N5 W6 (unhide HEN W6 (unhide HB16)).1 (unhide HEN W6 (unhide HB16)).2).mono ?_
    rintro e w7 ⟨rfl, hb7⟩
    have hb17 : Below W1.heap.size W1 w7 := (unhide HB16).trans (hb7.mono (unhide HB16).size)
    have hY7 : w7.heap[w3.heap.size]? = some (.cells L.toArray 35 (0, 0)) := (hb7.block _ hlt6).trans (unhide HY6)
    obtain ⟨W8, hW8⟩ : ∃ W8, W8 = w7.setRow w3.heap.size M.toArray := ⟨_, rfl⟩
    have hX8 : W8.heap[w3.heap.size]? = some (.cells M.toArray 35 (0, 0)) := by rw [hW8, setRow_heap _ _ _ _ _ _ hY7]
    have hs1 := unhide HS1
    have hb18 : Below W1.heap.size W1 W8 := by rw [hW8]; exact setRow_below hb17 (by omega)
    have NW := hide (hwr W8 (unhide HEN W8 hb18).1 (unhide HEN W8 hb18).2)
    have HY7 := hide hY7; have HW8 := hide hW8; have HR8 := hide (range_of_row hX8); have HB18 := hide hb18
    clear hb7 hb17 hY7 hW8 hX8 hb18 hs1 hwr
    go_upto_region 10 with (refine wpList_store_row rfl _ _ _ rfl w3.heap.size M.toArray rfl rfl 35 L.toArray (unhide HY7) (unhide HM17).info2 ((unhide HL17).same (unhide HM17)) (unhide HM17).one ?_)
    rw [← unhide HW8]
    go_wp2_with (refine wpList_load_mid rfl _ _ rfl w3.heap.size 0 rfl M _ (unhide HR8) Tryd.underlying35 rfl (unhide HM17).info1 ?_)
    refine (unhide NW).mono ?_
    rintro e w9 ⟨rfl, hb9⟩
    have HB9 := hide hb9
    clear hb9
    go_wp2
    go_ret
    have h1 := (unhide HB1).trans ((unhide HB18).mono (unhide HB1).size)
    exact ⟨rfl, h1.trans ((unhide HB9).mono h1.size)⟩
  · have hpe : (we != 0) = true := by simpa using h0
    go_wp2_with (first
      | (refine wpList_load_midG (by rfl) _ _ rfl w3.heap.size 0 rfl L _ (unhide HRA) Tryd.underlying35 rfl (unhide HL17).info1 ?_)
      | (refine wpList_load_midG (by rfl) _ _ rfl w5.heap.size 0 rfl L _ (unhide HRB) Tryd.underlying35 rfl (unhide HL17).info1 ?_))
    go_ret
    exact ⟨rfl, (unhide HB1).trans ((unhide HB16).mono (unhide HB1).size)⟩
end Go.Proofs.YtkmmgeoialdmlaaDoor
