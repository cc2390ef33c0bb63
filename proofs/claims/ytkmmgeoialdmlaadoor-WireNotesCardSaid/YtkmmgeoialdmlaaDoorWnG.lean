/- The reference's Read: what is plain. -/
import Derived.Test.YtkmmgeoialdmlaaDoorWnF
namespace Go.Proofs.YtkmmgeoialdmlaaDoor
open Go.RowKit
set_option linter.unusedVariables false

theorem set_map17 (g : Nat → Value) (n : Nat) (v : Value) : (((List.range 17).map g).toArray.setIfInBounds n v) = ((List.range 17).map fun f => if f = n then v else g f).toArray := by
  apply Array.ext'
  simp only [Array.toList_setIfInBounds]
  apply List.ext_getElem?
  intro i
  rw [List.getElem?_set]
  by_cases hi : i < 17
  · rw [List.getElem?_map, List.getElem?_map, List.getElem?_range hi]
    by_cases hn : n = i
    · subst hn
      simp [hi]
    · simp [hn, Ne.symm hn]
  · have e1 : ((List.range 17).map g)[i]? = none := List.getElem?_eq_none (by simp; omega)
    have e2 : ((List.range 17).map fun f => if f = n then v else g f)[i]? = none := List.getElem?_eq_none (by simp; omega)
    have e3 : ¬ i < ((List.range 17).map g).length := by simp; omega
    rw [e2]
    by_cases hn : n = i
    · subst hn
      rw [if_pos rfl, if_neg (by simpa using e3)]
    · rw [if_neg hn]; exact e1
theorem get_map17 (g : Nat → Value) (n : Nat) (h : n < 17) : ((List.range 17).map g)[n]? = some (g n) := by
  rw [List.getElem?_map, List.getElem?_range h]; rfl
def numRow (raw : Nat → Option ByteArray) : List Value := (List.range 17).map fun f => Value.int .i64 (rnum (raw f))
def numRowU (raw : Nat → Option ByteArray) (n : Nat) (v : Int) : List Value := (List.range 17).map fun f => if f = n then Value.int .i64 v else Value.int .i64 (rnum (raw f))
def txtRow (raw : Nat → Option ByteArray) : List Value := (List.range 17).map fun f => Value.string (ptxt (raw f))
theorem numRowU_first (raw : Nat → Option ByteArray) (n : Nat) (h : raw n = none) : numRow raw = numRowU raw n 0 := by
  unfold numRow numRowU
  apply List.map_congr_left
  intro f _
  by_cases hf : f = n
  · subst hf; rw [if_pos rfl, h]; rfl
  · rw [if_neg hf]
theorem numRowU_last (ps : List Prt) (n : Nat) (t : ByteArray) : numRowU (rawP ps) n (rvalL (t.data.toList.take 12) : Nat) = numRow (rawP (ps ++ [((n : Int), t)])) := by
  unfold numRow numRowU
  rw [rawP_snoc]
  apply List.map_congr_left
  intro f _
  simp only [Int.toNat_natCast]
  by_cases hf : f = n
  · rw [if_pos hf, if_pos hf]; rfl
  · rw [if_neg hf, if_neg hf]
theorem txtRow_next (ps : List Prt) (n : Nat) (t : ByteArray) : ((txtRow (rawP ps)).toArray.setIfInBounds n (.string t)) = (txtRow (rawP (ps ++ [((n : Int), t)]))).toArray := by
  unfold txtRow
  rw [set_map17, rawP_snoc]
  congr 1
  apply List.map_congr_left
  intro f _
  simp only [Int.toNat_natCast]
  by_cases hf : f = n
  · rw [if_pos hf, if_pos hf]; rfl
  · rw [if_neg hf, if_neg hf]
theorem numRowU_set (raw : Nat → Option ByteArray) (n : Nat) (a b : Int) : ((numRowU raw n a).toArray.setIfInBounds n (.int .i64 b)) = (numRowU raw n b).toArray := by
  unfold numRowU
  rw [set_map17]
  congr 1
  apply List.map_congr_left
  intro f _
  by_cases hf : f = n
  · rw [if_pos hf, if_pos hf]
  · rw [if_neg hf, if_neg hf, if_neg hf]
theorem rval_next (l : List UInt8) (i : Nat) (b : UInt8) (h : l[i]? = some b) : rvalL (l.take (i + 1)) = 10 * rvalL (l.take i) + (b.toNat + 208) % 256 := by
  rw [List.take_add_one, h]
  unfold rvalL
  rw [Option.toList_some, List.foldl_append]; rfl
theorem rval_le (l : List UInt8) : rvalL l + 29 ≤ 29 * 10 ^ l.length := by
  have : ∀ (l : List UInt8) (a : Nat), l.foldl (fun a b => 10 * a + (b.toNat + 208) % 256) a + 29 ≤ (a + 29) * 10 ^ l.length := by
    intro l
    induction l with
    | nil => intro a; simp
    | cons b r ih =>
      intro a
      rw [List.foldl_cons, List.length_cons, Nat.pow_succ]
      refine Nat.le_trans (ih _) ?_
      rw [Nat.mul_comm (10 ^ r.length) 10, ← Nat.mul_assoc]
      exact Nat.mul_le_mul_right _ (by omega)
  simpa [rvalL] using this l 0
theorem rnum_b (o : Option ByteArray) : 0 ≤ rnum o ∧ rnum o ≤ 29000000000000 := by
  cases o with
  | none => exact ⟨Int.le_refl 0, by show (0 : Int) ≤ _; omega⟩
  | some t =>
    have h1 := rval_le (t.data.toList.take 12)
    have h2 : (t.data.toList.take 12).length ≤ 12 := by rw [List.length_take]; omega
    have h3 : 10 ^ (t.data.toList.take 12).length ≤ 10 ^ 12 := Nat.pow_le_pow_right (by decide) h2
    have h4 : (10 : Nat) ^ 12 = 1000000000000 := by decide
    show 0 ≤ ((rvalL (t.data.toList.take 12) : Nat) : Int) ∧ ((rvalL (t.data.toList.take 12) : Nat) : Int) ≤ 29000000000000
    omega
theorem rdR_ok (k : Int) (ps : List Prt) (hg : goodP 0 ps = true) : NtOk (nrm (ntR k ps)) := by
  refine ⟨fun f => ?_, fun f => ?_⟩
  · simp only [nrm]
    by_cases h3 : f = 3
    · rw [if_pos h3]; exact cashN_b _
    · rw [if_neg h3]
      have := rnum_b (rawP ps f)
      show -9223372036854775808 ≤ rnum (rawP ps f) ∧ rnum (rawP ps f) ≤ 9223372036854775807
      omega
  · have := rawP_size ps hg f
    show (ptxt (rawP ps f)).size ≤ _
    omega
theorem good_le {last : Int} {ps : List Prt} (h : goodP last ps = true) : ∀ p ∈ ps, p.1 ≤ lastOf last ps := by
  induction ps generalizing last with
  | nil => intro p hp; cases hp
  | cons x r ih =>
    obtain ⟨g1, g2, g3, g4⟩ := good_cons h
    intro p hp
    simp only [lastOf]
    rcases List.mem_cons.1 hp with rfl | hp
    · exact last_ge g4
    · exact ih g4 p hp
theorem raw_none (ps : List Prt) (n : Nat) (h : ∀ p ∈ ps, p.1.toNat ≠ n) : rawP ps n = none := by
  have : ∀ (ps : List Prt) (st : Nat → Option ByteArray), (∀ p ∈ ps, p.1.toNat ≠ n) → (ps.foldl (fun st p i => if i = p.1.toNat then some p.2 else st i) st) n = st n := by
    intro ps
    induction ps with
    | nil => intro st _; rfl
    | cons x r ih =>
      intro st h
      rw [List.foldl_cons, ih _ (fun p hp => h p (List.mem_cons_of_mem _ hp)), if_neg (fun e => h x List.mem_cons_self e.symm)]
  exact this ps _ h
/-- a field that comes next was not there -/
theorem raw_next (l : List Prt) (hg : goodP 0 l = true) (q : Nat) (p : Prt) (hp : l[q]? = some p) : rawP (l.take q) p.1.toNat = none := by
  have hlt : q < l.length := by
    rcases Nat.lt_or_ge q l.length with h | h
    · exact h
    · rw [List.getElem?_eq_none h] at hp; cases hp
  have hd : l.drop q = p :: l.drop (q + 1) := by
    rw [List.drop_eq_getElem_cons hlt]
    rw [List.getElem?_eq_getElem hlt] at hp
    rw [Option.some.inj hp]
  have hs := hg
  rw [← List.take_append_drop q l, goodP_app, hd, Bool.and_eq_true] at hs
  obtain ⟨h1, h2⟩ := hs
  have h3 := (good_cons h2).1
  refine raw_none _ _ fun r hr he => ?_
  have h4 := good_le h1 r hr
  have h5 := (good_mem h1 (Int.le_refl 0) r hr).2.2.1
  omega
def noteRL (k : Int) (raw : Nat → Option ByteArray) : List Value := noteC k (fun f => rnum (raw f)) (fun f => ptxt (raw f)) (decide (rnum (raw 3) = 1))
theorem noteRL_as (k : Int) (ps : List Prt) : noteV (nrm (ntR k ps)) = .agg (noteRL k (rawP ps)).toArray := by
  unfold noteV noteRL
  have e : decide ((nrm (ntR k ps)).num 3 = 1) = decide (rnum (rawP ps 3) = 1) := cash_dec _
  rw [e]
  rfl
def rdRV (s : ByteArray) : Value := if rdRB s then noteV (rdR s) else .agg noteZ.toArray
theorem rdRV_same (s : ByteArray) : rdRV s = rdV s ∧ (if rdRB s then 0 else 1 : Int) = rdE s := by
  obtain ⟨h1, h2⟩ := rd_same s
  unfold rdRV rdV rdE
  rw [← h1]
  refine ⟨?_, rfl⟩
  cases hb : rdB s with
  | false => rfl
  | true => exact (h2 hb).symm
theorem set_rowN {w : World} {b : Nat} {n : Nat} {l : List Value} {t : TypeId} (h : w.heap[b]? = some (.cells l.toArray t (0, 0))) (v : Value) : (w.setCell ⟨b, n, none⟩ v).heap[b]? = some (.cells (l.set n v).toArray t (0, 0)) := by
  rw [setCell_eq_setRow w b n _ _ _ _ h, setRow_heap w b _ _ _ _ h, List.setIfInBounds_toArray]
theorem set_row {w : World} {b n : Nat} {cs : Array Value} {t : TypeId} (h : w.heap[b]? = some (.cells cs t (0, 0))) (v : Value) : (w.setCell ⟨b, n, none⟩ v).heap[b]? = some (.cells (cs.setIfInBounds n v) t (0, 0)) := by
  rw [setCell_eq_setRow w b n _ _ _ _ h, setRow_heap w b _ _ _ _ h]
theorem drew_row {w : World} {b : Nat} {o : Obj} (h : w.heap[b]? = some o) : w.drew.heap[b]? = some o := h
theorem deal_stored {wc : World} {nt : Nat} {T : TypeId} {v0 v1 v2 v3 v4 v5 v6 v7 v8 v9 z0 z1 z2 z3 z4 z5 z6 a b c d e f g : Value} (h : wc.heap[nt]? = some (.cells #[v0, v1, v2, v3, v4, v5, v6, v7, v8, v9, z0, z1, z2, z3, z4, z5, z6] T (0, 0))) :
    (((((((wc.setCell ⟨nt, 10, none⟩ a).setCell ⟨nt, 11, none⟩ b).setCell ⟨nt, 12, none⟩ c).setCell ⟨nt, 13, none⟩ d).setCell ⟨nt, 14, none⟩ e).setCell ⟨nt, 15, none⟩ f).setCell ⟨nt, 16, none⟩ g).drew.heap[nt]? = some (.cells [v0, v1, v2, v3, v4, v5, v6, v7, v8, v9, a, b, c, d, e, f, g].toArray T (0, 0)) :=
  drew_row (set_rowN (n := 16) (set_rowN (n := 15) (set_rowN (n := 14) (set_rowN (n := 13) (set_rowN (n := 12) (set_rowN (n := 11) (set_rowN (n := 10) (l := [v0, v1, v2, v3, v4, v5, v6, v7, v8, v9, z0, z1, z2, z3, z4, z5, z6]) h a) b) c) d) e) f) g)
theorem deal_below {wr wc : World} {nt B : Nat} {a b c d e f g : Value} (h : Below B wr wc) (hn : B ≤ nt) : Below B wr (((((((wc.setCell ⟨nt, 10, none⟩ a).setCell ⟨nt, 11, none⟩ b).setCell ⟨nt, 12, none⟩ c).setCell ⟨nt, 13, none⟩ d).setCell ⟨nt, 14, none⟩ e).setCell ⟨nt, 15, none⟩ f).setCell ⟨nt, 16, none⟩ g).drew :=
  (((((((h.setCell (p := ⟨nt, 10, none⟩) hn a).setCell (p := ⟨nt, 11, none⟩) hn b).setCell (p := ⟨nt, 12, none⟩) hn c).setCell (p := ⟨nt, 13, none⟩) hn d).setCell (p := ⟨nt, 14, none⟩) hn e).setCell (p := ⟨nt, 15, none⟩) hn f).setCell (p := ⟨nt, 16, none⟩) hn g).drew
end Go.Proofs.YtkmmgeoialdmlaaDoor
