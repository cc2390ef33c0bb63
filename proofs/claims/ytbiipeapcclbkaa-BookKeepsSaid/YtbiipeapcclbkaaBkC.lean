/- A book's Put and Done, whole: the program's and the document's. -/
import Derived.Test.YtbiipeapcclbkaaBkO
import Derived.Test.YtbiipeapcclbkaaBkB
import Derived.Test.YtbiipeapcclbkaaBkY
import Derived.Test.YtbiipeapcclbkaaBkD5
import Derived.Test.YtbiipeapcclbkaaBkD6
namespace Go.Proofs.Ytbiipeapcclbkaa
open Go.RowKit Go.Shelf
set_option linter.unusedVariables false
set_option linter.unusedSimpArgs false
set_option maxRecDepth 100000

/-- what Put answers -/
def putE (C : Nat) (L : List En) (k : Int) (t : ByteArray) : Int := if wiB k 1 250 = false then 3 else if 20000 < t.size then 2 else if posL L + wid ⟨k, 0, t⟩ < C then 0 else 8
def putN (C : Nat) (L : List En) (k : Int) (t : ByteArray) : Int := if putE C L k t = 0 then (L.length : Int) + 1 else 0
def putL (C : Nat) (L : List En) (k : Int) (t : ByteArray) : List En := if putE C L k t = 0 then L ++ [⟨k, 0, t⟩] else L
open Classical in
/-- what Done answers -/
noncomputable def doneE (L : List En) (n k : Int) : Int := if wiB n 1 (L.length : Int) = false then 5 else if wiB k 1 250 = false then 3 else if ((L[(n - 1).toNat]?).map (·.how)) = some 0 then 0 else 6
open Classical in
noncomputable def doneL (L : List En) (n k : Int) : List En := if doneE L n k = 0 then (match L[(n - 1).toNat]? with | some e => L.set (n - 1).toNat ⟨e.what, k, e.text⟩ | none => L) else L
theorem putE_12 (C : Nat) (L : List En) (k : Int) (t : ByteArray) : putE C L k t ≠ 12 := by
  unfold putE
  split
  · decide
  · split
    · decide
    · split <;> decide
theorem doneE_12 (L : List En) (n k : Int) : doneE L n k ≠ 12 := by
  unfold doneE
  split
  · decide
  · split
    · decide
    · split <;> decide
/-- the answer of a call of the program, and its book behind it -/
structure StepB (w w' : World) (B bb mb : Nat) (v pl : Value) (M : Mm) (L L2 : List En) (er er2 : Int) (M' : Mm) (pl' : Value) (L' : List En) : Prop where
  book : BookAt w' B bb mb v M' pl' L'
  laid : Laid M'.C L'
  len : M'.C.length = M.C.length
  chg : Chg (bkF bb mb v pl) w w'
  own : pl'.ownBlock = pl.ownBlock ∨ ∃ x, pl'.ownBlock = some x ∧ w.heap.size ≤ x
  dead : M.off = true → er = 12
  offs : er = 12 → M'.off = true ∧ L' = L
  on : er ≠ 12 → M'.off = false ∧ L' = L2 ∧ er = er2
section
variable {w w' : World} {B bb mb : Nat} {v pl rv : Value} {M : Mm} {L : List En}
theorem StepB.same {er er2 : Int} {L2 : List En} (h : BookAt w B bb mb v M pl L) (hl : Laid M.C L) (hc : Below w.heap.size w w') (h1 : M.off = false) (h2 : L2 = L) (h3 : er = er2) (h4 : er ≠ 12) : StepB w w' B bb mb v pl M L L2 er er2 M pl L :=
  ⟨h.below hc, hl, rfl, Chg.of_below _ hc, .inl rfl, fun h => absurd (h.symm.trans h1) (by decide), fun h => absurd h h4, fun _ => ⟨h1, h2.symm, h3⟩⟩
theorem bput_any (h : BookAt w B bb mb v M pl L) (hl : Laid M.C L) (hB : B ≤ w.heap.size) (k : Int) (t : ByteArray) :
    Calls Try.prog 11 #[.pointer (some ⟨bb, 0, none⟩), .int .i64 k, .string t] w fun r w' =>
      ∃ n er M' pl' L', r = .returned (.tuple #[.int .i64 n, .int .i64 er]) ∧ StepB w w' B bb mb v pl M L (putL M.C.length L k t) er (putE M.C.length L k t) M' pl' L' ∧ (er = 12 → n = 0) ∧ (er ≠ 12 → n = putN M.C.length L k t) := by
  cases ho : M.off with
  | true =>
    refine (put_off h k t ho).mono ?_
    rintro r w' ⟨rfl, hb⟩
    exact ⟨0, 12, M, pl, L, rfl, ⟨h.below hb, hl, rfl, Chg.of_below _ hb, .inl rfl, fun _ => rfl, fun _ => ⟨ho, rfl⟩, fun h => absurd rfl h⟩, fun _ => rfl, fun h => absurd rfl h⟩
  | false =>
    cases hk : wiB k 1 250 with
    | false =>
      have hE : putE M.C.length L k t = 3 := by unfold putE; rw [if_pos hk]
      refine (put_range h k t ho hk).mono ?_
      rintro r w' ⟨rfl, hb⟩
      exact ⟨0, 3, M, pl, L, rfl, StepB.same h hl hb ho (by unfold putL; rw [hE]; rfl) hE.symm (by decide), fun h => absurd h (by decide), fun _ => by unfold putN; rw [hE]; rfl⟩
    | true =>
      have hkn : ¬ wiB k 1 250 = false := by rw [hk]; decide
      by_cases ht : 20000 < t.size
      · have hE : putE M.C.length L k t = 2 := by unfold putE; rw [if_neg hkn, if_pos ht]
        refine (put_long h k t ho hk ht).mono ?_
        rintro r w' ⟨rfl, hb⟩
        exact ⟨0, 2, M, pl, L, rfl, StepB.same h hl hb ho (by unfold putL; rw [hE]; rfl) hE.symm (by decide), fun h => absurd h (by decide), fun _ => by unfold putN; rw [hE]; rfl⟩
      · by_cases hf : posL L + wid ⟨k, 0, t⟩ < M.C.length
        · have hE : putE M.C.length L k t = 0 := by unfold putE; rw [if_neg hkn, if_neg ht, if_pos hf]
          have hkk : 1 ≤ k ∧ k ≤ 250 := of_decide_eq_true hk
          have hok : okEn ⟨k, 0, t⟩ := ⟨hkk.1, hkk.2, by show (0 : Int) ≤ 0; omega, by show (0 : Int) ≤ 250; omega, by show t.size ≤ 20000; omega⟩
          obtain ⟨l1, l2⟩ := putM_laid hl hok hf
          refine (put_yes h k t ho hk (by omega) hf hl.sz hB).mono ?_
          rintro r w' ⟨q1, q2, q3⟩
          cases hoff : (putM M (posL L) ⟨k, 0, t⟩).off with
          | true =>
            obtain ⟨rfl, q4⟩ := q1 hoff
            exact ⟨0, 12, _, pl, L, rfl, ⟨q4, l2 hoff, putM_len _ _ _, q3, .inl rfl, fun _ => rfl, fun _ => ⟨hoff, rfl⟩, fun h => absurd rfl h⟩, fun _ => rfl, fun h => absurd rfl h⟩
          | false =>
            obtain ⟨rfl, pl', q4, q5⟩ := q2 hoff
            refine ⟨((L.length + 1 : Nat) : Int), 0, _, pl', _, rfl, ⟨q4, l1 hoff, putM_len _ _ _, q3, q5, fun h => absurd (h.symm.trans ho) (by decide), fun h => absurd h (by decide), fun _ => ⟨hoff, by unfold putL; rw [if_pos hE], hE.symm⟩⟩, fun h => absurd h (by decide), fun _ => ?_⟩
            unfold putN; rw [if_pos hE]; omega
        · have hE : putE M.C.length L k t = 8 := by unfold putE; rw [if_neg hkn, if_neg ht, if_neg hf]
          refine (put_full h k t ho hk (by omega) hf).mono ?_
          rintro r w' ⟨rfl, hb⟩
          exact ⟨0, 8, M, pl, L, rfl, StepB.same h hl hb ho (by unfold putL; rw [hE]; rfl) hE.symm (by decide), fun h => absurd h (by decide), fun _ => by unfold putN; rw [hE]; rfl⟩
/-- the document's entries in memory -/
structure REn (w : World) (B : Nat) (rv : Value) (L : List En) : Prop where
  row : OwnR w B 60 4 cellsE rv (plsL L)
  nil : L = [] → rv = .slice none 0 0
theorem REn.below (h : REn w B rv L) (hb : Below w.heap.size w w') : REn w' B rv L := ⟨h.row.below hb, h.nil⟩
theorem rput_any (h : REn w B rv L) (hB : B ≤ w.heap.size) (hpos : posL L ≤ 100000) (C : Nat) (hC : C ≤ 100000) (k : Int) (t : ByteArray) :
    Calls Try.prog 12 #[.agg #[.int .i64 (C : Int), rv], .int .i64 k, .string t] w fun r w' =>
      (∃ rv', r = .returned (.tuple #[.agg #[.int .i64 (C : Int), rv'], .int .i64 (putN C L k t), .int .i64 (putE C L k t)]) ∧ REn w' B rv' (putL C L k t) ∧ (rv'.ownBlock = rv.ownBlock ∨ ∀ x, rv'.ownBlock = some x → w.heap.size ≤ x)) ∧ Below w.heap.size w w' := by
  cases hk : wiB k 1 250 with
  | false =>
    have hE : putE C L k t = 3 := by unfold putE; rw [if_pos hk]
    refine (rput_range h.row (C : Int) k t hk).mono ?_
    rintro r w' ⟨rfl, hb⟩
    have h1 : putN C L k t = 0 := by unfold putN; rw [hE]; rfl
    have h2 : putL C L k t = L := by unfold putL; rw [hE]; rfl
    rw [h1, h2, hE]
    exact ⟨⟨rv, rfl, h.below hb, .inl rfl⟩, hb⟩
  | true =>
    have hkn : ¬ wiB k 1 250 = false := by rw [hk]; decide
    by_cases ht : 20000 < t.size
    · have hE : putE C L k t = 2 := by unfold putE; rw [if_neg hkn, if_pos ht]
      refine (rput_long h.row (C : Int) k t hk ht).mono ?_
      rintro r w' ⟨rfl, hb⟩
      have h1 : putN C L k t = 0 := by unfold putN; rw [hE]; rfl
      have h2 : putL C L k t = L := by unfold putL; rw [hE]; rfl
      rw [h1, h2, hE]
      exact ⟨⟨rv, rfl, h.below hb, .inl rfl⟩, hb⟩
    · have hgo : Calls Try.prog 12 #[.agg #[.int .i64 (C : Int), rv], .int .i64 k, .string t] w fun r w' =>
          (¬ posL L + wid ⟨k, 0, t⟩ < C → r = .returned (.tuple #[.agg #[.int .i64 (C : Int), rv], .int .i64 0, .int .i64 8])) ∧
          (posL L + wid ⟨k, 0, t⟩ < C → ∃ rv', r = .returned (.tuple #[.agg #[.int .i64 (C : Int), rv'], .int .i64 ((L.length : Int) + 1), .int .i64 0]) ∧ OwnR w' w.heap.size 60 4 cellsE rv' (plsL (L ++ [⟨k, 0, t⟩]))) ∧ Below w.heap.size w w' := by
        by_cases hL : L = []
        · exact rput_nil hL h.row h.nil hpos C hC k t hk (by omega)
        · exact rput_cons hL h.row h.nil hpos C hC k t hk (by omega)
      refine hgo.mono ?_
      rintro r w' ⟨q1, q2, hb⟩
      by_cases hf : posL L + wid ⟨k, 0, t⟩ < C
      · have hE : putE C L k t = 0 := by unfold putE; rw [if_neg hkn, if_neg ht, if_pos hf]
        obtain ⟨rv', rfl, ho⟩ := q2 hf
        have h1 : putN C L k t = (L.length : Int) + 1 := by unfold putN; rw [if_pos hE]
        have h2 : putL C L k t = L ++ [⟨k, 0, t⟩] := by unfold putL; rw [if_pos hE]
        rw [h1, h2, hE]
        exact ⟨⟨rv', rfl, ⟨ho.mono hB, fun h => by simp at h⟩, .inr (fun x hx => (ho.lt x hx).1)⟩, hb⟩
      · have hE : putE C L k t = 8 := by unfold putE; rw [if_neg hkn, if_neg ht, if_neg hf]
        have := q1 hf
        subst this
        have h1 : putN C L k t = 0 := by unfold putN; rw [hE]; rfl
        have h2 : putL C L k t = L := by unfold putL; rw [hE]; rfl
        rw [h1, h2, hE]
        exact ⟨⟨rv, rfl, h.below hb, .inl rfl⟩, hb⟩
/-- where Done finds its entry -/
theorem done_at {n : Int} (hn : wiB n 1 (L.length : Int) = true) : ∃ (i : Nat) (e : En), n = (i : Int) + 1 ∧ (n - 1).toNat = i ∧ L[i]? = some e := by
  have h1 : 1 ≤ n ∧ n ≤ (L.length : Int) := of_decide_eq_true hn
  refine ⟨(n - 1).toNat, _, by omega, rfl, List.getElem?_eq_getElem (by omega)⟩
theorem bdone_any (h : BookAt w B bb mb v M pl L) (hl : Laid M.C L) (n k : Int) :
    Calls Try.prog 13 #[.pointer (some ⟨bb, 0, none⟩), .int .i64 n, .int .i64 k] w fun r w' =>
      ∃ er M' pl' L', r = .returned (.int .i64 er) ∧ StepB w w' B bb mb v pl M L (doneL L n k) er (doneE L n k) M' pl' L' := by
  cases ho : M.off with
  | true =>
    refine (done_off h n k ho).mono ?_
    rintro r w' ⟨rfl, rfl⟩
    exact ⟨12, M, pl, L, rfl, ⟨h, hl, rfl, Chg.refl _ _, .inl rfl, fun _ => rfl, fun _ => ⟨ho, rfl⟩, fun h => absurd rfl h⟩⟩
  | false =>
    cases hn : wiB n 1 (L.length : Int) with
    | false =>
      have hE : doneE L n k = 5 := by unfold doneE; rw [if_pos hn]
      refine (done_none h n k ho hn).mono ?_
      rintro r w' ⟨rfl, rfl⟩
      exact ⟨5, M, pl, L, rfl, StepB.same h hl (Below.refl _ _) ho (by unfold doneL; rw [hE]; rfl) hE.symm (by decide)⟩
    | true =>
      have hnn : ¬ wiB n 1 (L.length : Int) = false := by rw [hn]; decide
      cases hk : wiB k 1 250 with
      | false =>
        have hE : doneE L n k = 3 := by unfold doneE; rw [if_neg hnn, if_pos hk]
        refine (done_range h n k ho hn hk).mono ?_
        rintro r w' ⟨rfl, rfl⟩
        exact ⟨3, M, pl, L, rfl, StepB.same h hl (Below.refl _ _) ho (by unfold doneL; rw [hE]; rfl) hE.symm (by decide)⟩
      | true =>
        have hkn : ¬ wiB k 1 250 = false := by rw [hk]; decide
        obtain ⟨i, e, rfl, hti, he⟩ := done_at hn
        by_cases hh : e.how = 0
        · have hE : doneE L ((i : Int) + 1) k = 0 := by unfold doneE; rw [if_neg hnn, if_neg hkn, hti, he, if_pos (by show some e.how = some 0; rw [hh])]
          have hDL : doneL L ((i : Int) + 1) k = L.set i ⟨e.what, k, e.text⟩ := by unfold doneL; rw [if_pos hE, hti, he]
          have hoke := hl.ok e (List.mem_of_getElem? he)
          have hkk : 1 ≤ k ∧ k ≤ 250 := of_decide_eq_true hk
          have hok : okEn ⟨e.what, k, e.text⟩ := ⟨hoke.1, hoke.2.1, by show (0 : Int) ≤ k; omega, hkk.2, hoke.2.2.2.2⟩
          obtain ⟨l1, l2⟩ := doneM_laid (e' := ⟨e.what, k, e.text⟩) hl he rfl hok ho
          refine (done_yes h i e he k ho hk hh (by have := hl.lt; have := posL_take L i; omega)).mono ?_
          rintro r w' ⟨q1, q2, q3⟩
          cases hoff : (wrM M (posL (L.take i)) (headB ⟨e.what, k, e.text⟩)).off with
          | true =>
            obtain ⟨rfl, q4⟩ := q1 hoff
            exact ⟨12, _, pl, L, rfl, ⟨q4, l2 hoff, wrM_len _ _ _, q3, .inl rfl, fun _ => rfl, fun _ => ⟨hoff, rfl⟩, fun h => absurd rfl h⟩⟩
          | false =>
            obtain ⟨rfl, q4⟩ := q2 hoff
            exact ⟨0, _, pl, _, rfl, ⟨q4, l1 hoff, wrM_len _ _ _, q3, .inl rfl, fun h => absurd (h.symm.trans ho) (by decide), fun h => absurd h (by decide), fun _ => ⟨hoff, hDL.symm, hE.symm⟩⟩⟩
        · have hE : doneE L ((i : Int) + 1) k = 6 := by unfold doneE; rw [if_neg hnn, if_neg hkn, hti, he, if_neg (by intro h; exact hh (Option.some.inj h))]
          refine (done_twice h i e he k ho hk hh).mono ?_
          rintro r w' ⟨rfl, hb⟩
          exact ⟨6, M, pl, L, rfl, StepB.same h hl hb ho (by unfold doneL; rw [hE]; rfl) hE.symm (by decide)⟩
theorem rdone_any (h : REn w B rv L) (hB : B ≤ w.heap.size) (hlen : L.length ≤ 100000) (hok : ∀ e ∈ L, okEn e) (C n k : Int) :
    Calls Try.prog 14 #[.agg #[.int .i64 C, rv], .int .i64 n, .int .i64 k] w fun r w' =>
      (∃ rv', r = .returned (.tuple #[.agg #[.int .i64 C, rv'], .int .i64 (doneE L n k)]) ∧ REn w' B rv' (doneL L n k) ∧ (rv'.ownBlock = rv.ownBlock ∨ ∀ x, rv'.ownBlock = some x → w.heap.size ≤ x)) ∧ Below w.heap.size w w' := by
  cases hn : wiB n 1 (L.length : Int) with
  | false =>
    have hE : doneE L n k = 5 := by unfold doneE; rw [if_pos hn]
    refine (rdone_none h.row hlen C n k hn).mono ?_
    rintro r w' ⟨rfl, hb⟩
    have h2 : doneL L n k = L := by unfold doneL; rw [hE]; rfl
    rw [h2, hE]
    exact ⟨⟨rv, rfl, h.below hb, .inl rfl⟩, hb⟩
  | true =>
    have hnn : ¬ wiB n 1 (L.length : Int) = false := by rw [hn]; decide
    cases hk : wiB k 1 250 with
    | false =>
      have hE : doneE L n k = 3 := by unfold doneE; rw [if_neg hnn, if_pos hk]
      refine (rdone_range h.row hlen C n k hn hk).mono ?_
      rintro r w' ⟨rfl, hb⟩
      have h2 : doneL L n k = L := by unfold doneL; rw [hE]; rfl
      rw [h2, hE]
      exact ⟨⟨rv, rfl, h.below hb, .inl rfl⟩, hb⟩
    | true =>
      have hkn : ¬ wiB k 1 250 = false := by rw [hk]; decide
      obtain ⟨i, e, rfl, hti, he⟩ := done_at hn
      have hoke := hok e (List.mem_of_getElem? he)
      by_cases hh : e.how = 0
      · have hE : doneE L ((i : Int) + 1) k = 0 := by unfold doneE; rw [if_neg hnn, if_neg hkn, hti, he, if_pos (by show some e.how = some 0; rw [hh])]
        have hDL : doneL L ((i : Int) + 1) k = L.set i ⟨e.what, k, e.text⟩ := by unfold doneL; rw [if_pos hE, hti, he]
        refine (rdone_yes h.row hlen C k i e he hk hh).mono ?_
        rintro r w' ⟨⟨rv', rfl, ho⟩, hb⟩
        rw [hDL, hE]
        refine ⟨⟨rv', rfl, ⟨ho.mono hB, fun h => ?_⟩, .inr (fun x hx => (ho.lt x hx).1)⟩, hb⟩
        have := congrArg List.length h
        rw [List.length_set] at this
        have hi := (List.getElem?_eq_some_iff.1 he).1
        simp at this
        rw [this] at hi
        simp at hi
      · have hE : doneE L ((i : Int) + 1) k = 6 := by unfold doneE; rw [if_neg hnn, if_neg hkn, hti, he, if_neg (by intro h; exact hh (Option.some.inj h))]
        have hpos : 0 < e.how := by have := hoke.2.2.1; omega
        refine (rdone_twice h.row hlen C k i e he hk hpos).mono ?_
        rintro r w' ⟨rfl, hb⟩
        have h2 : doneL L ((i : Int) + 1) k = L := by unfold doneL; rw [hE]; rfl
        rw [h2, hE]
        exact ⟨⟨rv, rfl, h.below hb, .inl rfl⟩, hb⟩
end
end Go.Proofs.Ytbiipeapcclbkaa
