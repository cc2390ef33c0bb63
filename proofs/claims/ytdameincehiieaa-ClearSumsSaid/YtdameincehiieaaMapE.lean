/- owed[who] += n: the entry is laid, then its value. -/
import Derived.Test.YtdameincehiieaaMapQ
import Derived.WideKeyEntry
namespace Go.Proofs.Ytdameincehiieaa
open Go.RowKit Go.WideMaps Go.Maps
set_option linter.unusedVariables false
set_option linter.unusedSimpArgs false
set_option maxRecDepth 100000

theorem blkLtE {w : World} {g : Nat} {o : Obj} (h : w.heap[g]? = some o) : g < w.heap.size := by
  rcases Nat.lt_or_ge g w.heap.size with h' | h'
  · exact h'
  · rw [Array.getElem?_eq_none h'] at h; cases h
theorem setAt (w : World) (m : Nat) (o : Obj) (h : m < w.heap.size) : (ChangeMaps.setBlock w m o).heap[m]? = some o := by
  show (w.heap.setIfInBounds m o)[m]? = some o
  rw [Array.getElem?_setIfInBounds_self_of_lt h]
theorem lawPairK : KeyLaw Try.prog 89 := deep_law_laid laidOutQ (m := 2) (by omega) (of_decide_eq_true (by kernel_rfl)) (by kernel_rfl) (by kernel_rfl)
theorem PMap.entry {w : World} {m n : Nat} {f : Int → Int → Int} (h : PMap w m n f) (hn : n < maxLen) (a b : Int) (ha : InR a) (hb : InR b) :
    ∃ (v0 : Value) (st : Nat) (o1 : Obj), (Instr.mapEntry 65 (.map (some m)) (twoV a b)).run Try.prog w = .ok (.tuple #[v0, goInt st]) (ChangeMaps.setBlock w m o1) ∧
      ∀ (w2 : World) (z : Int), InR z → z ≠ 0 → w2.heap[m]? = some o1 → ∃ o2 : Obj, (Instr.entryStore 65 (.map (some m)) (goInt st) (.int .i64 z)).run Try.prog w2 = .ok () (ChangeMaps.setBlock w2 m o2) ∧ PMap (ChangeMaps.setBlock w2 m o2) m (n + 1) (upd2 f a b z) := by
  obtain ⟨D, ho, hD, hKD⟩ := h
  have ho' := ho
  obtain ⟨es, clock, hh, F, hsz, hDe⟩ := ho'
  obtain ⟨l, hkey⟩ := keyPair a b ha hb
  obtain ⟨v0, st, es1, clock1, hrun, _, hst⟩ := WideElems.entry_then_store lawPairK Try.underlying65 (z := .int .i64 0) (fun u => zeroIM u) hh F hkey
  refine ⟨v0, st, _, hrun, fun w2 z hz hz0 hw2 => ?_⟩
  obtain ⟨es', clock', hr1, hr2⟩ := hst w2 (.int .i64 z) hw2
  obtain ⟨w', hrun', h1, _⟩ := ho.update lawPair Try.underlying65 hn hkey (plainElem_int Try.underlying3 (wf_i64 z hz.1 hz.2))
  have e : w' = ChangeMaps.setBlock w m (.map es' clock') := by
    rw [hr2] at hrun'
    injection hrun' with _ e
    exact e.symm
  subst e
  obtain ⟨es2, clock2, hh2, F2, hsz2, hD2⟩ := h1
  have hlt : m < w.heap.size := blkLtE hh
  have hlt2 : m < w2.heap.size := blkLtE hw2
  have e1 : (ChangeMaps.setBlock w m (.map es' clock')).heap[m]? = some (.map es' clock') := setAt w m _ hlt
  rw [e1] at hh2
  refine ⟨_, hr1, _, ⟨es2, clock2, (setAt w2 m _ hlt2).trans hh2, F2, hsz2, rfl⟩, ?_, ?_⟩
  · rw [← hD2]; exact readsP_put ho hD hkey
  · rw [← hD2]; exact keysP_put hKD ha hb hz0 hkey
/-- the entry alone turns no reading -/
theorem PMap.entered {w W1 : World} {m n : Nat} {f : Int → Int → Int} {v : Value} (h : PMap w m n f) (hn : n < maxLen) (a b : Int) (ha : InR a) (hb : InR b)
    (hrun : (Instr.mapEntry 65 (.map (some m)) (twoV a b)).run Try.prog w = .ok v W1) : PMapW W1 m (n + 1) f := by
  have hlook := h.look a b ha hb
  have h' := h
  obtain ⟨D, ho, hD, hKD⟩ := h
  have ho' := ho
  obtain ⟨es, clock, hh, F, hsz, hDe⟩ := ho'
  obtain ⟨l, hkey⟩ := keyPair a b ha hb
  rcases lawPairK.find w hkey es.toList F.keys with ⟨g1, g2⟩ | ⟨j, e0, g1, g2, g3⟩
  · have r0 : (Instr.mapEntry 65 (.map (some m)) (twoV a b)).run Try.prog w = .ok (.tuple #[.int .i64 0, goInt clock]) (ChangeMaps.setBlock w m (.map (es.push ⟨twoV a b, .int .i64 0, clock⟩) (clock + 1))) := by
      simp [Instr.mapEntry, run_underlying Try.underlying65, MapKept.run_getObj_map hh, lawPairK.check w false hkey, g1, zeroIM, MapKept.run_setObj_map _ hh, Result.andThen, ChangeMaps.setBlock]
    have r1 : (Instr.mapUpdate 65 (.map (some m)) (twoV a b) (.int .i64 0)).run Try.prog w = .ok () (ChangeMaps.setBlock w m (.map (es.push ⟨twoV a b, .int .i64 0, clock⟩) (clock + 1))) := by
      simp [Instr.mapUpdate, run_underlying Try.underlying65, MapKept.run_getObj_map hh, lawPairK.check w false hkey, g1, MapKept.run_setObj_map _ hh, Result.andThen, ChangeMaps.setBlock]
    have r2 : (Instr.lookup 65 (.map (some m)) (twoV a b) false).run Try.prog w = .ok (.int .i64 0) w := by
      simp [Instr.lookup, run_underlying Try.underlying65, MapKept.run_getObj_map hh, lawPairK.check w es.isEmpty hkey, g1, zeroIM, Result.andThen]
    rw [r0] at hrun
    injection hrun with _ hW
    subst hW
    have hf : f a b = 0 := by
      rw [hlook] at r2
      injection r2 with e _
      injection e with _ e
    obtain ⟨w', hrun', q1, _⟩ := ho.update lawPair Try.underlying65 hn hkey (plainElem_int Try.underlying3 (wf_i64 0 (by decide) (by decide)))
    rw [r1] at hrun'
    injection hrun' with _ e
    subst e
    refine ⟨_, q1, fun a' b' l' ha' hb' hl' => ?_⟩
    by_cases e : a' = a ∧ b' = b
    · obtain ⟨rfl, rfl⟩ := e
      obtain rfl : l' = l := by rw [hkey] at hl'; injection hl' with e; exact e.symm
      rw [hf]
      exact atKey_put_same ho.isMap (lawPair.key hkey) _ _
    · rw [atKey_put_other (by rintro rfl; exact e (two_inj (lawPair.inj hl' hkey)))]
      exact hD a' b' l' ha' hb' hl'
  · have hj : es[j]? = some e0 := by simpa using g2
    have hsame : es.modify j (fun e => { e with key := twoV a b }) = es := by
      apply Array.ext
      · simp
      · intro i h1 h2
        rw [Array.getElem_modify]
        split
        · next hji =>
          subst hji
          have : es[j] = e0 := by rw [Array.getElem?_eq_getElem h2] at hj; injection hj
          rw [this, ← g3]
        · rfl
    have hstay := lawPairK.stays w hkey
    have r0 : ∃ v', (Instr.mapEntry 65 (.map (some m)) (twoV a b)).run Try.prog w = .ok v' (ChangeMaps.setBlock w m (.map es clock)) := by
      refine ⟨.tuple #[e0.val, goInt e0.born], ?_⟩
      simp [Instr.mapEntry, run_underlying Try.underlying65, MapKept.run_getObj_map hh, lawPairK.check w false hkey, g1, hj, g3, hstay, hsame, MapKept.run_setObj_map _ hh, Result.andThen, ChangeMaps.setBlock]
    obtain ⟨v', r0⟩ := r0
    rw [r0] at hrun
    injection hrun with _ hW
    subst hW
    obtain ⟨D', g1, g2⟩ := (h'.of_block ((setAt w m (.map es clock) (blkLtE hh)).trans hh.symm)).weak
    exact ⟨D', g1.mono (Nat.le_succ _), g2⟩
end Go.Proofs.Ytdameincehiieaa
