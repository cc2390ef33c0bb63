/- Rows that are cloned: what comes is a row. Made by drafts/genTnD.py. -/
import Derived.Test.YtfpglpefofcdeaaDoorM02
import Derived.Deep.AppendLies
import Derived.Deep.RegionLaw
import Derived.Deep.RegionWith
import Derived.BigRegion
import Derived.Lib.SliceRun
namespace Go.Proofs.YtfpglpefofcdeaaDoor
open Go.RowKit
set_option linter.unusedVariables false
set_option linter.unusedSimpArgs false
set_option maxRecDepth 100000

theorem owns_sliceN {w : World} {B : Nat} {t : TypeId} {k n : Nat} {v : Value} {cs : List Value} (h : w.ownsRow B t k v n cs) : ∃ o m c, v = .slice o m c := by
  rcases h.2 with ⟨h1, h2⟩ | ⟨g, cap, cur, h1, hB, _⟩
  · exact ⟨_, _, _, h1⟩
  · exact ⟨_, _, _, h1⟩
def knC (l : List XKnown) : List Value := l.flatMap (fun x => [.string x.name, .bool x.part])
theorem knC_len (l : List XKnown) : (knC l).length = l.length * 2 := by
  induction l with
  | nil => rfl
  | cons x r ih => simp only [knC, List.flatMap_cons, List.length_append, List.length_cons] at ih ⊢; rw [ih]; simp; omega
theorem knC_at : ∀ (l : List XKnown) (i : Nat) (x : XKnown), l[i]? = some x → (knC l)[i * 2]? = some (.string x.name) ∧ (knC l)[i * 2 + 1]? = some (.bool x.part)
  | [], _, _, h => by cases h
  | y :: r, 0, x, h => by cases h; exact ⟨rfl, rfl⟩
  | y :: r, i + 1, x, h => by
    have h2 := knC_at r i x (by simpa using h)
    have e : knC (y :: r) = .string y.name :: .bool y.part :: knC r := rfl
    rw [e, show (i + 1) * 2 = i * 2 + 1 + 1 by omega]
    simpa using h2
theorem infoCloneK : (Tryd.prog.info? 65).map (fun i => (i.zero, i.size, i.bytes)) = some (some (.agg #[.string ⟨#[]⟩, .bool false]), 2, 24) := by kernel_rfl
set_option maxHeartbeats 1000000 in
theorem cloneK_any (l : List XKnown) (ao : Option Addr) (cap : Nat) (w : World) (hr : RowKnown w ao l) (hz : l.length ≤ 1048576) :
    Calls Tryd.prog 9 #[.slice ao l.length cap] w fun e w' => (∃ o m c, e = .returned (.slice o m c)) ∧ Below w.heap.size w w' := by
  obtain ⟨i0, hi, hz0, hz1, hz2⟩ := info_parts infoCloneK
  have q : ∀ (w : World) (a : Option Addr) (n c n' c' : Nat), (binOp .eql 22 (.slice a n c) (.slice none n' c')).run Tryd.prog w = .ok (.bool a.isNone) w := fun w a n c n' c' => Lib.run_eql_slice_nil w _ _ a n c n' c' Tryd.underlying22
  cases ao with
  | none =>
    clear hr
    go_enter Tryd.func9, Tryd.ntmps9
    go_wp2
    go_ret
    exact ⟨⟨_, _, _, rfl⟩, Below.refl _ _⟩
  | some a =>
    have hnews : ∀ j u, (knC l)[j]? = some u → w.cell? (a.add j) = some u := by
      intro j u hj
      rcases hr.1 with h | ⟨b, off, h, hb, hc⟩
      · rw [h] at hj; simp [knC] at hj
      · obtain rfl : a = ⟨b, off, none⟩ := by simpa using h
        have hjl : j < l.length * 2 := by
          have := (List.getElem?_eq_some_iff.1 hj).1
          rwa [knC_len] at this
        obtain ⟨x, hx⟩ : ∃ x, l[j / 2]? = some x := ⟨_, List.getElem?_eq_getElem (by omega)⟩
        obtain ⟨c0, c1⟩ := hc _ x hx
        obtain ⟨e0, e1⟩ := knC_at l _ x hx
        rw [show (⟨b, off, none⟩ : Addr).add j = ⟨b, off + j, none⟩ by simp [Addr.add]]
        rcases Nat.mod_two_eq_zero_or_one j with h2 | h2
        · rw [show j / 2 * 2 = j by omega] at e0 c0
          rw [c0, ← e0]; exact hj
        · rw [show j / 2 * 2 + 1 = j by omega] at e1
          rw [show off + j / 2 * 2 + 1 = off + j by omega] at c1
          rw [c1, ← e1]; exact hj
    have HN := hide hnews
    have hlen : (knC l).length = l.length * 2 := by exact knC_len l
    have hone : ∀ u ∈ (knC l), u.oneCell' = true := by intro u hu; obtain ⟨x, _, hx⟩ := List.mem_flatMap.1 hu; simp at hx; rcases hx with rfl | rfl <;> rfl
    have HL := hide hlen; have HO := hide hone; have HZ := hide hz
    clear hnews hr hlen hone hz
    generalize knC l = CS at *
    generalize l.length = ll at *
    go_enter Tryd.func9, Tryd.ntmps9
    go_wp2_with (at_builtin; refine wpList_append_own _ rfl _ _ 22 rfl w.heap.size 65 i0 (.agg #[.string ⟨#[]⟩, .bool false]) 2 24 Tryd.underlying22 hi hz0 hz1 hz2 rfl (by decide) _ _ _ rfl (World.ownsRow_made w #[] 0 (Nat.le_refl _) (Nat.zero_le _) rfl) a ll cap CS rfl ?qc1 ?qc2 ?qc3 ?qc4 ?qc5 ?qc6 ?_)
    case qc1 => exact unhide HL
    case qc2 => exact fun j u hu => Lib.cell?_alloc_some _ (unhide HN j u hu)
    case qc3 => exact unhide HO
    case qc4 => have := unhide HZ; unfold maxLen; omega
    case qc5 => have := unhide HZ; omega
    case qc6 => simp
    intro v' w1 hown hgrow hnil
    obtain ⟨o, m, c, rfl⟩ := owns_sliceN hown
    have HB := hide (((Below.refl _ w).alloc (Nat.le_refl _) (.cells #[] 65)).grown hgrow (by simp) (by intro k hk; simp [Value.ownBlock] at hk; omega))
    clear hown hgrow hnil
    go_wp2
    go_ret
    exact ⟨⟨_, _, _, rfl⟩, unhide HB⟩
theorem infoCloneS : (Tryd.prog.info? 9).map (fun i => (i.zero, i.size, i.bytes)) = some (some (.string ⟨#[]⟩), 1, 16) := by kernel_rfl
set_option maxHeartbeats 1000000 in
theorem cloneS_any (l : List ByteArray) (ao : Option Addr) (cap : Nat) (w : World) (hr : Rowstring w ao l) (hz : l.length ≤ 1048576) :
    Calls Tryd.prog 10 #[.slice ao l.length cap] w fun e w' => (∃ o m c, e = .returned (.slice o m c)) ∧ Below w.heap.size w w' := by
  obtain ⟨i0, hi, hz0, hz1, hz2⟩ := info_parts infoCloneS
  have q : ∀ (w : World) (a : Option Addr) (n c n' c' : Nat), (binOp .eql 23 (.slice a n c) (.slice none n' c')).run Tryd.prog w = .ok (.bool a.isNone) w := fun w a n c n' c' => Lib.run_eql_slice_nil w _ _ a n c n' c' Tryd.underlying23
  cases ao with
  | none =>
    clear hr
    go_enter Tryd.func10, Tryd.ntmps10
    go_wp2
    go_ret
    exact ⟨⟨_, _, _, rfl⟩, Below.refl _ _⟩
  | some a =>
    have hnews : ∀ j u, (l.map Value.string)[j]? = some u → w.cell? (a.add j) = some u := by
      intro j u hj
      rcases hr.1 with h | ⟨b, off, h, hb, hc⟩
      · rw [h] at hj; simp at hj
      · obtain rfl : a = ⟨b, off, none⟩ := by simpa using h
        obtain ⟨x, hx⟩ : ∃ x, l[j]? = some x := by
          have := (List.getElem?_eq_some_iff.1 hj).1
          exact ⟨_, List.getElem?_eq_getElem (by simpa using this)⟩
        have hcx := hc j x hx
        rw [List.getElem?_map, hx] at hj
        rw [show (⟨b, off, none⟩ : Addr).add j = ⟨b, off + j, none⟩ by simp [Addr.add], hcx]
        exact hj
    have HN := hide hnews
    have hlen : (l.map Value.string).length = l.length * 1 := by simp
    have hone : ∀ u ∈ (l.map Value.string), u.oneCell' = true := by intro u hu; obtain ⟨x, _, rfl⟩ := List.mem_map.1 hu; rfl
    have HL := hide hlen; have HO := hide hone; have HZ := hide hz
    clear hnews hr hlen hone hz
    generalize l.map Value.string = CS at *
    generalize l.length = ll at *
    go_enter Tryd.func10, Tryd.ntmps10
    go_wp2_with (at_builtin; refine wpList_append_own _ rfl _ _ 23 rfl w.heap.size 9 i0 (.string ⟨#[]⟩) 1 16 Tryd.underlying23 hi hz0 hz1 hz2 rfl (by decide) _ _ _ rfl (World.ownsRow_made w #[] 0 (Nat.le_refl _) (Nat.zero_le _) rfl) a ll cap CS rfl ?qc1 ?qc2 ?qc3 ?qc4 ?qc5 ?qc6 ?_)
    case qc1 => exact unhide HL
    case qc2 => exact fun j u hu => Lib.cell?_alloc_some _ (unhide HN j u hu)
    case qc3 => exact unhide HO
    case qc4 => have := unhide HZ; unfold maxLen; omega
    case qc5 => have := unhide HZ; omega
    case qc6 => simp
    intro v' w1 hown hgrow hnil
    obtain ⟨o, m, c, rfl⟩ := owns_sliceN hown
    have HB := hide (((Below.refl _ w).alloc (Nat.le_refl _) (.cells #[] 9)).grown hgrow (by simp) (by intro k hk; simp [Value.ownBlock] at hk; omega))
    clear hown hgrow hnil
    go_wp2
    go_ret
    exact ⟨⟨_, _, _, rfl⟩, unhide HB⟩
theorem infoCloneI : (Tryd.prog.info? 3).map (fun i => (i.zero, i.size, i.bytes)) = some (some (.int .i64 0), 1, 8) := by kernel_rfl
set_option maxHeartbeats 1000000 in
theorem cloneI_any (l : List Int) (ao : Option Addr) (cap : Nat) (w : World) (hr : Rowint w ao l) (hz : l.length ≤ 1048576) :
    Calls Tryd.prog 11 #[.slice ao l.length cap] w fun e w' => (∃ o m c, e = .returned (.slice o m c)) ∧ Below w.heap.size w w' := by
  obtain ⟨i0, hi, hz0, hz1, hz2⟩ := info_parts infoCloneI
  have q : ∀ (w : World) (a : Option Addr) (n c n' c' : Nat), (binOp .eql 28 (.slice a n c) (.slice none n' c')).run Tryd.prog w = .ok (.bool a.isNone) w := fun w a n c n' c' => Lib.run_eql_slice_nil w _ _ a n c n' c' Tryd.underlying28
  cases ao with
  | none =>
    clear hr
    go_enter Tryd.func11, Tryd.ntmps11
    go_wp2
    go_ret
    exact ⟨⟨_, _, _, rfl⟩, Below.refl _ _⟩
  | some a =>
    have hnews : ∀ j u, (l.map (Value.int .i64))[j]? = some u → w.cell? (a.add j) = some u := by
      intro j u hj
      rcases hr.1 with h | ⟨b, off, h, hb, hc⟩
      · rw [h] at hj; simp at hj
      · obtain rfl : a = ⟨b, off, none⟩ := by simpa using h
        obtain ⟨x, hx⟩ : ∃ x, l[j]? = some x := by
          have := (List.getElem?_eq_some_iff.1 hj).1
          exact ⟨_, List.getElem?_eq_getElem (by simpa using this)⟩
        have hcx := hc j x hx
        rw [List.getElem?_map, hx] at hj
        rw [show (⟨b, off, none⟩ : Addr).add j = ⟨b, off + j, none⟩ by simp [Addr.add], hcx]
        exact hj
    have HN := hide hnews
    have hlen : (l.map (Value.int .i64)).length = l.length * 1 := by simp
    have hone : ∀ u ∈ (l.map (Value.int .i64)), u.oneCell' = true := by intro u hu; obtain ⟨x, _, rfl⟩ := List.mem_map.1 hu; rfl
    have HL := hide hlen; have HO := hide hone; have HZ := hide hz
    clear hnews hr hlen hone hz
    generalize l.map (Value.int .i64) = CS at *
    generalize l.length = ll at *
    go_enter Tryd.func11, Tryd.ntmps11
    go_wp2_with (at_builtin; refine wpList_append_own _ rfl _ _ 28 rfl w.heap.size 3 i0 (.int .i64 0) 1 8 Tryd.underlying28 hi hz0 hz1 hz2 rfl (by decide) _ _ _ rfl (World.ownsRow_made w #[] 0 (Nat.le_refl _) (Nat.zero_le _) rfl) a ll cap CS rfl ?qc1 ?qc2 ?qc3 ?qc4 ?qc5 ?qc6 ?_)
    case qc1 => exact unhide HL
    case qc2 => exact fun j u hu => Lib.cell?_alloc_some _ (unhide HN j u hu)
    case qc3 => exact unhide HO
    case qc4 => have := unhide HZ; unfold maxLen; omega
    case qc5 => have := unhide HZ; omega
    case qc6 => simp
    intro v' w1 hown hgrow hnil
    obtain ⟨o, m, c, rfl⟩ := owns_sliceN hown
    have HB := hide (((Below.refl _ w).alloc (Nat.le_refl _) (.cells #[] 3)).grown hgrow (by simp) (by intro k hk; simp [Value.ownBlock] at hk; omega))
    clear hown hgrow hnil
    go_wp2
    go_ret
    exact ⟨⟨_, _, _, rfl⟩, unhide HB⟩
theorem infoCloneB : (Tryd.prog.info? 4).map (fun i => (i.zero, i.size, i.bytes)) = some (some (.bool false), 1, 1) := by kernel_rfl
set_option maxHeartbeats 1000000 in
theorem cloneB_any (l : List Bool) (ao : Option Addr) (cap : Nat) (w : World) (hr : Rowbool w ao l) (hz : l.length ≤ 1048576) :
    Calls Tryd.prog 16 #[.slice ao l.length cap] w fun e w' => (∃ o m c, e = .returned (.slice o m c)) ∧ Below w.heap.size w w' := by
  obtain ⟨i0, hi, hz0, hz1, hz2⟩ := info_parts infoCloneB
  have q : ∀ (w : World) (a : Option Addr) (n c n' c' : Nat), (binOp .eql 31 (.slice a n c) (.slice none n' c')).run Tryd.prog w = .ok (.bool a.isNone) w := fun w a n c n' c' => Lib.run_eql_slice_nil w _ _ a n c n' c' Tryd.underlying31
  cases ao with
  | none =>
    clear hr
    go_enter Tryd.func16, Tryd.ntmps16
    go_wp2
    go_ret
    exact ⟨⟨_, _, _, rfl⟩, Below.refl _ _⟩
  | some a =>
    have hnews : ∀ j u, (l.map Value.bool)[j]? = some u → w.cell? (a.add j) = some u := by
      intro j u hj
      rcases hr.1 with h | ⟨b, off, h, hb, hc⟩
      · rw [h] at hj; simp at hj
      · obtain rfl : a = ⟨b, off, none⟩ := by simpa using h
        obtain ⟨x, hx⟩ : ∃ x, l[j]? = some x := by
          have := (List.getElem?_eq_some_iff.1 hj).1
          exact ⟨_, List.getElem?_eq_getElem (by simpa using this)⟩
        have hcx := hc j x hx
        rw [List.getElem?_map, hx] at hj
        rw [show (⟨b, off, none⟩ : Addr).add j = ⟨b, off + j, none⟩ by simp [Addr.add], hcx]
        exact hj
    have HN := hide hnews
    have hlen : (l.map Value.bool).length = l.length * 1 := by simp
    have hone : ∀ u ∈ (l.map Value.bool), u.oneCell' = true := by intro u hu; obtain ⟨x, _, rfl⟩ := List.mem_map.1 hu; rfl
    have HL := hide hlen; have HO := hide hone; have HZ := hide hz
    clear hnews hr hlen hone hz
    generalize l.map Value.bool = CS at *
    generalize l.length = ll at *
    go_enter Tryd.func16, Tryd.ntmps16
    go_wp2_with (at_builtin; refine wpList_append_own _ rfl _ _ 31 rfl w.heap.size 4 i0 (.bool false) 1 1 Tryd.underlying31 hi hz0 hz1 hz2 rfl (by decide) _ _ _ rfl (World.ownsRow_made w #[] 0 (Nat.le_refl _) (Nat.zero_le _) rfl) a ll cap CS rfl ?qc1 ?qc2 ?qc3 ?qc4 ?qc5 ?qc6 ?_)
    case qc1 => exact unhide HL
    case qc2 => exact fun j u hu => Lib.cell?_alloc_some _ (unhide HN j u hu)
    case qc3 => exact unhide HO
    case qc4 => have := unhide HZ; unfold maxLen; omega
    case qc5 => have := unhide HZ; omega
    case qc6 => simp
    intro v' w1 hown hgrow hnil
    obtain ⟨o, m, c, rfl⟩ := owns_sliceN hown
    have HB := hide (((Below.refl _ w).alloc (Nat.le_refl _) (.cells #[] 4)).grown hgrow (by simp) (by intro k hk; simp [Value.ownBlock] at hk; omega))
    clear hown hgrow hnil
    go_wp2
    go_ret
    exact ⟨⟨_, _, _, rfl⟩, unhide HB⟩
end Go.Proofs.YtfpglpefofcdeaaDoor
