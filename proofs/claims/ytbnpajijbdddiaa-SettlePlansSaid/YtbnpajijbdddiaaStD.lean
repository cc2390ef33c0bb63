/- Plan of the program: the walk. -/
import Derived.Test.YtbnpajijbdddiaaStC
namespace Go.Proofs.Ytbnpajijbdddiaa
open Go.RowKit
set_option linter.unusedVariables false

theorem own_len {α : Type} {w : World} {base : Nat} {e : TypeId} {m : Nat} {c : α → List Value} {g n cap : Nat} {l : List α} (h : OwnR w base e m c (.slice (some ⟨g, 0, none⟩) n cap) l) : n = l.length := by
  rcases h.2 with ⟨h1, _⟩ | ⟨g', cap', cur, hv, _⟩
  · cases h1
  · injection hv
set_option maxRecDepth 100000 in
set_option maxHeartbeats 4000000 in
theorem plan_yes (l : List XPos) (ao : Option Addr) (cap : Nat) (w : World) (hr : RowPos w ao l) (he : posE l = 0) (h99 : l.length ≤ 99) (hz : sumH (hasL l) = 0) (hM : ∀ i, i < (hasL l).length → -10000000000000000 ≤ atH (hasL l) i ∧ atH (hasL l) i ≤ 10000000000000000) :
    Calls Try.prog 6 #[.slice ao l.length cap] w fun e w' => (∃ v : Value, e = .returned (.tuple #[v, .int .i64 0]) ∧ OwnR w' w.heap.size 29 3 cellsOwe v (payL l)) ∧ Below w.heap.size w w' := by
  obtain ⟨i0, hi, hz0, hz1, hz2⟩ := info_parts infoOwe
  have n1 := checkPositions_any l ao cap w hr
  rw [he] at n1
  have n2 := fun w' (hb : Below w.heap.size w w') => clone_any l ao cap w' (hr.below hb) h99
  have hl99 : (l.length : Int) ≤ 99 := by omega
  have N1 := hide n1; have N2 := hide n2; have HI := hide hi; have Z0 := hide hz0; have Z1 := hide hz1; have Z2 := hide hz2; have HZ := hide hz; have HM := hide hM
  clear n1 n2 hr he hi hz0 hz1 hz2 hz hM h99
  have hhl : (hasL l).length = l.length := by simp [hasL]
  have HHL := hide hhl
  clear hhl
  go_enter Try.func6, Try.ntmps6
  go_wp2_with fail
  refine (unhide N1).mono ?_
  rintro e w1 ⟨rfl, b1⟩
  go_wp2_with fail
  refine (unhide N2 _ b1).mono ?_
  rintro e w2 ⟨⟨v, rfl, hown⟩, b2⟩
  have b3 := ext_b b1 b2 b1.size
  have hww : w.heap.size ≤ w1.heap.size := b1.size
  clear b1 b2 N1 N2
  rcases hown.form.2 with hnil | ⟨g, cp, rfl, hg, hgl⟩
  · subst hnil
    clear hown
    go_wp2
    go_loopw [6, 19] (fun v i wr => v = .slice none 0 0 ∧ i = .int .i64 0 ∧ wr = w2) (fun _ _ _ => 0)
    case atStart => exact ⟨rfl, rfl, rfl⟩
    case round =>
      obtain ⟨rfl, rfl, rfl⟩ := hrel
      go_wp2
      go_ret2
      exact ⟨⟨_, rfl, OwnR.nil _ _ _ _ _⟩, b3⟩
  by_cases hl0 : l.length = 0
  · have hnil : l = [] := List.length_eq_zero_iff.1 hl0
    subst hnil
    clear hown
    go_wp2
    go_loopw [6, 19] (fun v i wr => v = .slice none 0 0 ∧ i = .int .i64 0 ∧ wr = w2) (fun _ _ _ => 0)
    case atStart => exact ⟨rfl, rfl, rfl⟩
    case round =>
      obtain ⟨rfl, rfl, rfl⟩ := hrel
      go_wp2
      go_ret2
      exact ⟨⟨_, rfl, OwnR.nil _ _ _ _ _⟩, b3⟩
  have hL := left_of_own hown (by omega)
  have hgw : w.heap.size ≤ g := by omega
  have HL := hide hL; have B3 := hide b3
  clear hown hL b3 hg
  go_wp2
  go_loopw [6, 19] (fun v i wr => ∃ (k : Nat) (out : List (Nat × Nat × Int)) (hs : List Int), k ≤ l.length ∧ i = .int .i64 k ∧ Hid (hs.length = l.length ∧ sumH hs = 0 ∧ (∀ i, i < hs.length → -10000000000000000 ≤ atH hs i ∧ atH hs i ≤ 10000000000000000) ∧ planH l.length (hasL l) = out ++ planH (l.length - k) hs ∧ out.length ≤ k) ∧ OwnR wr w2.heap.size 29 3 cellsOwe v (out.map (payOf (bankAt l))) ∧ LeftAt wr g (bankAt l) hs ∧ Below w.heap.size w wr ∧ w2.heap.size ≤ wr.heap.size) (fun _ i _ => l.length - (intOf i).toNat)
  case atStart => exact ⟨0, [], hasL l, Nat.zero_le _, rfl, hide ⟨unhide HHL, unhide HZ, unhide HM, by simp, by simp⟩, OwnR.nil _ _ _ _ _, unhide HL, unhide B3, Nat.le_refl _⟩
  case round =>
    clear HL B3 HM HZ HHL
    obtain ⟨k, out, hs, hk, rfl, HH, hown, hL, hbw, hsz⟩ := hrel
    obtain ⟨h1, h2, h3, h4, h5⟩ := unhide HH
    by_cases hlt : k < l.length
    · have hki : (k : Int) < (l.length : Int) := by omega
      have n3 := ends_any hs g cp wr hL.has (by omega) (by omega)
      rw [h1] at n3
      have N3 := hide n3
      obtain ⟨l0, l1, l2⟩ := low_spec hs (by omega)
      obtain ⟨t0, t1, t2⟩ := top_spec hs (by omega)
      have hLh := hL.has _ l0; have hTh := hL.has _ t0
      have hLb := hL.bank _ l0; have hTb := hL.bank _ t0
      have hml := h3 _ l0; have hmt := h3 _ t0
      obtain ⟨ml1, ml2⟩ := hml
      obtain ⟨mt1, mt2⟩ := hmt
      have hneg : IntKind.i64.wrap (-(atH hs (lowI hs))) = -(atH hs (lowI hs)) := by rw [IntKind.wrap_i64]; omega
      have ham : amtH hs = min (-(atH hs (lowI hs))) (atH hs (topI hs)) := rfl
      have hpl : planH (l.length - k) hs = if amtH hs = 0 then [] else (lowI hs, topI hs, amtH hs) :: planH (l.length - (k + 1)) (stepH hs) := by
        obtain ⟨m, hm⟩ : ∃ m, l.length - k = m + 1 := ⟨l.length - k - 1, by omega⟩
        rw [hm, planH, show l.length - (k + 1) = m by omega]
      have HPL := hide hpl; have HAM := hide ham
      have HOW := hide hown; have HLL := hide hL; have HBW := hide hbw
      clear n3 l1 l2 t1 t2 hpl ham hown hL hbw h1 h2 h3 h4 h5
      go_wp2_with fail
      refine (unhide N3).mono ?_
      rintro e w3 ⟨rfl, q, rfl⟩
      generalize hA : atH hs (lowI hs) = A at *
      generalize hB : atH hs (topI hs) = B at *
      have HA := hide hA; have HB := hide hB
      clear hA hB
      have hmin : (if B < -A then B else -A) = amtH hs := by rw [unhide HAM]; split <;> omega
      generalize hM0 : amtH hs = M at *
      have HM0 := hide hM0
      clear hM0
      go_wp2_with fail
      go_region
      by_cases hz : M = 0
      · have HP0 : Hid (planH (l.length - k) hs = []) := hide (by rw [unhide HPL, if_pos hz])
        rw [hz] at *
        go_wp2
        go_ret2
        obtain ⟨h1, h2, h3, h4, h5⟩ := unhide HH
        refine ⟨⟨_, rfl, ?_⟩, below_drewN (unhide HBW) _⟩
        unfold payL
        rw [h4, unhide HP0, List.append_nil]
        exact ((unhide HOW).mono (by omega)).drewN _
      · have hz' : (M == 0) = false := by simpa using hz
        obtain ⟨h1, h2, h3, h4, h5⟩ := unhide HH
        have hne : lowI hs ≠ topI hs ∧ 0 < M := by
          rcases ends_of hs (by omega) h2 with ⟨e1, _⟩ | ⟨e1, e2, e3, e4⟩
          · rw [unhide HM0] at e1; exact absurd e1 hz
          · rw [unhide HM0] at e1; exact ⟨e4, e1⟩
        obtain ⟨hne, hM1⟩ := hne
        have hol : (out.map (payOf (bankAt l))).length = out.length := by simp
        have hol2 : out.length ≤ 99 := by omega
        have hvb : ∀ b, u6.ownBlock = some b → w2.heap.size ≤ b := fun b hb => ((unhide HOW).lt b hb).1
        have hvg : some g ≠ u6.ownBlock := fun e => by have := hvb g e.symm; omega
        have hlg := (unhide HLL).lt
        have HX := hide h1; have HOL := hide hol; have H2 := hide h2; have H3 := hide h3; have H4 := hide h4; have HVB := hide hvb; have HVG := hide hvg; have HLG := hide hlg
        have hwA : IntKind.i64.wrap (A + M) = A + M := by rw [IntKind.wrap_i64]; have := unhide HAM; omega
        have hwB : IntKind.i64.wrap (B - M) = B - M := by rw [IntKind.wrap_i64]; have := unhide HAM; omega
        clear h1 h2 h3 h4 hol hvb hvg hlg
        go_wp2_with fail
        go_region_law ((refine step_append_lies _ (by rfl) _ _ _ (by rfl) w2.heap.size 29 i0 _ 3 24 Try.underlying23 (unhide HI) (unhide Z0) (unhide Z1) (unhide Z2) rfl (by omega) _ _ _ (by rfl) (((unhide HOW).drewN _).alloc _) ⟨wr.heap.size, 0, none⟩ 1 1 [.int .i64 (bankAt l (lowI hs)), .int .i64 (bankAt l (topI hs)), .int .i64 M] (by rfl) (by rfl) (World.news_of_block (heap_alloc_new (wr.drewN (q + 2)) _)) (by simp [Value.oneCell']) (by omega) (by rw [unhide HOL]; unfold maxLen; omega) (by rw [unhide HOL]; omega) (by simp; omega) (wr.heap.size + 1) (by simp) ?_; intro g3 cap3 w3 own3 hgrow hat3 hlt3))
        all_goals
          have hL3 : LeftAt w3 g (bankAt l) hs := (unhide HLL).of_block (by
            rw [hgrow.block g (by simp; have := unhide HLG; omega) (unhide HVG)]
            exact heap_alloc_old (wr.drewN (q + 2)) _ (unhide HLG))
          have hb3 : Below w.heap.size w w3 := ((below_drewN (unhide HBW) (q + 2)).alloc (by simp; exact (unhide HBW).size) _).grown hgrow (by simp; have := (unhide HBW).size; omega) (fun b hb => by have := unhide HVB b hb; omega)
          have hz3 : w2.heap.size ≤ w3.heap.size := by have := hgrow.size; simp at this; omega
          have ho3 : OwnR w3 w2.heap.size 29 3 cellsOwe (.slice (some ⟨g3, 0, none⟩) (out.length + 1) cap3) ((out ++ [(lowI hs, topI hs, M)]).map (payOf (bankAt l))) := by
            rw [List.map_append]
            have h := OwnR.snoc (payOf (bankAt l) (lowI hs, topI hs, M)) own3
            rw [List.length_map] at h
            exact h
          have hg3 : g ≠ g3 := by
            have := (OwnR.lt ho3 g3 rfl).1
            omega
          have f1 : w3.cell? ⟨g, lowI hs * 2 + 1, none⟩ = some (.int .i64 A) := by rw [← unhide HA]; exact hL3.has _ l0
          have f2 := hL3.frozen (lowI hs * 2 + 1)
          have hL4 := hL3.set (lowI hs) l0 (A + M)
          have f3 : (w3.setCell ⟨g, lowI hs * 2 + 1, none⟩ (.int .i64 (A + M))).cell? ⟨g, topI hs * 2 + 1, none⟩ = some (.int .i64 B) := by
            rw [hL4.has _ (by simpa using t0), atH_set _ _ _ _ l0, if_neg (Ne.symm hne), unhide HB]
          have f4 := hL4.frozen (topI hs * 2 + 1)
          have hL5 := hL4.set (topI hs) (by simpa using t0) (B - M)
          have hst : (hs.set (lowI hs) (A + M)).set (topI hs) (B - M) = stepH hs := by
            unfold stepH payH
            rw [atH_set _ _ _ _ l0, if_neg (Ne.symm hne), unhide HM0, unhide HA, unhide HB]
          rw [hst] at hL5
          have ho5 := (ho3.other (a := ⟨g, lowI hs * 2 + 1, none⟩) (by simp [Value.ownBlock]; omega) (.int .i64 (A + M))).other (a := ⟨g, topI hs * 2 + 1, none⟩) (by simp [Value.ownBlock]; omega) (.int .i64 (B - M))
          have hb5 := (hb3.setCell (p := ⟨g, lowI hs * 2 + 1, none⟩) hgw (.int .i64 (A + M))).setCell (p := ⟨g, topI hs * 2 + 1, none⟩) hgw (.int .i64 (B - M))
          have HL5 := hide hL5; have HO5 := hide ho5; have HB5 := hide hb5; have HZ3 := hide hz3
          clear own3 hgrow hat3 hlt3 hL3 hb3 ho3 hL4 hL5 ho5 hb5 hst hg3 hz3
          go_wp2
          go_roundw
          case rel =>
            have e1 := unhide HX; have e2 := unhide H2; have e3 := unhide H3; have e4 := unhide H4
            refine ⟨k + 1, out ++ [(lowI hs, topI hs, M)], stepH hs, by omega, by go_num, hide ⟨by rw [stepH_length]; exact e1, by rw [step_sum hs (by omega)]; exact e2, ?_, ?_, by simp; exact h5⟩, unhide HO5, unhide HL5, unhide HB5, by simp; exact unhide HZ3⟩
            · intro i hi
              rw [stepH_length] at hi
              exact step_within hs (by omega) e2 10000000000000000 e3 i hi
            · rw [e4, unhide HPL, if_neg hz, List.append_assoc]
              rfl
          case measure => simp [intOf]; omega
    · have hkl : k = l.length := by omega
      obtain ⟨h1, h2, h3, h4, h5⟩ := unhide HH
      have HPL : Hid (planH l.length (hasL l) = out) := hide (by rw [h4, hkl, Nat.sub_self, planH, List.append_nil])
      have HOW := hide hown
      clear hown h1 h2 h3 h4 h5
      go_wp2
      go_ret2
      refine ⟨⟨_, rfl, ?_⟩, hbw⟩
      unfold payL
      rw [unhide HPL]
      exact (unhide HOW).mono (by omega)
theorem posE_zero {l : List XPos} (h : posE l = 0) : l.length ≤ 99 ∧ (∀ x ∈ l, wrongP x = false) ∧ fallTo l l.length = false ∧ sumH (hasL l) = 0 := by
  unfold posE at h
  by_cases h1 : 99 < l.length
  · rw [if_pos h1] at h; cases h
  rw [if_neg h1] at h
  cases h2 : l.any wrongP with
  | true => rw [h2] at h; cases h
  | false =>
  cases h3 : fallTo l l.length with
  | true => rw [h2, h3] at h; cases h
  | false =>
  rw [h2, h3] at h
  refine ⟨by omega, anyQ_false h2, rfl, ?_⟩
  by_cases h4 : sumH (hasL l) = 0
  · exact h4
  · simp only [cond_false] at h; rw [if_pos h4] at h; cases h
theorem has_bound {l : List XPos} (hw : ∀ x ∈ l, wrongP x = false) : ∀ i, i < (hasL l).length → -10000000000000000 ≤ atH (hasL l) i ∧ atH (hasL l) i ≤ 10000000000000000 := by
  intro i hi
  have hi' : i < l.length := by simpa [hasL] using hi
  have e : atH (hasL l) i = l[i].has := by simp [atH, hasL, hi']
  have := notWrong (hw l[i] (List.getElem_mem hi'))
  rw [e]; omega
/-- the payments, where nothing is wrong -/
def planS (l : List XPos) : List XOwe := if posE l = 0 then payL l else []
theorem plan_any (l : List XPos) (ao : Option Addr) (cap : Nat) (w : World) (hr : RowPos w ao l) :
    Calls Try.prog 6 #[.slice ao l.length cap] w fun e w' => (∃ v : Value, e = .returned (.tuple #[v, .int .i64 (posE l)]) ∧ OwnR w' w.heap.size 29 3 cellsOwe v (planS l)) ∧ Below w.heap.size w w' := by
  by_cases he : posE l = 0
  · obtain ⟨h1, h2, h3, h4⟩ := posE_zero he
    rw [planS, if_pos he, he]
    exact plan_yes l ao cap w hr he h1 h4 (has_bound h2)
  · rw [planS, if_neg he]
    have n1 := checkPositions_any l ao cap w hr
    have hne : (posE l != 0) = true := by simpa using he
    generalize posE l = pe at *
    have N1 := hide n1
    clear n1 hr
    go_enter Try.func6, Try.ntmps6
    go_wp2_with fail
    refine (unhide N1).mono ?_
    rintro e w1 ⟨rfl, b1⟩
    go_wp2
    go_ret2
    exact ⟨⟨_, rfl, OwnR.nil _ _ _ _ _⟩, b1⟩
end Go.Proofs.Ytbnpajijbdddiaa
