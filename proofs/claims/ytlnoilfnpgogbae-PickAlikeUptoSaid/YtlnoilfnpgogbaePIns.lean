/- The library's insertion sort of applications, by rank. -/
import Derived.Test.YtlnoilfnpgogbaePSrt
import Derived.Test.YtlnoilfnpgogbaeQB
import Derived.BigRegion
import Derived.Deep.RegionHeld3
namespace Go.Proofs.Ytlnoilfnpgogbae
open Go.RowKit
set_option linter.unusedVariables false

/-- a row of applications that is the call's own, in a block -/
def ARow (w : World) (g : Nat) (L : List XApp) : Prop := ∃ cur : Array Value, w.heap[g]? = some (.cells cur 31 (0, 0)) ∧
  ∀ i x, L[i]? = some x → cur[i * 4]? = some (.string x.name) ∧ cur[i * 4 + 1]? = some (.string x.label) ∧ cur[i * 4 + 2]? = some (.int .i64 x.prio) ∧ cur[i * 4 + 3]? = some (.bool x.confirm)
theorem ARow.cell {w : World} {g : Nat} {L : List XApp} (h : ARow w g L) (i : Nat) (x : XApp) (hx : L[i]? = some x) :
    w.cell? ⟨g, i * 4, none⟩ = some (.string x.name) ∧ w.cell? ⟨g, i * 4 + 1, none⟩ = some (.string x.label) ∧ w.cell? ⟨g, i * 4 + 2, none⟩ = some (.int .i64 x.prio) ∧ w.cell? ⟨g, i * 4 + 3, none⟩ = some (.bool x.confirm) := by
  obtain ⟨cur, hh, hc⟩ := h
  obtain ⟨h0, h1, h2, h3⟩ := hc i x hx
  exact ⟨by rw [cell_of_row _ _ _ _ _ _ hh, h0], by rw [cell_of_row _ _ _ _ _ _ hh, h1], by rw [cell_of_row _ _ _ _ _ _ hh, h2], by rw [cell_of_row _ _ _ _ _ _ hh, h3]⟩
theorem ARow.frozen {w : World} {g : Nat} {L : List XApp} (h : ARow w g L) (j : Nat) : w.frozen? ⟨g, j, none⟩ = false := by
  obtain ⟨cur, hh, hc⟩ := h
  simp [World.frozen?, hh]
theorem ARow.lt {w : World} {g : Nat} {L : List XApp} (h : ARow w g L) : g < w.heap.size := by
  obtain ⟨cur, hh, hc⟩ := h
  rcases Nat.lt_or_ge g w.heap.size with h | h
  · exact h
  · rw [Array.getElem?_eq_none h] at hh; cases hh
theorem ARow.below {w w' : World} {g : Nat} {L : List XApp} (h : ARow w g L) (hb : Below w.heap.size w w') : ARow w' g L := by
  have hg := h.lt
  obtain ⟨cur, hh, hc⟩ := h
  exact ⟨cur, by rw [hb.block g hg, hh], hc⟩
theorem ARow.drew {w : World} {g : Nat} {L : List XApp} (h : ARow w g L) : ARow w.drew g L := h
theorem set_rowA {w : World} {g j : Nat} {cs : Array Value} {e : TypeId} {fr : Nat × Nat} {v : Value} (h : w.heap[g]? = some (.cells cs e fr)) : (w.setCell ⟨g, j, none⟩ v).heap[g]? = some (.cells (cs.setIfInBounds j v) e fr) := by
  simp [World.setCell, Array.getElem?_modify, h]
theorem get_set_same (C : Array Value) (i : Nat) (v : Value) (h : i < C.size) : (C.setIfInBounds i v)[i]? = some v := by simp [h]
theorem get_set_other (C : Array Value) (i j : Nat) (v : Value) (h : i ≠ j) : (C.setIfInBounds i v)[j]? = C[j]? := by simp [h]
theorem idx_swap (A T : List XApp) (a x : XApp) (i : Nat) (y : XApp) (h : (A ++ x :: a :: T)[i]? = some y) :
    (i = A.length ∧ y = x) ∨ (i = A.length + 1 ∧ y = a) ∨ (i ≠ A.length ∧ i ≠ A.length + 1 ∧ (A ++ a :: x :: T)[i]? = some y) := by
  rcases Nat.lt_trichotomy i A.length with h1 | h1 | h1
  · rw [List.getElem?_append_left h1] at h
    exact .inr (.inr ⟨by omega, by omega, by rw [List.getElem?_append_left h1]; exact h⟩)
  · subst h1
    rw [List.getElem?_append_right (Nat.le_refl _)] at h
    simp at h
    exact .inl ⟨rfl, h.symm⟩
  · rw [List.getElem?_append_right (by omega)] at h
    obtain ⟨m, hm⟩ : ∃ m, i - A.length = m + 1 := ⟨i - A.length - 1, by omega⟩
    rw [hm, List.getElem?_cons_succ] at h
    cases m with
    | zero =>
      simp at h
      exact .inr (.inl ⟨by omega, h.symm⟩)
    | succ m =>
      refine .inr (.inr ⟨by omega, by omega, ?_⟩)
      rw [List.getElem?_append_right (by omega), hm, List.getElem?_cons_succ, List.getElem?_cons_succ]
      rw [List.getElem?_cons_succ] at h
      exact h
/-- two applications that stand one behind the other change places -/
def swapA (w : World) (g n : Nat) (a x : XApp) : World :=
  (((((((w.setCell ⟨g, (n + 1) * 4, none⟩ (.string a.name)).setCell ⟨g, (n + 1) * 4 + 1, none⟩ (.string a.label)).setCell ⟨g, (n + 1) * 4 + 2, none⟩ (.int .i64 a.prio)).setCell ⟨g, (n + 1) * 4 + 3, none⟩ (.bool a.confirm)).setCell ⟨g, n * 4, none⟩ (.string x.name)).setCell ⟨g, n * 4 + 1, none⟩ (.string x.label)).setCell ⟨g, n * 4 + 2, none⟩ (.int .i64 x.prio)).setCell ⟨g, n * 4 + 3, none⟩ (.bool x.confirm)
theorem ARow.swap {w : World} {g : Nat} {A T : List XApp} {a x : XApp} (h : ARow w g (A ++ a :: x :: T)) : ARow (swapA w g A.length a x) g (A ++ x :: a :: T) := by
  obtain ⟨cur, hh, hc⟩ := h
  unfold swapA
  obtain ⟨p0, p1, p2, p3⟩ := hc A.length a (by rw [List.getElem?_append_right (Nat.le_refl _)]; simp)
  obtain ⟨q0, q1, q2, q3⟩ := hc (A.length + 1) x (by rw [List.getElem?_append_right (by omega)]; simp)
  have hsz : (A.length + 1) * 4 + 3 < cur.size := by
    rcases Nat.lt_or_ge ((A.length + 1) * 4 + 3) cur.size with h | h
    · exact h
    · rw [Array.getElem?_eq_none h] at q3; cases q3
  have H := set_rowA (j := A.length * 4 + 3) (v := .bool x.confirm) (set_rowA (j := A.length * 4 + 2) (v := .int .i64 x.prio) (set_rowA (j := A.length * 4 + 1) (v := .string x.label) (set_rowA (j := A.length * 4) (v := .string x.name) (set_rowA (j := (A.length + 1) * 4 + 3) (v := .bool a.confirm) (set_rowA (j := (A.length + 1) * 4 + 2) (v := .int .i64 a.prio) (set_rowA (j := (A.length + 1) * 4 + 1) (v := .string a.label) (set_rowA (j := (A.length + 1) * 4) (v := .string a.name) hh)))))))
  refine ⟨_, H, fun i y hy => ?_⟩
  rcases idx_swap A T a x i y hy with ⟨hi, rfl⟩ | ⟨hi, rfl⟩ | ⟨hi1, hi2, hy'⟩
  · subst hi
    refine ⟨?_, ?_, ?_, ?_⟩ <;> (repeat (first | rw [get_set_other _ _ _ _ (by omega)] | rw [get_set_same _ _ _ (by first | omega | (simp only [Array.size_setIfInBounds]; omega))]))
  · subst hi
    refine ⟨?_, ?_, ?_, ?_⟩ <;> (repeat (first | rw [get_set_other _ _ _ _ (by omega)] | rw [get_set_same _ _ _ (by first | omega | (simp only [Array.size_setIfInBounds]; omega))]))
  · obtain ⟨z0, z1, z2, z3⟩ := hc i y hy'
    refine ⟨?_, ?_, ?_, ?_⟩ <;> ((repeat rw [get_set_other _ _ _ _ (by omega)]); assumption)
theorem swapA_below {w : World} {g n : Nat} {a x : XApp} (B : Nat) (hB : B ≤ g) : Below B w (swapA w g n a x) := by
  unfold swapA
  exact ((((((((Below.refl B w).setCell hB _).setCell hB _).setCell hB _).setCell hB _).setCell hB _).setCell hB _).setCell hB _).setCell hB _

theorem nil_or_snoc {α : Type} (A : List α) : A = [] ∨ ∃ A' a, A = A' ++ [a] := by
  rcases List.eq_nil_or_concat A with h | ⟨B, b, h⟩
  · exact .inl h
  · exact .inr ⟨B, b, by rw [h, List.concat_eq_append]⟩
theorem ext_callP {B : Nat} {a x y : World} (h : Below B a x) (k : Below x.heap.size x y) (hB : B ≤ x.heap.size := by omega) : Below B a y := h.trans (k.mono hB)
theorem cmpOf_lt (a b : Int) : decide (cmpOf a b < 0) = decide (a < b) := by
  unfold cmpOf
  apply decide_eq_decide.2
  split
  · constructor <;> intro _ <;> omega
  · split <;> constructor <;> intro _ <;> omega
set_option maxRecDepth 100000 in
set_option maxHeartbeats 4000000 in
theorem isort_any (l : List XApp) (g cap : Nat) (w : World) (hr : ARow w g l) (h1 : 1 ≤ l.length) (h20 : l.length ≤ 20) :
    Calls Try.prog 51 #[.slice (some ⟨g, 0, none⟩) l.length cap, .int .i64 0, .int .i64 l.length, .func (.func 29) #[] #[]] w fun e w' => e = .returned (.tuple #[]) ∧ (∃ S, ARow w' g S ∧ S.length = l.length ∧ Good S l) ∧ Below g w w' := by
  have hl20 : (l.length : Int) ≤ 20 := by omega
  have HR := hide hr
  clear hr
  go_enter Try.func51, Try.ntmps51
  go_wp2
  go_loopw [8] (fun i wr => ∃ (k : Nat) (P : List XApp), 1 ≤ k ∧ k ≤ l.length ∧ i = .int .i64 k ∧ ARow wr g (P ++ l.drop k) ∧ P.length = k ∧ Good P (l.take k) ∧ Below g w wr) (fun i _ => l.length - (intOf i).toNat)
  case atStart =>
    obtain ⟨x, hx⟩ : ∃ x, l[0]? = some x := ⟨_, List.getElem?_eq_getElem (by omega)⟩
    have e1 : l.take 1 = [x] := by rw [show (1 : Nat) = 0 + 1 from rfl, List.take_add_one, hx]; rfl
    refine ⟨1, [x], Nat.le_refl _, h1, rfl, ?_, rfl, ?_, Below.refl _ _⟩
    · rw [← e1, List.take_append_drop]
      exact unhide HR
    · rw [e1]; exact good_one x
  case round =>
    obtain ⟨k, P, hk1, hkl, rfl, hA, hP, hG, hbw⟩ := hrel
    by_cases hlt : k < l.length
    · obtain ⟨x, hx⟩ : ∃ x, l[k]? = some x := ⟨_, List.getElem?_eq_getElem hlt⟩
      have hdk : l.drop k = x :: l.drop (k + 1) := by
        obtain ⟨hk', rfl⟩ := List.getElem?_eq_some_iff.1 hx
        exact List.drop_eq_getElem_cons hk'
      have htk : l.take (k + 1) = l.take k ++ [x] := by rw [List.take_add_one, hx]; rfl
      rw [hdk] at hA
      have hTl : (l.drop (k + 1)).length = l.length - (k + 1) := List.length_drop ..
      generalize hT : l.drop (k + 1) = T at *
      have HTT := hide hT
      clear hT
      have HTK := hide htk; have HGG := hide hG; have HPP := hide hP; have HTL := hide hTl
      have hki : (k : Int) < (l.length : Int) := by omega
      clear hdk hx htk hG hP hTl
      go_wp2
      go_loopw [9] (fun j wx => ∃ A C : List XApp, j = .int .i64 A.length ∧ A ++ C = P ∧ ARow wx g (A ++ x :: (C ++ T)) ∧ Hid (∀ c ∈ C, rankOf x < rankOf c) ∧ Below g w wx) (fun j _ => (intOf j).toNat)
      case atStart =>
        refine ⟨P, [], by rw [unhide HPP], by simp, by simpa using hA, hide (by simp), hbw⟩
      case round =>
        clear hA hbw
        obtain ⟨A, C, rfl, hPC, hA, HC, hbx⟩ := hrel
        have hAk : A.length + C.length = k := by rw [← unhide HPP, ← hPC, List.length_append]
        rcases nil_or_snoc A with rfl | ⟨A', a, rfl⟩
        · simp only [List.length_nil] at hAk
          rw [List.nil_append] at hPC hA
          have HG2 : Hid (Good (x :: C) (l.take (k + 1))) := hide (by
            rw [unhide HTK]
            have hg := unhide HGG
            rw [← hPC] at hg
            exact good_insert (A := []) hg (unhide HC) (by simp))
          have hz : ¬ ((0 : Int) > 0) := by omega
          have HAA := hide hA; have HHK := hide hAk
          have HBX := hide (fun w2 (hw2 : Below wr.heap.size wr w2) => ext_callP hbx hw2 (Nat.le_of_lt hA.lt))
          clear HC hPC hA hAk hbx
          go_wp2_with fail
          refine wp_region_below wr (Below.refl _ _) (by kernel_rfl) (by kernel_rfl) ?_
          repeat (
            refine Quietly.step (fun K hK => ?_)
            go_simp
            first
              | (refine hK _ ?_; clear hK K)
              | (apply Exists.intro
                 refine ⟨fun w1 hw1 => ?_, hK _ ?_⟩
                 (first | rfl | (fail))
                 clear hK K))
          refine Quietly.nil ?_
          intro w2 hw2
          go_wp2
          go_roundw
          case rel => exact ⟨k + 1, x :: C, by omega, by omega, by go_num, by rw [unhide HTT]; exact (unhide HAA).below hw2, by rw [List.length_cons]; have := unhide HHK; omega, unhide HG2, unhide HBX _ hw2⟩
          case measure => simp [intOf]; omega
        · have eA : (A' ++ [a]).length = A'.length + 1 := by simp
          rw [eA] at hAk ⊢
          have hA2 : ARow wr g (A' ++ a :: x :: (C ++ T)) := by simpa using hA
          have n1 := fun w => order_any x a w
          have hlt2 := cmpOf_lt (rankOf x) (rankOf a)
          obtain ⟨p0, p1, p2, p3⟩ := hA2.cell A'.length a (by rw [List.getElem?_append_right (Nat.le_refl _)]; simp)
          obtain ⟨q0, q1, q2, q3⟩ := hA2.cell (A'.length + 1) x (by rw [List.getElem?_append_right (by omega)]; simp)
          have hS : ∀ w', Below wr.heap.size wr w' → w'.cell? ⟨g, A'.length * 4, none⟩ = some (.string a.name) ∧ w'.cell? ⟨g, A'.length * 4 + 1, none⟩ = some (.string a.label) ∧ w'.cell? ⟨g, A'.length * 4 + 2, none⟩ = some (.int .i64 a.prio) ∧ w'.cell? ⟨g, A'.length * 4 + 3, none⟩ = some (.bool a.confirm) ∧ w'.cell? ⟨g, (A'.length + 1) * 4, none⟩ = some (.string x.name) ∧ w'.cell? ⟨g, (A'.length + 1) * 4 + 1, none⟩ = some (.string x.label) ∧ w'.cell? ⟨g, (A'.length + 1) * 4 + 2, none⟩ = some (.int .i64 x.prio) ∧ w'.cell? ⟨g, (A'.length + 1) * 4 + 3, none⟩ = some (.bool x.confirm) := fun w' hb =>
            ⟨(hb.cell hA2.lt).trans p0, (hb.cell hA2.lt).trans p1, (hb.cell hA2.lt).trans p2, (hb.cell hA2.lt).trans p3, (hb.cell hA2.lt).trans q0, (hb.cell hA2.lt).trans q1, (hb.cell hA2.lt).trans q2, (hb.cell hA2.lt).trans q3⟩
          have HSW := hide hA2
          have HPC := hide hPC
          clear eA
          generalize hn : A'.length = n at hS hAk ⊢
          generalize hmm : n + 1 = m at hS hAk ⊢
          have HN := hide hn; have HM := hide hmm
          have hw1 : IntKind.i64.wrap ((m : Int) - 1) = (n : Int) := by rw [wraps_i64 _ (by omega) (by omega)]; omega
          have hm0 : decide (0 < m) = true := decide_eq_true (by omega)
          have hml : (m : Int) < (l.length : Int) := by omega
          have hnl : (n : Int) < (l.length : Int) := by omega
          clear hn hmm p0 p1 p2 p3 q0 q1 q2 q3 hPC
          unfold valApp at n1
          generalize hcm : cmpOf (rankOf x) (rankOf a) = cm at *
          have N1 := hide n1
          have hq := (Below.refl wr.heap.size wr).drew
          clear n1 hcm
          go_wp2_with fail
          go_region_held3 (fun w' => w'.cell? ⟨g, n * 4, none⟩ = some (.string a.name) ∧ w'.cell? ⟨g, n * 4 + 1, none⟩ = some (.string a.label) ∧ w'.cell? ⟨g, n * 4 + 2, none⟩ = some (.int .i64 a.prio) ∧ w'.cell? ⟨g, n * 4 + 3, none⟩ = some (.bool a.confirm) ∧ w'.cell? ⟨g, m * 4, none⟩ = some (.string x.name) ∧ w'.cell? ⟨g, m * 4 + 1, none⟩ = some (.string x.label) ∧ w'.cell? ⟨g, m * 4 + 2, none⟩ = some (.int .i64 x.prio) ∧ w'.cell? ⟨g, m * 4 + 3, none⟩ = some (.bool x.confirm))
            (first
              | exact hs2
              | exact hS _ hq)
            ((first
              | (go_at_call 29; refine (unhide N1 _).mono ?_; rintro e y2 ⟨rfl, hy2⟩; have hq2 := hq.trans (hy2.mono hq.size); have hs2 := hS _ hq2)))
          by_cases hrk : rankOf x < rankOf a
          · rw [decide_eq_true hrk] at hlt2
            have hAy : ARow y2 g (A' ++ a :: x :: (C ++ T)) := (unhide HSW).below hq2
            have f0 := hAy.frozen (n * 4); have f1 := hAy.frozen (n * 4 + 1); have f2 := hAy.frozen (n * 4 + 2); have f3 := hAy.frozen (n * 4 + 3)
            have f4 := hAy.frozen (m * 4); have f5 := hAy.frozen (m * 4 + 1); have f6 := hAy.frozen (m * 4 + 2); have f7 := hAy.frozen (m * 4 + 3)
            obtain ⟨b0, b1, b2, b3, b4, b5, b6, b7⟩ := hs2
            have HAY := hide hAy
            have HBY := hide (ext_callP hbx hq2 (Nat.le_of_lt hA.lt))
            have hnm : (n : Int) < (m : Int) := by have := unhide HM; omega
            clear hAy hA hbx hS hq hy2 hq2 N1 HSW
            go_wp2_with fail
            go_region
            have hsw := (unhide HAY).swap
            have hsb := swapA_below (w := y2) (n := n) (a := a) (x := x) g (Nat.le_refl g)
            rw [unhide HN] at hsw
            unfold swapA at hsw hsb
            rw [unhide HM] at hsw hsb
            have HSW2 := hide hsw; have HSB2 := hide hsb
            clear hsw hsb
            go_wp2
            go_roundw
            case rel =>
              refine ⟨A', a :: C, by rw [unhide HN], by rw [← unhide HPC]; simp, (unhide HSW2).drew, hide (fun c hc => ?_), ((unhide HBY).trans (unhide HSB2)).drew⟩
              rcases List.mem_cons.1 hc with rfl | hc
              · exact hrk
              · exact unhide HC c hc
            case measure => simp [intOf]; have := unhide HM; omega
          · rw [decide_eq_false hrk] at hlt2
            have HG2 : Hid (Good (A' ++ [a] ++ x :: C) (l.take (k + 1))) := hide (by
              rw [unhide HTK]
              have hg := unhide HGG
              rw [← unhide HPC] at hg
              exact good_insert (A := A' ++ [a]) hg (unhide HC) (fun b hb => by
                obtain rfl : a = b := by simpa using hb
                omega))
            have hAy : ARow y2 g (A' ++ [a] ++ x :: (C ++ T)) := hA.below hq2
            have HAY := hide hAy
            have HBY := hide (ext_callP hbx hq2 (Nat.le_of_lt hA.lt))
            have hcl : (A' ++ [a] ++ x :: C).length = k + 1 := by
              have := unhide HPP
              rw [← unhide HPC] at this
              simp only [List.length_append, List.length_cons, List.length_nil] at this ⊢
              omega
            have HCL := hide hcl
            clear hAy hA hbx hS hq hy2 hq2 N1 HSW hcl hs2
            go_wp2
            go_roundw
            case rel => exact ⟨k + 1, A' ++ [a] ++ x :: C, by omega, by omega, by go_num, by have := unhide HAY; rw [unhide HTT, List.append_assoc (A' ++ [a]), List.cons_append]; exact this, unhide HCL, unhide HG2, unhide HBY⟩
            case measure => simp [intOf]; omega
    · have hkl' : k = l.length := by omega
      rw [hkl', List.drop_length, List.append_nil] at hA
      rw [hkl', List.take_length] at hG
      have HA := hide hA; have HG := hide hG
      clear hA hG hkl'
      go_wp2
      go_end0
      exact ⟨rfl, ⟨P, unhide HA, by omega, unhide HG⟩, hbw⟩
end Go.Proofs.Ytlnoilfnpgogbae
