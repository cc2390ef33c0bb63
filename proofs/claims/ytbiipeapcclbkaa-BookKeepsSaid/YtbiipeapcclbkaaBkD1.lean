/- The document's book: Waiting. -/
import Derived.Test.YtbiipeapcclbkaaBkV
namespace Go.Proofs.Ytbiipeapcclbkaa
open Go.RowKit Go.Shelf
set_option linter.unusedVariables false
set_option linter.unusedSimpArgs false
set_option maxRecDepth 100000

def cellsE (x : Nat × En × Nat) : List Value := [.int .i64 (x.1 : Int), .int .i64 x.2.1.what, .int .i64 x.2.1.how, .string x.2.1.text]
theorem cellsE_len (x : Nat × En × Nat) : (cellsE x).length = 4 := rfl
section
variable {w w' : World} {B : Nat} {rv : Value} {L : List En}
set_option maxHeartbeats 4000000 in
theorem rwaiting_any (h : OwnR w B 60 4 cellsE rv (plsL L)) (hlen : L.length ≤ 100000) (cs : Int) : Calls Try.prog 20 #[.agg #[.int .i64 cs, rv]] w fun r w' => (∃ u, r = .returned u ∧ OwnR w' w.heap.size 3 1 cellsI u (waitF 0 L)) ∧ Below w.heap.size w w' := by
  obtain ⟨i0, hi, hz0, hz1, hz2⟩ := info_partsB infoI
  obtain ⟨⟨ao, cap, hv⟩, hfm⟩ := h.form
  have hli : (L.length : Int) ≤ 100000 := by omega
  have HH := hide h
  have HV := hide hv; have HFM := hide hfm
  have HI := hide hi; have Z0 := hide hz0; have Z1 := hide hz1; have Z2 := hide hz2
  rw [hv, plsL_len]
  have HBX := hide ((Below.refl w.heap.size w).alloc (Nat.le_refl _) (.cells #[.int .i64 cs, .slice ao L.length cap] 33))
  clear h hv hfm hi hz0 hz1 hz2
  go_enter Try.func20, Try.ntmps20
  go_wp2
  go_loopw [3, 9] (fun uv iv wx => ∃ i : Nat, i ≤ L.length ∧ iv = .int .i64 (i : Int) ∧ OwnR wx w.heap.size 3 1 cellsI uv (waitF 0 (L.take i)) ∧ Below w.heap.size w wx) (fun _ iv _ => L.length - (intOf iv).toNat)
  case atStart => exact ⟨0, Nat.zero_le _, rfl, OwnR.nil _ _ _ _ _, unhide HBX⟩
  case round =>
    obtain ⟨i, hi, rfl, hO, hbw⟩ := hrel
    by_cases hlt : i < L.length
    · obtain ⟨e, he⟩ : ∃ e, L[i]? = some e := ⟨_, List.getElem?_eq_getElem hlt⟩
      rcases unhide HFM with hn | ⟨g, cap', hv2, hgB, hgl⟩
      · have := congrArg List.length hn
        rw [plsL_len, List.length_nil] at this
        omega
      have hcell := fun (j : Nat) (hj : j < 4) => (show wr.cell? ⟨g, i * 4 + j, none⟩ = (cellsE (i + 1, e, posL (L.take i)))[j]? from by
        have h2 := unhide HH
        rw [hv2] at h2
        exact (hbw.cell (p := ⟨g, i * 4 + j, none⟩) hgl).trans (h2.cell cellsE_len i _ (plsL_get he) j hj))
      have a0 := hcell 0 (by omega); have a1 := hcell 1 (by omega); have a2 := hcell 2 (by omega); have a3 := hcell 3 (by omega)
      simp only [cellsE, List.getElem?_cons_zero, List.getElem?_cons_succ, Nat.add_zero] at a0 a1 a2 a3
      obtain rfl : ao = some ⟨g, 0, none⟩ := by have := (unhide HV).symm.trans hv2; injection this
      have hwt := waitF_take he
      have hwl : (waitF 0 (L.take i)).length ≤ 100000 := Nat.le_trans (waitF_len _ _) (by rw [List.length_take]; omega)
      have hii : (i : Int) < (L.length : Int) := by omega
      obtain ⟨wh, hw, tx⟩ := e
      dsimp only at a0 a1 a2 a3 hwt
      have hO1 := hO.alloc (.cells #[.int .i64 ((i + 1 : Nat) : Int), .int .i64 wh, .int .i64 hw, .string tx] 60)
      have hB1 := hbw.alloc hbw.size (.cells #[.int .i64 ((i + 1 : Nat) : Int), .int .i64 wh, .int .i64 hw, .string tx] 60)
      have HO1 := hide hO1; have HB1 := hide hB1; have HWT := hide hwt; have HWL := hide hwl
      clear hcell he hwt hwl hO hO1 hB1 hbw
      by_cases h0 : hw = 0
      · subst h0
        rw [if_pos rfl] at HWT
        go_wp2_with (at_builtin; refine wpList_append_own _ rfl _ _ 67 rfl w.heap.size 3 i0 (.int .i64 0) 1 8 Try.underlying67 (unhide HI) (unhide Z0) (unhide Z1) (unhide Z2) rfl (by decide) _ _ _ rfl ((unhide HO1).alloc _) ⟨wr.heap.size + 1, 0, none⟩ 1 1 [.int .i64 ((i : Int) + 1)] rfl rfl ?c1 ?c2 ?c3 ?c4 ?c5 ?_)
        case c1 =>
          have := World.news_of_block (heap_alloc_new (wr.alloc (.cells #[.int .i64 ((i + 1 : Nat) : Int), .int .i64 wh, .int .i64 0, .string tx] 60)) (.cells #[.int .i64 ((i : Int) + 1)] 3))
          rw [show (wr.alloc (.cells #[.int .i64 ((i + 1 : Nat) : Int), .int .i64 wh, .int .i64 0, .string tx] 60)).heap.size = wr.heap.size + 1 by simp] at this
          exact this
        case c2 => intro u hu; simp at hu; subst hu; rfl
        case c3 => have := unhide HWL; unfold maxLen; omega
        case c4 => have := unhide HWL; omega
        case c5 => have := (unhide HB1).size; simp at this ⊢; omega
        intro v5 w5 hown5 hgrow5 _
        have ho5 : OwnR w5 w.heap.size 3 1 cellsI v5 (waitF 0 (L.take i) ++ [(i : Int) + 1]) := OwnR.snoc ((i : Int) + 1) hown5
        rw [← unhide HWT] at ho5
        have hb5 : Below w.heap.size w w5 := ((unhide HB1).alloc (unhide HB1).size (.cells #[.int .i64 ((i : Int) + 1)] 3)).grown hgrow5 (by have := (unhide HB1).size; simp at this ⊢; omega) (fun j hj => by have := ((unhide HO1).lt j hj).1; omega)
        have HO5 := hide ho5; have HB5 := hide hb5
        clear ho5 hb5 hown5 hgrow5
        go_wp2
        go_roundw
        case rel => exact ⟨i + 1, by omega, by go_num, unhide HO5, unhide HB5⟩
        case measure => simp [intOf]; omega
      · have hwb : (hw == 0) = false := by simpa using h0
        rw [if_neg h0, List.append_nil] at HWT
        clear h0
        go_wp2
        go_roundw
        case rel => exact ⟨i + 1, by omega, by go_num, by rw [unhide HWT]; exact unhide HO1, unhide HB1⟩
        case measure => simp [intOf]; omega
    · have hii : ¬ (i : Int) < (L.length : Int) := by omega
      rw [List.take_of_length_le (by omega)] at hO
      have HO := hide hO; have HB := hide hbw
      clear hO hbw
      go_wp2
      go_ret
      exact ⟨⟨_, rfl, unhide HO⟩, unhide HB⟩
end
end Go.Proofs.Ytbiipeapcclbkaa
