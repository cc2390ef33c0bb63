/- What a shop knows: what is wrong with it; the map of it. -/
import Derived.Test.YtlnoilfnpgogbaePChk2
namespace Go.Proofs.Ytlnoilfnpgogbae
open Go.RowKit Go.WideMaps Go.Maps
set_option linter.unusedVariables false

theorem kno_any (x : XKnown) (w : World) :
    Calls Try.prog 40 #[valKnown x] w fun e w' => e = .returned (.bool (knoB x)) ∧ Below w.heap.size w w' := by
  obtain ⟨nm, pt⟩ := x
  have he := empty_iff nm
  have hbx := fun o : Obj => (Below.refl w.heap.size w).alloc (Nat.le_refl _) o
  have HB := hide hbx
  clear hbx
  unfold valKnown
  simp only
  by_cases h1 : nm.size = 0
  · have HM : Hid (knoB ⟨nm, pt⟩ = true) := hide (decide_eq_true (.inl h1))
    rw [decide_eq_true h1] at he
    have H1 := hide h1
    clear h1
    go_enter Try.func40, Try.ntmps40
    go_wp2
    go_ret
    exact ⟨ret_bool (unhide HM).symm, unhide HB _⟩
  · have HM : Hid (knoB ⟨nm, pt⟩ = decide (16 < nm.size)) := hide (decide_eq_decide.2 (by show (nm.size = 0 ∨ 16 < nm.size) ↔ 16 < nm.size; omega))
    rw [decide_eq_false h1] at he
    have H1 := hide h1
    clear h1
    go_enter Try.func40, Try.ntmps40
    go_wp2
    go_ret
    exact ⟨ret_bool (by rw [unhide HM, Bool.eq_iff_iff]; simp; try omega), unhide HB _⟩

set_option maxHeartbeats 1000000 in
theorem indexkno_any (l : List XKnown) (ao : Option Addr) (cap : Nat) (w : World) (hr : RowKnown w ao l) :
    Calls Try.prog 50 #[.slice ao l.length cap, .func (.func 40) #[] #[]] w fun e w' => (∃ v : Int, e = .returned (.int .i64 v) ∧ decide (0 ≤ v) = l.any knoB) ∧ Below w.heap.size w w' := by
  obtain ⟨hr, _, hm⟩ := hr
  go_enter Try.func50, Try.ntmps50
  go_wp2
  go_loopw [8] (fun i wr => ∃ k : Nat, k ≤ l.length ∧ i = .int .i64 k ∧ Hid ((l.take k).any knoB = false) ∧ Below w.heap.size w wr) (fun i _ => l.length - (intOf i).toNat)
  case atStart => exact ⟨0, Nat.zero_le _, rfl, hide (by simp), Below.refl _ _⟩
  case round =>
    obtain ⟨k, hk, rfl, HA, hbw⟩ := hrel
    by_cases hlt : k < l.length
    · obtain ⟨y, hy⟩ : ∃ y, l[k]? = some y := ⟨_, List.getElem?_eq_getElem hlt⟩
      rcases hr with hnil | ⟨b, off, rfl, hb, hc⟩
      · rw [hnil] at hlt; simp at hlt
      obtain ⟨c0, c1⟩ := hc k y hy
      have d0 : wr.cell? ⟨b, off + k * 2, none⟩ = _ := (hbw.cell (p := ⟨b, off + k * 2, none⟩) hb).trans c0
      have d1 : wr.cell? ⟨b, off + k * 2 + 1, none⟩ = _ := (hbw.cell (p := ⟨b, off + k * 2 + 1, none⟩) hb).trans c1
      have hs := anyP_take_succ l knoB k y hy
      rw [unhide HA, Bool.false_or] at hs
      have hml : l.length ≤ 9223372036854775807 := by simpa [maxLen] using hm
      have n1 := kno_any y wr
      clear hc hm c0 c1
      unfold valKnown at n1
      cases he : knoB y with
      | true =>
        have HF := hide (anyP_of_take l knoB (k + 1) (hs.trans he))
        rw [he] at n1
        have N1 := hide n1
        clear hs hy n1 he
        go_wp2_with fail
        refine (unhide N1).mono ?_
        rintro e w1 ⟨rfl, hb1⟩
        go_wp2
        go_ret
        exact ⟨⟨_, rfl, by rw [unhide HF]; simp⟩, hbw.trans (hb1.mono hbw.size)⟩
      | false =>
        have HS : Hid ((l.take (k + 1)).any knoB = false) := hide (hs.trans he)
        rw [he] at n1
        have N1 := hide n1
        clear hs hy n1 he
        go_wp2_with fail
        refine (unhide N1).mono ?_
        rintro e w1 ⟨rfl, hb1⟩
        go_wp2
        go_roundw
        case rel => exact ⟨k + 1, by omega, by go_num, HS, hbw.trans (hb1.mono hbw.size)⟩
        case measure => simp [intOf]; omega
    · have HF : Hid (l.any knoB = false) := hide (by have := unhide HA; rw [List.take_of_length_le (by omega)] at this; exact this)
      go_wp2
      go_ret
      exact ⟨⟨_, rfl, by rw [unhide HF]; rfl⟩, hbw⟩
theorem containskno_any (l : List XKnown) (ao : Option Addr) (cap : Nat) (w : World) (hr : RowKnown w ao l) :
    Calls Try.prog 39 #[.slice ao l.length cap, .func (.func 40) #[] #[]] w fun e w' => e = .returned (.bool (l.any knoB)) ∧ Below w.heap.size w w' := by
  have N1 := hide (indexkno_any l ao cap w hr)
  clear hr
  generalize l.any knoB = q at *
  go_enter Try.func39, Try.ntmps39
  go_wp2_with fail
  refine (unhide N1).mono ?_
  rintro e w1 ⟨⟨v, rfl, hv⟩, hb1⟩
  have HV := hide hv
  clear hv
  go_wp2
  go_ret
  exact ⟨ret_bool (unhide HV), hb1⟩


def knownE (l : List XKnown) : Int := if 50 < l.length then 2 else bif l.any knoB then 1 else 0
theorem checkKnown_any (l : List XKnown) (ao : Option Addr) (cap : Nat) (w : World) (hr : RowKnown w ao l) :
    Calls Try.prog 26 #[.slice ao l.length cap] w fun e w' => e = .returned (.int .i64 (knownE l)) ∧ Below w.heap.size w w' := by
  have n1 := containskno_any l ao cap w hr
  clear hr
  by_cases hl : 50 < l.length
  · have HE : Hid (knownE l = 2) := hide (by rw [knownE, if_pos hl])
    clear n1
    go_enter Try.func26, Try.ntmps26
    go_wp2
    go_ret
    exact ⟨ret_int (unhide HE).symm, Below.refl _ _⟩
  · have HE : Hid (knownE l = bif l.any knoB then 1 else 0) := hide (by rw [knownE, if_neg hl])
    generalize l.any knoB = q at *
    have N1 := hide n1
    clear n1
    cases q <;>
    · go_enter Try.func26, Try.ntmps26
      go_wp2_with fail
      refine (unhide N1).mono ?_
      rintro e w1 ⟨rfl, hb1⟩
      go_wp2
      go_ret
      exact ⟨ret_int (unhide HE).symm, hb1⟩

def howOf (x : XKnown) : Int := bif x.part then 2 else 1
/-- how a name is known: 0: not, 1: as a whole, 2: as a beginning -/
def kvTo (l : List XKnown) (y : List UInt8) : Nat → Int
  | 0 => 0
  | k + 1 => match l[k]? with
    | none => kvTo l y k
    | some x => if x.name.data.toList = y then (if howOf x > kvTo l y k then howOf x else kvTo l y k) else kvTo l y k
theorem kvTo_step (l : List XKnown) (y : List UInt8) (k : Nat) (x : XKnown) (h : l[k]? = some x) : kvTo l y (k + 1) = if x.name.data.toList = y then (if howOf x > kvTo l y k then howOf x else kvTo l y k) else kvTo l y k := by
  rw [kvTo, h]
theorem kvTo_bounds (l : List XKnown) (y : List UInt8) (k : Nat) : 0 ≤ kvTo l y k ∧ kvTo l y k ≤ 2 := by
  induction k with
  | zero => simp [kvTo]
  | succ k ih =>
    rw [kvTo]
    split
    · exact ih
    · rename_i x _
      have hh : 1 ≤ howOf x ∧ howOf x ≤ 2 := by unfold howOf; cases x.part <;> simp
      split
      · split <;> omega
      · exact ih
/-- a map in a variable of its own -/
def MBox (w : World) (g gm : Nat) : Prop := w.heap[g]? = some (.cells #[.map (some gm)] 70)
theorem block_ltP {w : World} {g : Nat} {o : Obj} (h : w.heap[g]? = some o) : g < w.heap.size := by
  rcases Nat.lt_or_ge g w.heap.size with h1 | h1
  · exact h1
  · rw [Array.getElem?_eq_none h1] at h
    cases h
/-- what the map reads as -/
def Reads (D : DataW Unit) (f : List UInt8 → Int) : Prop := ∀ y, D.atKey (.string y) (.lit (.int .i64 0)) = .lit (.int .i64 (f y))

set_option maxRecDepth 100000 in
set_option maxHeartbeats 2000000 in
theorem knowledge_any (l : List XKnown) (ao : Option Addr) (cap : Nat) (w : World) (hl : RowKnown w ao l) (h50 : l.length ≤ 50) :
    Calls Try.prog 27 #[.slice ao l.length cap] w fun e w' => (∃ (D : DataW Unit) (gb gm : Nat), e = .returned (.func (.func 41) #[] #[.pointer (some ⟨gb, 0, none⟩)]) ∧ MBox w' gb gm ∧ w'.ownsMap Try.prog 9 (plainElem Try.prog 3) gm 50 D ∧ Reads D (fun y => kvTo l y l.length)) ∧ Below w.heap.size w w' := by
  have hmm := @run_makeMap Try.prog
  have hst : ∀ (m : Option Nat) (a : Addr) (md : Mode) (wx : World), (store a (.map m) md).run Try.prog wx = stored Try.prog wx a (.map m) md := fun m a md wx => run_store _ wx a _ md rfl
  have HL := hide hl
  clear hl
  go_enter Try.func27, Try.ntmps27
  go_wp2
  go_loopw [10] (fun i wr => ∃ (k : Nat) (D : DataW Unit), k ≤ l.length ∧ i = .int .i64 k ∧ MBox wr (w.heap.size + 1) w.heap.size ∧ wr.ownsMap Try.prog 9 (plainElem Try.prog 3) w.heap.size k D ∧ Hid (Reads D (fun y => kvTo l y k)) ∧ Below w.heap.size w wr) (fun i _ => l.length - (intOf i).toNat)
  case atStart => exact ⟨0, .map [], Nat.zero_le _, rfl, by show ((w.heap.push _).push _)[w.heap.size + 1]? = _; rw [Array.getElem?_push, if_pos (by simp)], (World.ownsMap_made _ _ _ _).alloc _, hide (fun y => rfl), ((Below.refl _ _).alloc (Nat.le_refl _) _).alloc (by simp) _⟩
  case round =>
    obtain ⟨k, D, hk, rfl, hmb, hown, HD, hnx⟩ := hrel
    by_cases hlt : k < l.length
    · obtain ⟨x, hx⟩ : ∃ x, l[k]? = some x := ⟨_, List.getElem?_eq_getElem hlt⟩
      obtain ⟨hrr, hok, _⟩ := (unhide HL).below hnx
      have hxs : x.name.size ≤ maxLen := hok x (List.mem_of_getElem? hx)
      rcases hrr with hnil | ⟨b, off, rfl, hb, hc⟩
      · rw [hnil] at hlt; simp at hlt
      obtain ⟨d0, d1⟩ := hc k x hx
      have hkey : keyOf Try.prog 9 (.string x.name) = some (.string x.name.data.toList) := keyOf_string_mk Try.underlying9 hxs
      have hal : Below wr.heap.size wr (wr.alloc (Obj.cells #[.string x.name, .bool x.part] 37)) := (Below.refl _ _).alloc (Nat.le_refl _) _
      have hown2 := hown.alloc (Obj.cells #[.string x.name, .bool x.part] 37)
      have hmb2 : MBox (wr.alloc (Obj.cells #[.string x.name, .bool x.part] 37)) (w.heap.size + 1) w.heap.size := (hal.block _ (block_ltP hmb)).trans hmb
      obtain ⟨c, hrun, hat, hwc⟩ := hown2.lookup_int lawS Try.underlying70 Try.underlying3 (zeroI _) hkey
      have hcv : c = kvTo l x.name.data.toList k := by
        have := hat.symm.trans (unhide HD x.name.data.toList)
        injection this with h; injection h
      have hcb : 0 ≤ c ∧ c ≤ 2 := by rw [hcv]; exact kvTo_bounds _ _ _
      have hnx2 := hnx.alloc hnx.size (Obj.cells #[.string x.name, .bool x.part] 37)
      have c0 : wr.cell? ⟨w.heap.size + 1, 0, none⟩ = some (.map (some w.heap.size)) := cell_of_row _ _ _ _ _ _ hmb
      have hz1 : w.heap.size + 1 < wr.heap.size := block_ltP hmb
      have HX := hide hx; have HCV := hide hcv; have HCB := hide hcb; have HM2 := hide hmb2
      have htidy := hown2.tidy lawS
      clear hc hx hok hat hcv hcb hmb hmb2 hal hwc
      cases hpt : x.part with
      | true =>
        have HPT := hide hpt
        rw [hpt] at hown2 hrun d1 hnx2 HM2
        clear hpt
        by_cases hq : 2 > c
        · have HQ := hide hq
          have hwf : (Lit.int .i64 2).wf = true := by
            decide
          go_wp2_with (first
            | (at_mapUpdate; refine wpList_mapUpdate_own _ rfl _ _ _ 70 rfl 9 3 lawS Try.underlying70 _ w.heap.size k _ rfl hown2 (by unfold maxLen; omega) _ _ _ rfl rfl hkey _ [] (plainElem_int Try.underlying3 hwf) ?_))
          intro w2 hown3 hgrow
          have R1 : Hid (Reads (D.put (.string x.name.data.toList) (.lit (.int .i64 2))) (fun y => kvTo l y (k + 1))) := hide (fun y => by
            dsimp only
            rw [kvTo_step l y k x (unhide HX)]
            by_cases hy : x.name.data.toList = y
            · subst hy
              rw [atKey_put_same htidy.isMap (by trivial), if_pos rfl, ← unhide HCV, show howOf x = 2 by unfold howOf; rw [unhide HPT]; rfl, if_pos (unhide HQ)]
            · rw [atKey_put_other (by intro h; exact hy (by injection h with h; exact h.symm)), if_neg hy]
              exact unhide HD y)
          have R2 := hnx2.grown hgrow hnx2.size (fun j hj => by cases hj; exact Nat.le_refl _)
          have R3 : MBox w2 (w.heap.size + 1) w.heap.size := (hgrow.block _ (by have := block_ltP (unhide HM2); simpa using this) (by simp)).trans (unhide HM2)
          clear hgrow hrun HD htidy d0 d1 hown hnx hnx2 hown2 c0 hwf
          go_wp2
          go_roundw
          case rel => exact ⟨k + 1, _, by omega, by go_num, R3, hown3, R1, R2⟩
          case measure => simp [intOf]; omega
        · have HQ := hide hq
          have hwf : (Lit.int .i64 c).wf = true := by
            have := unhide HCB
            simp [Lit.wf, IntKind.min, IntKind.max, IntKind.signed, IntKind.bits] <;> omega
          go_wp2_with (first
            | (at_mapUpdate; refine wpList_mapUpdate_own _ rfl _ _ _ 70 rfl 9 3 lawS Try.underlying70 _ w.heap.size k _ rfl hown2 (by unfold maxLen; omega) _ _ _ rfl rfl hkey _ [] (plainElem_int Try.underlying3 hwf) ?_))
          intro w2 hown3 hgrow
          have R1 : Hid (Reads (D.put (.string x.name.data.toList) (.lit (.int .i64 c))) (fun y => kvTo l y (k + 1))) := hide (fun y => by
            dsimp only
            rw [kvTo_step l y k x (unhide HX)]
            by_cases hy : x.name.data.toList = y
            · subst hy
              rw [atKey_put_same htidy.isMap (by trivial), if_pos rfl, ← unhide HCV, show howOf x = 2 by unfold howOf; rw [unhide HPT]; rfl, if_neg (show ¬ (2 : Int) > c by have := unhide HQ; omega)]
            · rw [atKey_put_other (by intro h; exact hy (by injection h with h; exact h.symm)), if_neg hy]
              exact unhide HD y)
          have R2 := hnx2.grown hgrow hnx2.size (fun j hj => by cases hj; exact Nat.le_refl _)
          have R3 : MBox w2 (w.heap.size + 1) w.heap.size := (hgrow.block _ (by have := block_ltP (unhide HM2); simpa using this) (by simp)).trans (unhide HM2)
          clear hgrow hrun HD htidy d0 d1 hown hnx hnx2 hown2 c0 hwf
          go_wp2
          go_roundw
          case rel => exact ⟨k + 1, _, by omega, by go_num, R3, hown3, R1, R2⟩
          case measure => simp [intOf]; omega
      | false =>
        have HPT := hide hpt
        rw [hpt] at hown2 hrun d1 hnx2 HM2
        clear hpt
        by_cases hq : 1 > c
        · have HQ := hide hq
          have hwf : (Lit.int .i64 1).wf = true := by
            decide
          go_wp2_with (first
            | (at_mapUpdate; refine wpList_mapUpdate_own _ rfl _ _ _ 70 rfl 9 3 lawS Try.underlying70 _ w.heap.size k _ rfl hown2 (by unfold maxLen; omega) _ _ _ rfl rfl hkey _ [] (plainElem_int Try.underlying3 hwf) ?_))
          intro w2 hown3 hgrow
          have R1 : Hid (Reads (D.put (.string x.name.data.toList) (.lit (.int .i64 1))) (fun y => kvTo l y (k + 1))) := hide (fun y => by
            dsimp only
            rw [kvTo_step l y k x (unhide HX)]
            by_cases hy : x.name.data.toList = y
            · subst hy
              rw [atKey_put_same htidy.isMap (by trivial), if_pos rfl, ← unhide HCV, show howOf x = 1 by unfold howOf; rw [unhide HPT]; rfl, if_pos (unhide HQ)]
            · rw [atKey_put_other (by intro h; exact hy (by injection h with h; exact h.symm)), if_neg hy]
              exact unhide HD y)
          have R2 := hnx2.grown hgrow hnx2.size (fun j hj => by cases hj; exact Nat.le_refl _)
          have R3 : MBox w2 (w.heap.size + 1) w.heap.size := (hgrow.block _ (by have := block_ltP (unhide HM2); simpa using this) (by simp)).trans (unhide HM2)
          clear hgrow hrun HD htidy d0 d1 hown hnx hnx2 hown2 c0 hwf
          go_wp2
          go_roundw
          case rel => exact ⟨k + 1, _, by omega, by go_num, R3, hown3, R1, R2⟩
          case measure => simp [intOf]; omega
        · have HQ := hide hq
          have hwf : (Lit.int .i64 c).wf = true := by
            have := unhide HCB
            simp [Lit.wf, IntKind.min, IntKind.max, IntKind.signed, IntKind.bits] <;> omega
          go_wp2_with (first
            | (at_mapUpdate; refine wpList_mapUpdate_own _ rfl _ _ _ 70 rfl 9 3 lawS Try.underlying70 _ w.heap.size k _ rfl hown2 (by unfold maxLen; omega) _ _ _ rfl rfl hkey _ [] (plainElem_int Try.underlying3 hwf) ?_))
          intro w2 hown3 hgrow
          have R1 : Hid (Reads (D.put (.string x.name.data.toList) (.lit (.int .i64 c))) (fun y => kvTo l y (k + 1))) := hide (fun y => by
            dsimp only
            rw [kvTo_step l y k x (unhide HX)]
            by_cases hy : x.name.data.toList = y
            · subst hy
              rw [atKey_put_same htidy.isMap (by trivial), if_pos rfl, ← unhide HCV, show howOf x = 1 by unfold howOf; rw [unhide HPT]; rfl, if_neg (show ¬ (1 : Int) > c by have := unhide HQ; omega)]
            · rw [atKey_put_other (by intro h; exact hy (by injection h with h; exact h.symm)), if_neg hy]
              exact unhide HD y)
          have R2 := hnx2.grown hgrow hnx2.size (fun j hj => by cases hj; exact Nat.le_refl _)
          have R3 : MBox w2 (w.heap.size + 1) w.heap.size := (hgrow.block _ (by have := block_ltP (unhide HM2); simpa using this) (by simp)).trans (unhide HM2)
          clear hgrow hrun HD htidy d0 d1 hown hnx hnx2 hown2 c0 hwf
          go_wp2
          go_roundw
          case rel => exact ⟨k + 1, _, by omega, by go_num, R3, hown3, R1, R2⟩
          case measure => simp [intOf]; omega
    · have hkl : k = l.length := by omega
      have HR1 := hide (show Reads D (fun y => kvTo l y l.length) by rw [← hkl]; exact unhide HD)
      have HM2 := hide hmb
      have HO := hide (hown.mono (show k ≤ 50 by omega))
      clear HD hown hmb
      go_wp2
      go_ret
      exact ⟨⟨D, w.heap.size + 1, w.heap.size, rfl, unhide HM2, unhide HO, unhide HR1⟩, hnx⟩
end Go.Proofs.Ytlnoilfnpgogbae
