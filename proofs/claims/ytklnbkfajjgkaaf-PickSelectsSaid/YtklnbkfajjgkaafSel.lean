/- Select, of the program and of the document's own. -/
import Derived.Test.YtklnbkfajjgkaafLow0
import Derived.Test.YtklnbkfajjgkaafShA
namespace Go.Proofs.Ytklnbkfajjgkaaf
open Go.RowKit
set_option linter.unusedVariables false

def noApp : XApp := ⟨⟨#[]⟩, ⟨#[]⟩, 0, false⟩
/-- which is used, how many answers were taken, what is wrong -/
def selL (ans : List Bool) : List XApp → Nat → XApp × Nat × Int
  | [], t => (noApp, t, 5)
  | a :: r, t => bif a.confirm then (if t = ans.length then (noApp, t, 7) else bif ans.getD t false then (a, t + 1, 0) else selL ans r (t + 1)) else (a, t, 0)
theorem selL_step (ans : List Bool) (a : XApp) (r : List XApp) (t : Nat) : selL ans (a :: r) t = bif a.confirm then (if t = ans.length then (noApp, t, 7) else bif ans.getD t false then (a, t + 1, 0) else selL ans r (t + 1)) else (a, t, 0) := rfl
theorem dropS_step {α : Type} (l : List α) (k : Nat) (y : α) (h : l[k]? = some y) : l.drop k = y :: l.drop (k + 1) := by
  obtain ⟨hk, rfl⟩ := List.getElem?_eq_some_iff.1 h
  exact List.drop_eq_getElem_cons hk

/-- an application in a block of its own -/
def AAt (w : World) (g : Nat) (a : XApp) : Prop := w.heap[g]? = some (.cells #[.string a.name, .string a.label, .int .i64 a.prio, .bool a.confirm] 25)
theorem block_ltA {w : World} {g : Nat} {o : Obj} (h : w.heap[g]? = some o) : g < w.heap.size := by
  rcases Nat.lt_or_ge g w.heap.size with h1 | h1
  · exact h1
  · rw [Array.getElem?_eq_none h1] at h
    cases h
theorem AAt.below {w w' : World} {g : Nat} {a : XApp} (h : AAt w g a) (hb : Below w.heap.size w w') : AAt w' g a := (hb.block g (block_ltA h)).trans h
theorem AAt.cells {w : World} {g : Nat} {a : XApp} (h : AAt w g a) : w.cell? ⟨g, 0, none⟩ = some (.string a.name) ∧ w.cell? ⟨g, 1, none⟩ = some (.string a.label) ∧ w.cell? ⟨g, 2, none⟩ = some (.int .i64 a.prio) ∧ w.cell? ⟨g, 3, none⟩ = some (.bool a.confirm) :=
  ⟨cell_of_row _ _ _ _ _ _ h, cell_of_row _ _ _ _ _ _ h, cell_of_row _ _ _ _ _ _ h, cell_of_row _ _ _ _ _ _ h⟩
theorem AAt.thaw {w : World} {g : Nat} {a : XApp} (h : AAt w g a) (j : Nat) : w.frozen? ⟨g, j, none⟩ = false := frozen_of_row w g j _ _ h
theorem AAt.write {w : World} {g : Nat} {a b : XApp} (h : AAt w g a) : AAt ((((w.setCell ⟨g, 0, none⟩ (.string b.name)).setCell ⟨g, 1, none⟩ (.string b.label)).setCell ⟨g, 2, none⟩ (.int .i64 b.prio)).setCell ⟨g, 3, none⟩ (.bool b.confirm)) g b := by
  unfold AAt at *
  simp [World.setCell, Array.getElem?_modify, h]

set_option maxHeartbeats 4000000 in
theorem select_any (l : List XApp) (ao : Option Addr) (cap : Nat) (ans : List Bool) (bo : Option Addr) (cap2 : Nat) (w : World) (hl : RowApp w ao l) (ha : Rowbool w bo ans) :
    Calls Try.prog 9 #[.slice ao l.length cap, .slice bo ans.length cap2] w fun e w' => e = .returned (.tuple #[valApp (selL ans l 0).1, .int .i64 ((selL ans l 0).2.1 : Nat), .int .i64 (selL ans l 0).2.2]) ∧ Below w.heap.size w w' := by
  have hbx : Below w.heap.size w (w.alloc (Obj.cells #[.string ⟨#[]⟩, .string ⟨#[]⟩, .int .i64 0, .bool false] 25)) := (Below.refl _ _).alloc (Nat.le_refl _) _
  have hat : AAt (w.alloc (Obj.cells #[.string ⟨#[]⟩, .string ⟨#[]⟩, .int .i64 0, .bool false] 25)) w.heap.size noApp := by
    show (w.heap.push _)[w.heap.size]? = _
    simp [noApp]
  have hlm : (l.length : Int) ≤ 9223372036854775807 := by have := hl.2.2; simp [maxLen] at this; omega
  have ham : (ans.length : Int) ≤ 9223372036854775807 := by have := ha.2.2; simp [maxLen] at this; omega
  have HL := hide hl; have HA := hide ha
  clear hl ha
  unfold valApp
  go_enter Try.func9, Try.ntmps9
  go_wp2
  go_loopw [7, 12] (fun tv iv wr => ∃ k t : Nat, k ≤ l.length ∧ t ≤ ans.length ∧ iv = .int .i64 k ∧ tv = .int .i64 t ∧ Hid (selL ans (l.drop k) t = selL ans l 0) ∧ AAt wr w.heap.size noApp ∧ Below w.heap.size w wr) (fun _ i _ => l.length - (intOf i).toNat)
  case atStart => exact ⟨0, 0, Nat.zero_le _, Nat.zero_le _, rfl, rfl, hide rfl, hat, hbx⟩
  case round =>
    obtain ⟨k, t, hk, ht, rfl, rfl, HE, hat', hbw⟩ := hrel
    by_cases hlt : k < l.length
    · obtain ⟨x, hx⟩ : ∃ x, l[k]? = some x := ⟨_, List.getElem?_eq_getElem hlt⟩
      have hE := unhide HE
      rw [dropS_step l k x hx, selL_step] at hE
      obtain ⟨hrr, _, _⟩ := (unhide HL).below hbw
      rcases hrr with hnil | ⟨b, off, rfl, hb, hc⟩
      · rw [hnil] at hlt; simp at hlt
      obtain ⟨d0, d1, d2, d3⟩ := hc k x hx
      obtain ⟨hra, _, _⟩ := (unhide HA).below hbw
      have hal : Below wr.heap.size wr (wr.alloc (Obj.cells #[.string x.name, .string x.label, .int .i64 x.prio, .bool x.confirm] 25)) := (Below.refl _ _).alloc (Nat.le_refl _) _
      have hat1 := hat'.below hal
      have hb1 := hbw.trans (hal.mono hbw.size)
      obtain ⟨e0, e1, e2, e3⟩ := hat'.cells
      have t0 := hat'.thaw 0; have t1 := hat'.thaw 1; have t2 := hat'.thaw 2; have t3 := hat'.thaw 3
      have hz : w.heap.size < wr.heap.size := block_ltA hat'
      have HK := hide hat'
      have HBE := hide hbw
      have HK1 := hide hat1
      have HBE1 := hide hb1
      clear hc hx HE hat1 hb1 hal hat' hbw
      cases hcf : x.confirm with
      | false =>
        rw [hcf] at hE d3
        simp only [cond_false] at hE
        have HE := hide hE
        clear hE hra HK1 HBE1
        have HX : Hid (x = ⟨x.name, x.label, x.prio, false⟩) := hide (by cases x; simp at hcf; rw [hcf])
        clear hcf
        go_wp2_with fail
        obtain ⟨z0, z1, z2, z3⟩ := (((unhide HK).write (b := ⟨x.name, x.label, x.prio, false⟩)).below ((Below.refl _ _).alloc (Nat.le_refl _) (Obj.cells #[.string x.name, .string x.label, .int .i64 x.prio, .bool false] 25))).cells
        simp only at z0 z1 z2 z3
        exact bodyPost_ret (v := .tuple #[.agg #[.string x.name, .string x.label, .int .i64 x.prio, .bool false], .int .i64 t, .int .i64 0]) (by simp [results, Try.results9, go_sem, z0, z1, z2, z3]) rfl ⟨by rw [← unhide HE]; simp only; rw [unhide HX], ((((((unhide HBE).setCell (Nat.le_refl _) _).setCell (Nat.le_refl _) _).setCell (Nat.le_refl _) _).setCell (Nat.le_refl _) _).alloc (((((unhide HBE).setCell (Nat.le_refl _) _).setCell (Nat.le_refl _) _).setCell (Nat.le_refl _) _).setCell (Nat.le_refl _) _).size _)⟩
      | true =>
        rw [hcf] at hE d3
        simp only [cond_true] at hE
        rw [hcf] at HK1 HBE1
        have HX : Hid (x = ⟨x.name, x.label, x.prio, true⟩) := hide (by cases x; simp at hcf; rw [hcf])
        clear hcf
        by_cases hta : t = ans.length
        · rw [if_pos hta] at hE
          have HE := hide hE
          have hta' : ((t : Int) == (ans.length : Int)) = true := by simp [hta]
          have HT := hide hta
          clear hE hra hta
          go_wp2_with fail
          obtain ⟨z0, z1, z2, z3⟩ := (((unhide HK).write (b := noApp)).below ((Below.refl _ _).alloc (Nat.le_refl _) (Obj.cells #[.string x.name, .string x.label, .int .i64 x.prio, .bool true] 25))).cells
          simp only [noApp] at z0 z1 z2 z3
          exact bodyPost_ret (v := .tuple #[.agg #[.string ⟨#[]⟩, .string ⟨#[]⟩, .int .i64 0, .bool false], .int .i64 t, .int .i64 7]) (by simp [results, Try.results9, go_sem, z0, z1, z2, z3]) rfl ⟨by rw [← unhide HE]; rfl, ((((((unhide HBE).setCell (Nat.le_refl _) _).setCell (Nat.le_refl _) _).setCell (Nat.le_refl _) _).setCell (Nat.le_refl _) _).alloc (((((unhide HBE).setCell (Nat.le_refl _) _).setCell (Nat.le_refl _) _).setCell (Nat.le_refl _) _).setCell (Nat.le_refl _) _).size _)⟩
        · rw [if_neg hta] at hE
          have htl : t < ans.length := by omega
          obtain ⟨y, hy⟩ : ∃ y, ans[t]? = some y := ⟨_, List.getElem?_eq_getElem htl⟩
          have hyd : ans.getD t false = y := by simp [hy]
          rw [hyd] at hE
          rcases hra with hnil | ⟨b2, off2, rfl, hb2, hc2⟩
          · rw [hnil] at htl; simp at htl
          have q0 := hc2 t y hy
          have hta' : ((t : Int) == (ans.length : Int)) = false := by simp; omega
          have hw1 : IntKind.i64.wrap ((t : Int) + 1) = (t : Int) + 1 := wraps_i64 _ (by omega) (by omega)
          clear hc2 hy hyd hta
          cases y with
          | true =>
            simp only [cond_true] at hE
            have HE := hide hE
            clear hE
            go_wp2_with fail
            obtain ⟨z0, z1, z2, z3⟩ := (((unhide HK).write (b := ⟨x.name, x.label, x.prio, true⟩)).below ((Below.refl _ _).alloc (Nat.le_refl _) (Obj.cells #[.string x.name, .string x.label, .int .i64 x.prio, .bool true] 25))).cells
            simp only at z0 z1 z2 z3
            exact bodyPost_ret (v := .tuple #[.agg #[.string x.name, .string x.label, .int .i64 x.prio, .bool true], .int .i64 ((t : Int) + 1), .int .i64 0]) (by simp [results, Try.results9, go_sem, z0, z1, z2, z3]) rfl ⟨by rw [← unhide HE]; simp only; rw [unhide HX]; rfl, ((((((unhide HBE).setCell (Nat.le_refl _) _).setCell (Nat.le_refl _) _).setCell (Nat.le_refl _) _).setCell (Nat.le_refl _) _).alloc (((((unhide HBE).setCell (Nat.le_refl _) _).setCell (Nat.le_refl _) _).setCell (Nat.le_refl _) _).setCell (Nat.le_refl _) _).size _)⟩
          | false =>
            simp only [cond_false] at hE
            have HE := hide hE
            clear hE
            go_wp2_with fail
            go_roundw
            case rel => exact ⟨k + 1, t + 1, by omega, by omega, by go_num, by go_num, HE, unhide HK1, unhide HBE1⟩
            case measure => simp [intOf]; omega
    · have hkl : k = l.length := by omega
      have hE := unhide HE
      rw [hkl, List.drop_length] at hE
      have HE2 := hide (show (noApp, t, (5 : Int)) = _ from hE)
      obtain ⟨e0, e1, e2, e3⟩ := hat'.cells
      have t0 := hat'.thaw 0; have t1 := hat'.thaw 1; have t2 := hat'.thaw 2; have t3 := hat'.thaw 3
      have HK := hide hat'
      have HBE := hide hbw
      clear hE HE hat' hkl hbw
      go_wp2_with fail
      obtain ⟨z0, z1, z2, z3⟩ := ((unhide HK).write (b := noApp)).cells
      simp only [noApp] at z0 z1 z2 z3
      exact bodyPost_ret (v := .tuple #[.agg #[.string ⟨#[]⟩, .string ⟨#[]⟩, .int .i64 0, .bool false], .int .i64 t, .int .i64 5]) (by simp [results, Try.results9, go_sem, z0, z1, z2, z3]) rfl ⟨by rw [← unhide HE2]; rfl, (((((unhide HBE).setCell (Nat.le_refl _) _).setCell (Nat.le_refl _) _).setCell (Nat.le_refl _) _).setCell (Nat.le_refl _) _)⟩

set_option maxHeartbeats 4000000 in
theorem rselect_any (l : List XApp) (ao : Option Addr) (cap : Nat) (ans : List Bool) (bo : Option Addr) (cap2 : Nat) (w : World) (hl : RowApp w ao l) (ha : Rowbool w bo ans) :
    Calls Try.prog 10 #[.slice ao l.length cap, .slice bo ans.length cap2] w fun e w' => e = .returned (.tuple #[valApp (selL ans l 0).1, .int .i64 ((selL ans l 0).2.1 : Nat), .int .i64 (selL ans l 0).2.2]) ∧ Below w.heap.size w w' := by
  have hbx : Below w.heap.size w (w.alloc (Obj.cells #[.string ⟨#[]⟩, .string ⟨#[]⟩, .int .i64 0, .bool false] 25)) := (Below.refl _ _).alloc (Nat.le_refl _) _
  have hat : AAt (w.alloc (Obj.cells #[.string ⟨#[]⟩, .string ⟨#[]⟩, .int .i64 0, .bool false] 25)) w.heap.size noApp := by
    show (w.heap.push _)[w.heap.size]? = _
    simp [noApp]
  have hlm : (l.length : Int) ≤ 9223372036854775807 := by have := hl.2.2; simp [maxLen] at this; omega
  have ham : (ans.length : Int) ≤ 9223372036854775807 := by have := ha.2.2; simp [maxLen] at this; omega
  have HL := hide hl; have HA := hide ha
  clear hl ha
  unfold valApp
  go_enter Try.func10, Try.ntmps10
  go_wp2
  go_loopw [7, 13] (fun tv iv wr => ∃ k t : Nat, k ≤ l.length ∧ t ≤ ans.length ∧ iv = .int .i64 k ∧ tv = .int .i64 t ∧ Hid (selL ans (l.drop k) t = selL ans l 0) ∧ AAt wr w.heap.size noApp ∧ Below w.heap.size w wr) (fun _ i _ => l.length - (intOf i).toNat)
  case atStart => exact ⟨0, 0, Nat.zero_le _, Nat.zero_le _, rfl, rfl, hide rfl, hat, hbx⟩
  case round =>
    obtain ⟨k, t, hk, ht, rfl, rfl, HE, hat', hbw⟩ := hrel
    by_cases hlt : k < l.length
    · obtain ⟨x, hx⟩ : ∃ x, l[k]? = some x := ⟨_, List.getElem?_eq_getElem hlt⟩
      have hE := unhide HE
      rw [dropS_step l k x hx, selL_step] at hE
      obtain ⟨hrr, _, _⟩ := (unhide HL).below hbw
      rcases hrr with hnil | ⟨b, off, rfl, hb, hc⟩
      · rw [hnil] at hlt; simp at hlt
      obtain ⟨d0, d1, d2, d3⟩ := hc k x hx
      obtain ⟨hra, _, _⟩ := (unhide HA).below hbw
      have hal : Below wr.heap.size wr (wr.alloc (Obj.cells #[.string x.name, .string x.label, .int .i64 x.prio, .bool x.confirm] 25)) := (Below.refl _ _).alloc (Nat.le_refl _) _
      have hat1 := hat'.below hal
      have hb1 := hbw.trans (hal.mono hbw.size)
      obtain ⟨e0, e1, e2, e3⟩ := hat'.cells
      have t0 := hat'.thaw 0; have t1 := hat'.thaw 1; have t2 := hat'.thaw 2; have t3 := hat'.thaw 3
      have hz : w.heap.size < wr.heap.size := block_ltA hat'
      have HK := hide hat'
      have HBE := hide hbw
      have HK1 := hide hat1
      have HBE1 := hide hb1
      clear hc hx HE hat1 hb1 hal hat' hbw
      cases hcf : x.confirm with
      | false =>
        rw [hcf] at hE d3
        simp only [cond_false] at hE
        have HE := hide hE
        clear hE hra HK1 HBE1
        have HX : Hid (x = ⟨x.name, x.label, x.prio, false⟩) := hide (by cases x; simp at hcf; rw [hcf])
        clear hcf
        go_wp2_with fail
        obtain ⟨z0, z1, z2, z3⟩ := (((unhide HK).write (b := ⟨x.name, x.label, x.prio, false⟩)).below ((Below.refl _ _).alloc (Nat.le_refl _) (Obj.cells #[.string x.name, .string x.label, .int .i64 x.prio, .bool false] 25))).cells
        simp only at z0 z1 z2 z3
        exact bodyPost_ret (v := .tuple #[.agg #[.string x.name, .string x.label, .int .i64 x.prio, .bool false], .int .i64 t, .int .i64 0]) (by simp [results, Try.results10, go_sem, z0, z1, z2, z3]) rfl ⟨by rw [← unhide HE]; simp only; rw [unhide HX], ((((((unhide HBE).setCell (Nat.le_refl _) _).setCell (Nat.le_refl _) _).setCell (Nat.le_refl _) _).setCell (Nat.le_refl _) _).alloc (((((unhide HBE).setCell (Nat.le_refl _) _).setCell (Nat.le_refl _) _).setCell (Nat.le_refl _) _).setCell (Nat.le_refl _) _).size _)⟩
      | true =>
        rw [hcf] at hE d3
        simp only [cond_true] at hE
        rw [hcf] at HK1 HBE1
        have HX : Hid (x = ⟨x.name, x.label, x.prio, true⟩) := hide (by cases x; simp at hcf; rw [hcf])
        clear hcf
        by_cases hta : t = ans.length
        · rw [if_pos hta] at hE
          have HE := hide hE
          have hta' : ((t : Int) == (ans.length : Int)) = true := by simp [hta]
          have HT := hide hta
          clear hE hra hta
          go_wp2_with fail
          obtain ⟨z0, z1, z2, z3⟩ := (((unhide HK).write (b := noApp)).below ((Below.refl _ _).alloc (Nat.le_refl _) (Obj.cells #[.string x.name, .string x.label, .int .i64 x.prio, .bool true] 25))).cells
          simp only [noApp] at z0 z1 z2 z3
          exact bodyPost_ret (v := .tuple #[.agg #[.string ⟨#[]⟩, .string ⟨#[]⟩, .int .i64 0, .bool false], .int .i64 t, .int .i64 7]) (by simp [results, Try.results10, go_sem, z0, z1, z2, z3]) rfl ⟨by rw [← unhide HE]; rfl, ((((((unhide HBE).setCell (Nat.le_refl _) _).setCell (Nat.le_refl _) _).setCell (Nat.le_refl _) _).setCell (Nat.le_refl _) _).alloc (((((unhide HBE).setCell (Nat.le_refl _) _).setCell (Nat.le_refl _) _).setCell (Nat.le_refl _) _).setCell (Nat.le_refl _) _).size _)⟩
        · rw [if_neg hta] at hE
          have htl : t < ans.length := by omega
          obtain ⟨y, hy⟩ : ∃ y, ans[t]? = some y := ⟨_, List.getElem?_eq_getElem htl⟩
          have hyd : ans.getD t false = y := by simp [hy]
          rw [hyd] at hE
          rcases hra with hnil | ⟨b2, off2, rfl, hb2, hc2⟩
          · rw [hnil] at htl; simp at htl
          have q0 := hc2 t y hy
          have hta' : ((t : Int) == (ans.length : Int)) = false := by simp; omega
          have hw1 : IntKind.i64.wrap ((t : Int) + 1) = (t : Int) + 1 := wraps_i64 _ (by omega) (by omega)
          clear hc2 hy hyd hta
          cases y with
          | true =>
            simp only [cond_true] at hE
            have HE := hide hE
            clear hE
            go_wp2_with fail
            obtain ⟨z0, z1, z2, z3⟩ := (((unhide HK).write (b := ⟨x.name, x.label, x.prio, true⟩)).below ((Below.refl _ _).alloc (Nat.le_refl _) (Obj.cells #[.string x.name, .string x.label, .int .i64 x.prio, .bool true] 25))).cells
            simp only at z0 z1 z2 z3
            exact bodyPost_ret (v := .tuple #[.agg #[.string x.name, .string x.label, .int .i64 x.prio, .bool true], .int .i64 ((t : Int) + 1), .int .i64 0]) (by simp [results, Try.results10, go_sem, z0, z1, z2, z3]) rfl ⟨by rw [← unhide HE]; simp only; rw [unhide HX]; rfl, ((((((unhide HBE).setCell (Nat.le_refl _) _).setCell (Nat.le_refl _) _).setCell (Nat.le_refl _) _).setCell (Nat.le_refl _) _).alloc (((((unhide HBE).setCell (Nat.le_refl _) _).setCell (Nat.le_refl _) _).setCell (Nat.le_refl _) _).setCell (Nat.le_refl _) _).size _)⟩
          | false =>
            simp only [cond_false] at hE
            have HE := hide hE
            clear hE
            go_wp2_with fail
            go_roundw
            case rel => exact ⟨k + 1, t + 1, by omega, by omega, by go_num, by go_num, HE, unhide HK1, unhide HBE1⟩
            case measure => simp [intOf]; omega
    · have hkl : k = l.length := by omega
      have hE := unhide HE
      rw [hkl, List.drop_length] at hE
      have HE2 := hide (show (noApp, t, (5 : Int)) = _ from hE)
      obtain ⟨e0, e1, e2, e3⟩ := hat'.cells
      have t0 := hat'.thaw 0; have t1 := hat'.thaw 1; have t2 := hat'.thaw 2; have t3 := hat'.thaw 3
      have HK := hide hat'
      have HBE := hide hbw
      clear hE HE hat' hkl hbw
      go_wp2_with fail
      obtain ⟨z0, z1, z2, z3⟩ := ((unhide HK).write (b := noApp)).cells
      simp only [noApp] at z0 z1 z2 z3
      exact bodyPost_ret (v := .tuple #[.agg #[.string ⟨#[]⟩, .string ⟨#[]⟩, .int .i64 0, .bool false], .int .i64 t, .int .i64 5]) (by simp [results, Try.results10, go_sem, z0, z1, z2, z3]) rfl ⟨by rw [← unhide HE2]; rfl, (((((unhide HBE).setCell (Nat.le_refl _) _).setCell (Nat.le_refl _) _).setCell (Nat.le_refl _) _).setCell (Nat.le_refl _) _)⟩
end Go.Proofs.Ytklnbkfajjgkaaf
