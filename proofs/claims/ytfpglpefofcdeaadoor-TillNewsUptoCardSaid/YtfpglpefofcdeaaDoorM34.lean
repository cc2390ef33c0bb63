/- parts of the program's talk: number, print. -/
import Derived.Test.YtfpglpefofcdeaaDoorM33
import Derived.Test.YtfpglpefofcdeaaDoorM07
namespace Go.Proofs.YtfpglpefofcdeaaDoor
open Go.RowKit
set_option linter.unusedVariables false

set_option maxHeartbeats 1000000 in
theorem pnumber_any (b : Nat) (ls : List (Int × ByteArray)) (er t n k : Int) (w : World) (h : Parts w b ls er) (hl : ls.length ≤ 20) (hn : n ≤ 9223372036854775807) :
    Calls Tryd.prog 42 #[.pointer (some ⟨b, 0, none⟩), .int .i64 t, .int .i64 n, .int .i64 k] w fun e w' => e = .returned (.tuple #[]) ∧ Parts w' b (ls ++ [(t, numS n k)]) (if er = 0 then numE n k else er) ∧ Below b w w' := by
  have n1 := fun w => number_all n k w hn
  have hlt := h.lt
  have H := hide h
  have n2 := fun (w : World) (h : Parts w b ls er) => blame_any b ls er (numE n k) w h
  have n3 := fun (w : World) (h : Parts w b ls (if er = 0 then numE n k else er)) => text_any b ls (if er = 0 then numE n k else er) t (numS n k) w h hl
  generalize (if er = 0 then numE n k else er) = er2 at *
  generalize numS n k = s at *
  generalize numE n k = ne at *
  have N1 := hide n1; have N2 := hide n2; have N3 := hide n3
  clear n1 n2 n3 h hn
  go_enter Tryd.func42, Tryd.ntmps42
  go_wp2_with fail
  refine (unhide N1 _).mono ?_
  rintro e w1 ⟨rfl, hb1⟩
  have h1 := (unhide H).below hb1
  have hb1' : Below b w w1 := hb1.mono (Nat.le_of_lt hlt)
  have H1 := hide h1; have HB := hide hb1'
  clear h1 hb1 hb1'
  go_wp2_with fail
  refine (unhide N2 _ (unhide H1)).mono ?_
  rintro e w2 ⟨rfl, h2, hb2⟩
  have H2 := hide h2; have HB2 := hide ((unhide HB).trans hb2)
  clear h2 hb2
  go_wp2_with fail
  refine (unhide N3 _ (unhide H2)).mono ?_
  rintro e w3 ⟨rfl, h3, hb3⟩
  have H3 := hide h3; have HB3 := hide ((unhide HB2).trans hb3)
  clear h3 hb3
  go_wp2
  go_end0
  exact ⟨rfl, unhide H3, unhide HB3⟩

/-- a text with its tag, as an item; one item of such -/
def leafI (x : Int × ByteArray) : It := .mk x.1 x.2 []
def nodeI (t : Int) (ls : List (Int × ByteArray)) : It := .mk t ⟨#[]⟩ (ls.map leafI)
/-- how much texts hold -/
def wtL (ls : List (Int × ByteArray)) : Nat := (ls.map fun x => 1 + x.2.size).sum
theorem wt_node (t : Int) (ls : List (Int × ByteArray)) : wt 2 [nodeI t ls] = 1 + wtL ls := by
  have h : ∀ ls : List (Int × ByteArray), ((ls.map leafI).map fun x => 1 + x.text.size + wt 0 x.list).sum = wtL ls := fun ls => by
    unfold wtL
    rw [List.map_map]
    rfl
  show ([nodeI t ls].map fun x => 1 + x.text.size + wt 1 x.list).sum = _
  simp only [List.map_cons, List.map_nil, List.sum_cons, List.sum_nil]
  have e : (nodeI t ls).text.size = 0 := rfl
  have e2 : wt 1 (nodeI t ls).list = wtL ls := h ls
  rw [e, e2]
  omega
def okL (ls : List (Int × ByteArray)) : Prop := ∀ x ∈ ls, x.1 ≤ 9223372036854775807 ∧ x.2.size ≤ maxLen
theorem leaf_row {w : World} {ls : List (Int × ByteArray)} {B : Nat} {v : Value} (ho : w.ownsRow B 123 3 v ls.length (leavesC ls)) (hk : okL ls) :
    ∃ ao cap, v = .slice ao ls.length cap ∧ ls.length ≤ cap ∧ IRow w 1 ao (ls.map leafI) := by
  rcases ho.2 with ⟨h1, h2⟩ | ⟨g, cap, cur, h1, hB, hh, hle, hm, hsz, htk⟩
  · have h0 : ls = [] := List.length_eq_zero_iff.1 h2
    subst h0
    exact ⟨none, 0, h1, Nat.le_refl _, .inl rfl⟩
  · refine ⟨_, cap, h1, hle, .inr ⟨g, 0, rfl, block_ltQ hh, fun i y hy => ?_⟩⟩
    rw [List.getElem?_map] at hy
    cases hx : ls[i]? with
    | none => rw [hx] at hy; cases hy
    | some x =>
      rw [hx] at hy
      obtain rfl : leafI x = y := Option.some.inj hy
      have hi : i < ls.length := by
        rcases Nat.lt_or_ge i ls.length with h | h
        · exact h
        · rw [List.getElem?_eq_none h] at hx; cases hx
      obtain ⟨a, b, c⟩ := leavesC_at ls i x hx
      obtain ⟨k1, k2⟩ := hk x (List.mem_of_getElem? hx)
      rw [← htk, List.getElem?_take_of_lt (by omega)] at a b c
      refine ⟨none, 0, ?_, ?_, ?_, Nat.le_refl _, rfl, k1, k2⟩
      · rw [Nat.zero_add, cell_of_row _ _ _ _ _ _ hh, ← Array.getElem?_toList, a]; rfl
      · rw [Nat.zero_add, cell_of_row _ _ _ _ _ _ hh, ← Array.getElem?_toList, b]; rfl
      · rw [Nat.zero_add, cell_of_row _ _ _ _ _ _ hh, ← Array.getElem?_toList, c]; rfl
theorem node_row {w : World} {ao : Option Addr} {cap : Nat} {ls : List (Int × ByteArray)} {t : Int} (hr : IRow w 1 ao (ls.map leafI)) (hc : ls.length ≤ cap) (ht : t ≤ 9223372036854775807) :
    IRow (w.alloc (.cells #[.int .i64 t, .string ⟨#[]⟩, .slice ao ls.length cap] 123)) 2 (some ⟨w.heap.size, 0, none⟩) [nodeI t ls] := by
  have hh := heap_alloc_new w (.cells #[.int .i64 t, .string ⟨#[]⟩, .slice ao ls.length cap] 123)
  refine .inr ⟨w.heap.size, 0, rfl, by simp, fun i y hy => ?_⟩
  match i, hy with
  | 0, hy =>
    obtain rfl : nodeI t ls = y := by simpa using hy
    refine ⟨ao, cap, by rw [cell_of_row _ _ _ _ _ _ hh]; rfl, by rw [cell_of_row _ _ _ _ _ _ hh]; rfl, ?_, ?_, ?_, ht, Nat.zero_le _⟩
    · rw [cell_of_row _ _ _ _ _ _ hh]
      simp [nodeI, It.list]
    · simpa [nodeI, It.list] using hc
    · exact IRow.below ((Below.refl _ _).alloc (Nat.le_refl _) _) 1 hr
  | i + 1, hy => simp at hy
theorem ret_pairT {s t : ByteArray} {a b : Int} (h1 : s = t) (h2 : a = b) : Ending.returned (.tuple #[.string s, .int .i64 a]) = .returned (.tuple #[.string t, .int .i64 b]) := by rw [h1, h2]
/-- what print answers -/
def tellE (t : Int) (ls : List (Int × ByteArray)) (er : Int) : Int := if er = 0 then printsE (measD 2 [nodeI t ls]) else er
def tellS (t : Int) (ls : List (Int × ByteArray)) (er : Int) : ByteArray := if er = 0 then printsS 2 [nodeI t ls] else ⟨#[]⟩
set_option maxRecDepth 100000 in
set_option maxHeartbeats 1000000 in
theorem tprint_any (b : Nat) (ls : List (Int × ByteArray)) (er t : Int) (w : World) (h : Parts w b ls er) (hl : ls.length ≤ 20) (hk : okL ls) (ht : t ≤ 9223372036854775807) (hw : wtL ls ≤ 2097000) :
    Calls Tryd.prog 46 #[.pointer (some ⟨b, 0, none⟩), .int .i64 t] w fun e w' => e = .returned (.tuple #[.string (tellS t ls er), .int .i64 (tellE t ls er)]) ∧ Below w.heap.size w w' := by
  obtain ⟨v, hh, ho⟩ := h
  obtain ⟨ao, cap, rfl, hcap, hrow⟩ := leaf_row ho hk
  have c0 : w.cell? ⟨b, 0, none⟩ = some (.slice ao ls.length cap) := cell_of_row _ _ 0 _ _ _ hh
  have c1 : w.cell? ⟨b, 1, none⟩ = some (.int .i64 er) := cell_of_row _ _ 1 _ _ _ hh
  by_cases he : er = 0
  · have hS : tellS t ls er = printsS 2 [nodeI t ls] := by unfold tellS; rw [if_pos he]
    have hE : tellE t ls er = printsE (measD 2 [nodeI t ls]) := by unfold tellE; rw [if_pos he]
    have n1 := print_any 2 [nodeI t ls] (some ⟨w.heap.size, 0, none⟩) 1 _ (node_row (t := t) hrow hcap ht) (by rw [wt_node]; omega) (by omega)
    rw [← hS, ← hE] at n1
    generalize tellS t ls er = ts at *
    generalize tellE t ls er = te at *
    subst he
    have N1 := hide n1
    clear n1 hS hE hh ho hrow hk hw
    go_enter Tryd.func46, Tryd.ntmps46
    go_wp2_with fail
    refine (unhide N1).mono ?_
    rintro e w1 ⟨rfl, hb1⟩
    have hB := ((Below.refl w.heap.size w).alloc (Nat.le_refl _) (.cells #[.int .i64 t, .string ⟨#[]⟩, .slice ao ls.length cap] 123)).trans (hb1.mono (by simp))
    have HB := hide hB
    clear hb1 hB
    go_wp2
    go_ret2
    exact ⟨rfl, unhide HB⟩
  · have hS : tellS t ls er = ⟨#[]⟩ := by unfold tellS; rw [if_neg he]
    have hE : tellE t ls er = er := by unfold tellE; rw [if_neg he]
    rw [hS, hE]
    have t1 : (er != 0) = true := by simpa using he
    clear hS hE hh ho hrow hk hw he
    go_enter Tryd.func46, Tryd.ntmps46
    go_wp2_with fail
    go_region
    all_goals
      go_wp2
      go_ret2
      exact ⟨rfl, (Below.refl _ _).drew⟩
end Go.Proofs.YtfpglpefofcdeaaDoor
