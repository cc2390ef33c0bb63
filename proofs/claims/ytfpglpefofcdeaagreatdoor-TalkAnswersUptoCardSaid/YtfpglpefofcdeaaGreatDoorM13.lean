/- parts of the program's talk: number, print. -/
import Derived.Test.YtfpglpefofcdeaaGreatDoorM12
import Derived.Test.YtfpglpefofcdeaaGreatDoorM01
namespace Go.Proofs.YtfpglpefofcdeaaGreatDoor
open Go.RowKit
set_option linter.unusedVariables false

set_option maxHeartbeats 1000000 in
theorem pnumber_any (b : Nat) (ls : List (Int × ByteArray)) (er t n k : Int) (w : World) (h : Parts w b ls er) (hl : ls.length ≤ 20) (hn : n ≤ 9223372036854775807) :
    Calls Tryz.prog 15 #[.pointer (some ⟨b, 0, none⟩), .int .i64 t, .int .i64 n, .int .i64 k] w fun e w' => e = .returned (.tuple #[]) ∧ Parts w' b (ls ++ [(t, numS n k)]) (if er = 0 then numE n k else er) ∧ Below b w w' := by
  have n1 := fun w => number_all n k w hn
  have hlt := h.lt
  have H := hide h
  have n2 := fun (w : World) (h : Parts w b ls er) => blame_any b ls er (numE n k) w h
  have n3 := fun (w : World) (h : Parts w b ls (if er = 0 then numE n k else er)) => text_any b ls (if er = 0 then numE n k else er) t (numS n k) w h hl
  generalize (if er = 0 then numE n k else er) = er2 at *
  generalize numS n k = s at *
  generalize numE n k = ne at *
  have N1 := hide n1; have N2 := hide n2; have N3 := hide n3
  clear n1 n2 n3 h hn
  go_enter Tryz.func15, Tryz.ntmps15
  go_wp2_with fail
  refine (unhide N1 _).mono ?_
  rintro e w1 ⟨rfl, hb1⟩
  have h1 := (unhide H).below hb1
  have hb1' : Below b w w1 := hb1.mono (Nat.le_of_lt hlt)
  have H1 := hide h1; have HB := hide hb1'
  clear h1 hb1 hb1'
  go_wp2_with fail
  refine (unhide N2 _ (unhide H1)).mono ?_
  rintro e w2 ⟨rfl, h2, hb2⟩
  have H2 := hide h2; have HB2 := hide ((unhide HB).trans hb2)
  clear h2 hb2
  go_wp2_with fail
  refine (unhide N3 _ (unhide H2)).mono ?_
  rintro e w3 ⟨rfl, h3, hb3⟩
  have H3 := hide h3; have HB3 := hide ((unhide HB2).trans hb3)
  clear h3 hb3
  go_wp2
  go_end0
  exact ⟨rfl, unhide H3, unhide HB3⟩

/-- a text with its tag, as an item; one item of such -/
def leafI (x : Int × ByteArray) : It := .mk x.1 x.2 []
def nodeI (t : Int) (ls : List (Int × ByteArray)) : It := .mk t ⟨#[]⟩ (ls.map leafI)
/-- how much texts hold -/
def wtL (ls : List (Int × ByteArray)) : Nat := (ls.map fun x => 1 + x.2.size).sum
theorem wt_node (t : Int) (ls : List (Int × ByteArray)) : wt 2 [nodeI t ls] = 1 + wtL ls := by
  have h : ∀ ls : List (Int × ByteArray), ((ls.map leafI).map fun x => 1 + x.text.size + wt 0 x.list).sum = wtL ls := fun ls => by
    unfold wtL
    rw [List.map_map]
    rfl
  show ([nodeI t ls].map fun x => 1 + x.text.size + wt 1 x.list).sum = _
  simp only [List.map_cons, List.map_nil, List.sum_cons, List.sum_nil]
  have e : (nodeI t ls).text.size = 0 := rfl
  have e2 : wt 1 (nodeI t ls).list = wtL ls := h ls
  rw [e, e2]
  omega
def okL (ls : List (Int × ByteArray)) : Prop := ∀ x ∈ ls, x.1 ≤ 9223372036854775807 ∧ x.2.size ≤ maxLen
theorem leaf_row {w : World} {ls : List (Int × ByteArray)} {B : Nat} {v : Value} (ho : w.ownsRow B 101 3 v ls.length (leavesC ls)) (hk : okL ls) :
    ∃ ao cap, v = .slice ao ls.length cap ∧ ls.length ≤ cap ∧ IRow w 1 ao (ls.map leafI) := by
  rcases ho.2 with ⟨h1, h2⟩ | ⟨g, cap, cur, h1, hB, hh, hle, hm, hsz, htk⟩
  · have h0 : ls = [] := List.length_eq_zero_iff.1 h2
    subst h0
    exact ⟨none, 0, h1, Nat.le_refl _, .inl rfl⟩
  · refine ⟨_, cap, h1, hle, .inr ⟨g, 0, rfl, block_ltQ hh, fun i y hy => ?_⟩⟩
    rw [List.getElem?_map] at hy
    cases hx : ls[i]? with
    | none => rw [hx] at hy; cases hy
    | some x =>
      rw [hx] at hy
      obtain rfl : leafI x = y := Option.some.inj hy
      have hi : i < ls.length := by
        rcases Nat.lt_or_ge i ls.length with h | h
        · exact h
        · rw [List.getElem?_eq_none h] at hx; cases hx
      obtain ⟨a, b, c⟩ := leavesC_at ls i x hx
      obtain ⟨k1, k2⟩ := hk x (List.mem_of_getElem? hx)
      rw [← htk, List.getElem?_take_of_lt (by omega)] at a b c
      refine ⟨none, 0, ?_, ?_, ?_, Nat.le_refl _, rfl, k1, k2⟩
      · rw [Nat.zero_add, cell_of_row _ _ _ _ _ _ hh, ← Array.getElem?_toList, a]; rfl
      · rw [Nat.zero_add, cell_of_row _ _ _ _ _ _ hh, ← Array.getElem?_toList, b]; rfl
      · rw [Nat.zero_add, cell_of_row _ _ _ _ _ _ hh, ← Array.getElem?_toList, c]; rfl
theorem node_row {w : World} {ao : Option Addr} {cap : Nat} {ls : List (Int × ByteArray)} {t : Int} (hr : IRow w 1 ao (ls.map leafI)) (hc : ls.length ≤ cap) (ht : t ≤ 9223372036854775807) :
    IRow (w.alloc (.cells #[.int .i64 t, .string ⟨#[]⟩, .slice ao ls.length cap] 101)) 2 (some ⟨w.heap.size, 0, none⟩) [nodeI t ls] := by
  have hh := heap_alloc_new w (.cells #[.int .i64 t, .string ⟨#[]⟩, .slice ao ls.length cap] 101)
  refine .inr ⟨w.heap.size, 0, rfl, by simp, fun i y hy => ?_⟩
  match i, hy with
  | 0, hy =>
    obtain rfl : nodeI t ls = y := by simpa using hy
    refine ⟨ao, cap, by rw [cell_of_row _ _ _ _ _ _ hh]; rfl, by rw [cell_of_row _ _ _ _ _ _ hh]; rfl, ?_, ?_, ?_, ht, Nat.zero_le _⟩
    · rw [cell_of_row _ _ _ _ _ _ hh]
      simp [nodeI, It.list]
    · simpa [nodeI, It.list] using hc
    · exact IRow.below ((Below.refl _ _).alloc (Nat.le_refl _) _) 1 hr
  | i + 1, hy => simp at hy
theorem ret_pairT {s t : ByteArray} {a b : Int} (h1 : s = t) (h2 : a = b) : Ending.returned (.tuple #[.string s, .int .i64 a]) = .returned (.tuple #[.string t, .int .i64 b]) := by rw [h1, h2]
/-- what print answers -/
def tellE (t : Int) (ls : List (Int × ByteArray)) (er : Int) : Int := if er = 0 then printsE (measD 2 [nodeI t ls]) else er
def tellS (t : Int) (ls : List (Int × ByteArray)) (er : Int) : ByteArray := if er = 0 then printsS 2 [nodeI t ls] else ⟨#[]⟩
set_option maxRecDepth 100000 in
set_option maxHeartbeats 1000000 in
theorem tprint_any (b : Nat) (ls : List (Int × ByteArray)) (er t : Int) (w : World) (h : Parts w b ls er) (hl : ls.length ≤ 20) (hk : okL ls) (ht : t ≤ 9223372036854775807) (hw : wtL ls ≤ 2097000) :
    Calls Tryz.prog 17 #[.pointer (some ⟨b, 0, none⟩), .int .i64 t] w fun e w' => e = .returned (.tuple #[.string (tellS t ls er), .int .i64 (tellE t ls er)]) ∧ Below w.heap.size w w' := by
  obtain ⟨v, hh, ho⟩ := h
  obtain ⟨ao, cap, rfl, hcap, hrow⟩ := leaf_row ho hk
  have c0 : w.cell? ⟨b, 0, none⟩ = some (.slice ao ls.length cap) := cell_of_row _ _ 0 _ _ _ hh
  have c1 : w.cell? ⟨b, 1, none⟩ = some (.int .i64 er) := cell_of_row _ _ 1 _ _ _ hh
  by_cases he : er = 0
  · have hS : tellS t ls er = printsS 2 [nodeI t ls] := by unfold tellS; rw [if_pos he]
    have hE : tellE t ls er = printsE (measD 2 [nodeI t ls]) := by unfold tellE; rw [if_pos he]
    have n1 := print_any 2 [nodeI t ls] (some ⟨w.heap.size, 0, none⟩) 1 _ (node_row (t := t) hrow hcap ht) (by rw [wt_node]; omega) (by omega)
    rw [← hS, ← hE] at n1
    generalize tellS t ls er = ts at *
    generalize tellE t ls er = te at *
    subst he
    have N1 := hide n1
    clear n1 hS hE hh ho hrow hk hw
    go_enter Tryz.func17, Tryz.ntmps17
    go_wp2_with fail
    refine (unhide N1).mono ?_
    rintro e w1 ⟨rfl, hb1⟩
    have hB := ((Below.refl w.heap.size w).alloc (Nat.le_refl _) (.cells #[.int .i64 t, .string ⟨#[]⟩, .slice ao ls.length cap] 101)).trans (hb1.mono (by simp))
    have HB := hide hB
    clear hb1 hB
    go_wp2
    go_ret2
    exact ⟨rfl, unhide HB⟩
  · have hS : tellS t ls er = ⟨#[]⟩ := by unfold tellS; rw [if_neg he]
    have hE : tellE t ls er = er := by unfold tellE; rw [if_neg he]
    rw [hS, hE]
    have t1 : (er != 0) = true := by simpa using he
    clear hS hE hh ho hrow hk hw he
    go_enter Tryz.func17, Tryz.ntmps17
    go_wp2_with fail
    go_region
    all_goals
      go_wp2
      go_ret2
      exact ⟨rfl, (Below.refl _ _).drew⟩
end Go.Proofs.YtfpglpefofcdeaaGreatDoor
namespace Go.Proofs.YtfpglpefofcdeaaGreatDoor
open Go.RowKit
set_option linter.unusedVariables false
set_option linter.unusedSimpArgs false

/-- a block that is none of the gathered items' -/
def NoIt (w : World) (q : Nat) : Prop := ∀ cs fr, w.heap[q]? ≠ some (.cells cs 101 fr)
structure Kp (b : Nat) (w w' : World) : Prop where
  bel : Below b w w'
  keep : ∀ q, q < w.heap.size → q ≠ b → NoIt w q → w'.heap[q]? = w.heap[q]?
theorem Kp.refl (b : Nat) (w : World) : Kp b w w := ⟨Below.refl _ _, fun _ _ _ _ => rfl⟩
theorem Kp.trans {b : Nat} {w w1 w2 : World} (h : Kp b w w1) (k : Kp b w1 w2) : Kp b w w2 := by
  refine ⟨h.bel.trans k.bel, fun q hq hn hx => ?_⟩
  have e := h.keep q hq hn hx
  have hx1 : NoIt w1 q := fun cs fr => by rw [e]; exact hx cs fr
  exact (k.keep q (Nat.lt_of_lt_of_le hq h.bel.size) hn hx1).trans e
theorem Kp.of_below {b : Nat} {w w' : World} (h : Below w.heap.size w w') (hb : b ≤ w.heap.size) : Kp b w w' := ⟨h.mono hb, fun q hq _ _ => h.block q hq⟩
structure KpT (b g : Nat) (w w3 : World) : Prop where
  base : ∀ q, q < w.heap.size → q ≠ b → NoIt w q → w3.heap[q]? = w.heap[q]?
  gne : ∀ q, q < w.heap.size → NoIt w q → q ≠ g
section
variable {b g : Nat} {w w3 : World}
theorem KpT.set4a (h : KpT b g w w3) (q : Nat) (hn : q ≠ b) (hq : q < w.heap.size) (hx : NoIt w q) {a1 a2 a3 : Nat} {u1 u2 u3 u4 : Value} :
    ((((w3.setCell ⟨g, a1, none⟩ u1).setCell ⟨g, a2, none⟩ u2).setCell ⟨g, a3, none⟩ u3).setCell ⟨b, 0, none⟩ u4).heap[q]? = w3.heap[q]? := by
  have hg := h.gne q hq hx
  rw [Below.heap_setCell _ _ _ _ (by show q ≠ b; exact hn), Below.heap_setCell _ _ _ _ (by show q ≠ g; exact hg), Below.heap_setCell _ _ _ _ (by show q ≠ g; exact hg), Below.heap_setCell _ _ _ _ (by show q ≠ g; exact hg)]
theorem KpT.set4b (h : KpT b g w w3) (q : Nat) (hn : q ≠ b) (hq : q < w.heap.size) (hx : NoIt w q) {a1 a2 a3 : Nat} {u1 u2 u3 u4 : Value} :
    ((((w3.setCell ⟨b, 0, none⟩ u4).setCell ⟨g, a1, none⟩ u1).setCell ⟨g, a2, none⟩ u2).setCell ⟨g, a3, none⟩ u3).heap[q]? = w3.heap[q]? := by
  have hg := h.gne q hq hx
  rw [Below.heap_setCell _ _ _ _ (by show q ≠ g; exact hg), Below.heap_setCell _ _ _ _ (by show q ≠ g; exact hg), Below.heap_setCell _ _ _ _ (by show q ≠ g; exact hg), Below.heap_setCell _ _ _ _ (by show q ≠ b; exact hn)]
end
theorem own_itemK {w : World} {base n q : Nat} {v : Value} {xs : List Value} (ho : w.ownsRow base 101 3 v n xs) (hq : v.ownBlock = some q) : ∃ cs fr, w.heap[q]? = some (.cells cs 101 fr) := by
  rcases ho.2 with ⟨h1, _⟩ | ⟨g, cap, cur, h1, _, h3, _⟩
  · rw [h1] at hq; cases hq
  · rw [h1] at hq
    obtain rfl : g = q := Option.some.inj hq
    exact ⟨cur, _, h3⟩
theorem kp_text {w w3 : World} {o : Obj} {b g n : Nat} {v : Value} {xs : List Value} (ho : w.ownsRow (b + 1) 101 3 v n xs) (hg : (w.drew.alloc o).grownBy w3 v.ownBlock) (hat : v.ownBlock = some g ∨ g = w.heap.size + 1) (hlt : b < w.heap.size) : KpT b g w w3 := by
  have hne : ∀ q, q < w.heap.size → NoIt w q → some q ≠ v.ownBlock := fun q hq hx e => by
    obtain ⟨cs, fr, h⟩ := own_itemK ho e.symm
    exact hx cs fr h
  refine ⟨fun q hq hn hx => ?_, fun q hq hx e => ?_⟩
  · rw [hg.block q (by simp; omega) (hne q hq hx)]
    exact ((Below.refl w.drew.heap.size w.drew).alloc (Nat.le_refl _) o).block q hq
  · rcases hat with h | h
    · exact hne q hq hx (by rw [h, e])
    · omega
theorem blame_anyK (b : Nat) (ls : List (Int × ByteArray)) (er x : Int) (w : World) (h : Parts w b ls er) :
    Calls Tryz.prog 49 #[.pointer (some ⟨b, 0, none⟩), .int .i64 x] w fun e w' => e = .returned (.tuple #[]) ∧ Parts w' b ls (if er = 0 then x else er) ∧ Kp b w w' := by
  obtain ⟨v, hh, ho⟩ := h
  have c1 : w.cell? ⟨b, 1, none⟩ = some (.int .i64 er) := cell_of_row _ _ 1 _ _ _ hh
  have f1 : ∀ o, w.frozen? ⟨b, o, none⟩ = false := fun o => frozen_of_row _ _ o _ _ hh
  by_cases he : er = 0
  · rw [if_pos he]
    subst he
    have H := hide hh; have HO := hide ho
    clear hh ho
    go_enter Tryz.func49, Tryz.ntmps49
    go_wp2
    go_end0
    refine ⟨rfl, ⟨v, set_rowQ (j := 1) (v := .int .i64 x) (unhide H), ?_⟩, Below.setCell (p := ⟨b, 1, none⟩) (Below.refl _ _) (Nat.le_refl _) _, fun q hq hn hx => Below.heap_setCell _ _ _ _ hn⟩
    exact owns_setQ (unhide HO) (Nat.lt_succ_self _)
  · rw [if_neg he]
    have t1 : (er == 0) = false := by simpa using he
    have H := hide hh; have HO := hide ho
    clear hh ho he
    go_enter Tryz.func49, Tryz.ntmps49
    go_wp2
    go_end0
    exact ⟨rfl, ⟨v, unhide H, unhide HO⟩, Kp.refl _ _⟩
set_option maxRecDepth 100000 in
set_option maxHeartbeats 4000000 in
theorem text_anyK (b : Nat) (ls : List (Int × ByteArray)) (er t : Int) (s : ByteArray) (w : World) (h : Parts w b ls er) (hl : ls.length ≤ 20) :
    Calls Tryz.prog 47 #[.pointer (some ⟨b, 0, none⟩), .int .i64 t, .string s] w fun e w' => e = .returned (.tuple #[]) ∧ Parts w' b (ls ++ [(t, s)]) er ∧ Kp b w w' := by
  obtain ⟨i0, hi, hz0, hz1, hz2⟩ := info_parts infoItemT
  have hlt := h.lt
  obtain ⟨v, hh, ho⟩ := h
  obtain ⟨ta, tc, rfl⟩ : ∃ ta tc, v = .slice ta ls.length tc := by
    rcases ho.2 with ⟨h1, h2⟩ | ⟨g, cap, cur, h1, _⟩
    · exact ⟨none, 0, by rw [h1, h2]⟩
    · exact ⟨_, cap, h1⟩
  have hne : some b ≠ (Value.slice ta ls.length tc).ownBlock := by
    rcases ho.2 with ⟨h1, h2⟩ | ⟨g, cap, cur, h1, hB, _⟩
    · rw [h1]; simp [Value.ownBlock]
    · rw [h1]; simp [Value.ownBlock]; omega
  have c0 : w.cell? ⟨b, 0, none⟩ = some (.slice ta ls.length tc) := cell_of_row _ _ 0 _ _ _ hh
  have hl' : (ls.length : Int) ≤ 20 := by omega
  have hl1 : (ls.length : Int) < (ls.length : Int) + 1 := by omega
  have H := hide hh; have HO := hide ho; have HI := hide hi; have Z0 := hide hz0; have Z1 := hide hz1; have Z2 := hide hz2; have HNE := hide hne
  clear hh ho hi hz0 hz1 hz2 hne
  go_enter Tryz.func47, Tryz.ntmps47
  go_wp2_with fail
  go_region_law ((refine step_append_lies _ (by rfl) _ _ _ (by rfl) (b + 1) 101 i0 _ 3 48 Tryz.underlying55 (unhide HI) (unhide Z0) (unhide Z1) (unhide Z2) rfl (by omega) _ _ _ (by rfl) ((unhide HO).drew.alloc _) ⟨w.heap.size, 0, none⟩ 1 1 [.int .i64 0, .string ⟨#[]⟩, .slice none 0 0] (by rfl) (by rfl) (World.news_of_block (heap_alloc_new _ _)) (by simp [Value.oneCell']) (by omega) (by unfold maxLen; omega) (by omega) (by simp; omega) (w.heap.size + 1) (by simp) ?_; intro g cap' w3 own3 hgrow hat3 hlt3; obtain ⟨q0, q1, q2, qf, q3, qfb, hgb⟩ := text_facts (unhide H) hgrow own3 (unhide HNE)))
  all_goals
    have hb3 : Below b w w3 := (((Below.refl b w).drew).alloc (by simp; omega) _).grown hgrow (by simp; omega) (fun q hq => by have := ((unhide HO).lt q hq).1; omega)
    have hblk : w3.heap[b]? = some (.cells #[.slice ta ls.length tc, .int .i64 er] 57 (0, 0)) := by
      rw [hgrow.block b (by simp; omega) (unhide HNE)]
      exact alloc_keepT (unhide H)
    have hp1 := parts_done (t := t) (s := s) own3 hblk hgb
    have hp2 := parts_done2 (t := t) (s := s) own3 hblk hgb
    have hB1 := (((hb3.setCell (p := ⟨g, ls.length * 3, none⟩) (Nat.le_of_lt hgb) (.int .i64 t)).setCell (p := ⟨g, ls.length * 3 + 1, none⟩) (Nat.le_of_lt hgb) (.string s)).setCell (p := ⟨g, ls.length * 3 + 2, none⟩) (Nat.le_of_lt hgb) (.slice none 0 0)).setCell (p := ⟨b, 0, none⟩) (Nat.le_refl _) (.slice (some ⟨g, 0, none⟩) (ls.length + 1) cap')
    have hB2 := (((hb3.setCell (p := ⟨b, 0, none⟩) (Nat.le_refl _) (.slice (some ⟨g, 0, none⟩) (ls.length + 1) cap')).setCell (p := ⟨g, ls.length * 3, none⟩) (Nat.le_of_lt hgb) (.int .i64 t)).setCell (p := ⟨g, ls.length * 3 + 1, none⟩) (Nat.le_of_lt hgb) (.string s)).setCell (p := ⟨g, ls.length * 3 + 2, none⟩) (Nat.le_of_lt hgb) (.slice none 0 0)
    have hk := kp_text (unhide HO) hgrow hat3 hlt
    have HP1 := hide hp1; have HP2 := hide hp2; have HB1 := hide (Kp.mk hB1 (fun q hq hn hx => by rw [hk.set4a q hn hq hx]; exact hk.base q hq hn hx)); have HB2 := hide (Kp.mk hB2 (fun q hq hn hx => by rw [hk.set4b q hn hq hx]; exact hk.base q hq hn hx))
    clear hk hp1 hp2 hB1 hB2 hb3 hblk own3 hgrow hat3 hlt3 q0 q1 q2 q3
    go_end0
    first
      | (with_reducible exact ⟨rfl, unhide HP1, unhide HB1⟩)
      | (with_reducible exact ⟨rfl, unhide HP2, unhide HB2⟩)

set_option maxHeartbeats 1000000 in
theorem pnumber_anyK (b : Nat) (ls : List (Int × ByteArray)) (er t n k : Int) (w : World) (h : Parts w b ls er) (hl : ls.length ≤ 20) (hn : n ≤ 9223372036854775807) :
    Calls Tryz.prog 15 #[.pointer (some ⟨b, 0, none⟩), .int .i64 t, .int .i64 n, .int .i64 k] w fun e w' => e = .returned (.tuple #[]) ∧ Parts w' b (ls ++ [(t, numS n k)]) (if er = 0 then numE n k else er) ∧ Kp b w w' := by
  have n1 := fun w => number_all n k w hn
  have hlt := h.lt
  have H := hide h
  have n2 := fun (w : World) (h : Parts w b ls er) => blame_anyK b ls er (numE n k) w h
  have n3 := fun (w : World) (h : Parts w b ls (if er = 0 then numE n k else er)) => text_anyK b ls (if er = 0 then numE n k else er) t (numS n k) w h hl
  generalize (if er = 0 then numE n k else er) = er2 at *
  generalize numS n k = s at *
  generalize numE n k = ne at *
  have N1 := hide n1; have N2 := hide n2; have N3 := hide n3
  clear n1 n2 n3 h hn
  go_enter Tryz.func15, Tryz.ntmps15
  go_wp2_with fail
  refine (unhide N1 _).mono ?_
  rintro e w1 ⟨rfl, hb1⟩
  have h1 := (unhide H).below hb1
  have hb1' : Kp b w w1 := Kp.of_below hb1 (Nat.le_of_lt hlt)
  have H1 := hide h1; have HB := hide hb1'
  clear h1 hb1 hb1'
  go_wp2_with fail
  refine (unhide N2 _ (unhide H1)).mono ?_
  rintro e w2 ⟨rfl, h2, hb2⟩
  have H2 := hide h2; have HB2 := hide ((unhide HB).trans hb2)
  clear h2 hb2
  go_wp2_with fail
  refine (unhide N3 _ (unhide H2)).mono ?_
  rintro e w3 ⟨rfl, h3, hb3⟩
  have H3 := hide h3; have HB3 := hide ((unhide HB2).trans hb3)
  clear h3 hb3
  go_wp2
  go_end0
  exact ⟨rfl, unhide H3, unhide HB3⟩


set_option maxHeartbeats 2000000 in
theorem pcert_anyK (b : Nat) (ls : List (Int × ByteArray)) (er t1 t2 : Int) (s1 s2 : ByteArray) (w : World) (h : Parts w b ls er) (hl : ls.length ≤ 19) :
    Calls Tryz.prog 53 #[.pointer (some ⟨b, 0, none⟩), .int .i64 t1, .int .i64 t2, .agg #[.string s1, .string s2]] w fun e w' => e = .returned (.tuple #[]) ∧ Parts w' b (ls ++ [(t1, s1), (t2, s2)]) er ∧ Kp b w w' := by
  have hlt := h.lt
  obtain ⟨W1, hW1⟩ : ∃ W1, W1 = w.alloc (.cells #[.string s1, .string s2] 25) := ⟨_, rfl⟩
  have hB1 : Below w.heap.size w W1 := by rw [hW1]; exact (Below.refl _ _).alloc (Nat.le_refl _) _
  have hX1 : W1.heap[w.heap.size]? = some (.cells #[.string s1, .string s2] 25) := by rw [hW1]; exact heap_alloc_new _ _
  have hno : NoIt W1 w.heap.size := fun cs fr e => by rw [hX1] at e; injection e with e; injection e with _ e2; cases e2
  have hs1 : w.heap.size < W1.heap.size := block_ltQ hX1
  have c0 : W1.cell? ⟨w.heap.size, 0, none⟩ = some (.string s1) := cell_of_row _ _ 0 _ _ _ hX1
  have N1 := hide (fun (W : World) (h : Parts W b ls er) => text_anyK b ls er t1 s1 W h (by omega))
  have N2 := hide (fun (W : World) (h : Parts W b (ls ++ [(t1, s1)]) er) => text_anyK b (ls ++ [(t1, s1)]) er t2 s2 W h (by rw [List.length_append]; simp; omega))
  have H1 := hide (h.below hB1); have HK := hide (Kp.of_below hB1 (Nat.le_of_lt hlt)); have HX := hide hX1; have HW := hide hW1; have HNO := hide hno; have HS1 := hide hs1
  have HNB : Hid (w.heap.size ≠ b) := hide (by omega)
  clear h hlt hW1 hB1 hX1 hno hl hs1
  go_enter Tryz.func53, Tryz.ntmps53
  go_upto_region 1 with fail
  rw [← unhide HW]
  go_wp2_with fail
  refine (unhide N1 _ (unhide H1)).mono ?_
  rintro e w2 ⟨rfl, h2, k2⟩
  have x2 := (k2.keep _ (unhide HS1) (unhide HNB) (unhide HNO)).trans (unhide HX)
  have c1 : w2.cell? ⟨w.heap.size, 1, none⟩ = some (.string s2) := cell_of_row _ _ 1 _ _ _ x2
  have H2 := hide h2; have HK2 := hide ((unhide HK).trans k2)
  clear h2 k2 x2 c0
  go_wp2_with fail
  refine (unhide N2 _ (unhide H2)).mono ?_
  rintro e w3 ⟨rfl, h3, k3⟩
  have e9 : ls ++ [(t1, s1)] ++ [(t2, s2)] = ls ++ [(t1, s1), (t2, s2)] := by simp
  rw [e9] at h3
  have H3 := hide h3; have HK3 := hide ((unhide HK2).trans k3)
  clear h3 k3 e9
  go_wp2
  go_end0
  exact ⟨rfl, unhide H3, unhide HK3⟩
end Go.Proofs.YtfpglpefofcdeaaGreatDoor
