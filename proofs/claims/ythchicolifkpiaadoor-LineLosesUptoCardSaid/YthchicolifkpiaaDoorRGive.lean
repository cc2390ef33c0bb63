/- The reference's end: Give. -/
import Derived.Test.YthchicolifkpiaaDoorEndK
import Derived.Laws.AppendOwnNone
namespace Go.Proofs.YthchicolifkpiaaDoor
open Go.RowKit
set_option linter.unusedVariables false

theorem cellsT_one (l : List ByteArray) : ∀ u ∈ cellsT l, u.oneCell' = true := fun u hu => by
  simp [cellsT] at hu
  obtain ⟨s, _, rfl⟩ := hu
  rfl
theorem cellsT_length (l : List ByteArray) : (cellsT l).length = l.length * 1 := by simp [cellsT]
theorem SRow.cells {w : World} {b off : Nat} {l : List ByteArray} (h : ∀ i s, l[i]? = some s → w.cell? ⟨b, off + i, none⟩ = some (.string s)) : ∀ j u, (cellsT l)[j]? = some u → w.cell? ((⟨b, off, none⟩ : Addr).add j) = some u := fun j u hj => by
  rw [cellsT, List.getElem?_map] at hj
  cases hs : l[j]? with
  | none => rw [hs] at hj; cases hj
  | some s =>
    rw [hs] at hj
    have := Option.some.inj hj
    subst this
    rw [Addr.add_lit]
    exact h j s hs
theorem addr_add_block (a : Addr) (j : Nat) : (a.add j).block = a.block := by unfold Addr.add; split <;> rfl
theorem own_made0 (w : World) (base : Nat) (e : TypeId) (size : Nat) (hb : base ≤ w.heap.size) : (w.alloc (.cells #[] e)).ownsRow base e size (.slice (some ⟨w.heap.size, 0, none⟩) 0 0) 0 [] := by
  refine ⟨by simp, .inr ⟨w.heap.size, 0, #[], rfl, hb, heap_alloc_new _ _, Nat.le_refl _, by simp, by simp, by simp⟩⟩

set_option maxRecDepth 100000 in
set_option maxHeartbeats 2000000 in
theorem rgive_any (G T : List ByteArray) (A k : Nat) (go : Option Addr) (gc : Nat) (ago : Int) (ko : Option Addr) (kn kc : Nat) (o : Bool) (told : Int) (s : ByteArray) (w : World) (hr : SRow w go G) (hgo : G = [] → go = none ∧ gc = 0) (hs : ∀ s ∈ G, s.size ≤ 4096) (hl : (G.length : Int) ≤ 1048576) (hrel : OutRel G A T k) (hz : s.size ≤ maxLen) :
    Calls Tryd.prog 7 #[rend go G.length gc A ago ko kn kc o told, .string s] w fun e w' => Below w.heap.size w w' ∧ ((giveE T.length s ≠ 0 ∧ e = .returned (.tuple #[rend go G.length gc A ago ko kn kc o told, .int .i64 (giveE T.length s)])) ∨
      (giveE T.length s = 0 ∧ ∃ g cap, e = .returned (.tuple #[rend (some ⟨g, 0, none⟩) (G.length + 1) cap A ago ko kn kc o told, .int .i64 0]) ∧ w'.ownsRow w.heap.size 9 1 (.slice (some ⟨g, 0, none⟩) (G.length + 1) cap) (G.length + 1) (cellsT (G ++ [s])))) := by
  have N1 := hide (fun w' (hb : Below w.heap.size w w') => rleft_any G T A k go gc ago ko kn kc o told w' (hr.below hb) hs hl hrel)
  have hTl : (T.length : Int) ≤ 1048576 := by
    obtain ⟨D, hG, _⟩ := hrel
    have : G.length = D.length + T.length := by rw [hG]; simp
    omega
  have HR := hide hr
  clear hs hrel hr
  unfold maxLen at hz
  have hzi : (s.size : Int) ≤ 9223372036854775807 := by omega
  clear hz
  generalize hX : giveE T.length s = X
  have HX := hide hX
  unfold giveE at hX
  clear HX
  have HX := hide hX
  clear hX
  generalize T.length = tn at *
  by_cases h1 : 4096 < s.size
  · have HY := hide (show X = 2 by rw [← unhide HX]; exact if_pos h1)
    have h1' : (4096 : Int) < (s.size : Int) := by omega
    clear h1 HX
    obtain ⟨W0, hW0⟩ : ∃ W0, W0 = (w.alloc (.cells #[.slice go G.length gc, .int .i64 A, .int .i64 ago, .slice ko kn kc, .bool o, .int .i64 told] 28)).alloc (.cells #[.slice none 0 0, .int .i64 0, .int .i64 0, .slice none 0 0, .bool false, .int .i64 0] 28) := ⟨_, rfl⟩
    have hw1 : Below w.heap.size w W0 := by rw [hW0]; exact two_below w _ _
    have hbr : Below W0.heap.size W0 W0 := Below.refl _ _
    rw [hW0] at hbr
    obtain ⟨q1, q2⟩ := two_kept hbr
    rw [← hW0] at q1 q2
    obtain ⟨⟨c0, c1, c2, c3, c4, c5⟩, e0, e1, e2, e3, e4, e5⟩ := six_cells q1
    obtain ⟨⟨z0, z1, z2, z3, z4, z5⟩, f0, f1, f2, f3, f4, f5⟩ := six_cells q2
    have hB : w.heap.size ≤ w.heap.size + 1 := by omega
    have HW0 := hide hW0
    clear hbr q1 q2 hW0
    go_enter Tryd.func7, Tryd.ntmps7
    go_upto_if 8 with fail
    rw [← unhide HW0]
    go_wp2
    refine bodyPost_ret (v := .tuple #[rend go G.length gc A ago ko kn kc o told, .int .i64 2]) (by simp [results, Tryd.results7, go_sem, z0, z1, z2, z3, z4, z5]) rfl ⟨?_, .inl ⟨by rw [unhide HY]; decide, by rw [unhide HY]⟩⟩
    exact ((((((hw1.setCell hB _).setCell hB _).setCell hB _).setCell hB _).setCell hB _).setCell hB _)
  · have h1' : ¬ (4096 : Int) < (s.size : Int) := by omega
    go_enter Tryd.func7, Tryd.ntmps7
    go_wp2_with fail
    refine (unhide N1 _ ?_).mono ?_
    · exact two_below w _ _
    rintro e w1 ⟨rfl, hb1⟩
    have hw1 : Below w.heap.size w w1 := (two_below w _ _).trans (hb1.mono (two_below w _ _).size)
    obtain ⟨q1, q2⟩ := two_kept hb1
    have hz : w.heap.size + 1 < w1.heap.size := by have := hb1.size; simp at this; omega
    have hz9 : w.heap.size < w1.heap.size := by omega
    have hB : w.heap.size ≤ w.heap.size + 1 := by omega
    clear hb1
    obtain ⟨⟨c0, c1, c2, c3, c4, c5⟩, e0, e1, e2, e3, e4, e5⟩ := six_cells q1
    obtain ⟨⟨z0, z1, z2, z3, z4, z5⟩, f0, f1, f2, f3, f4, f5⟩ := six_cells q2
    have Q1 := hide (fun (wx : World) (hx : wx.heap[w.heap.size]? = w1.heap[w.heap.size]?) => hx.trans q1)
    have Q2 := hide (fun (wx : World) (hx : wx.heap[w.heap.size + 1]? = w1.heap[w.heap.size + 1]?) => hx.trans q2)
    clear q1 q2
    by_cases ht : 8 ≤ tn
    · have ht' : (8 : Int) ≤ (tn : Int) := by omega
      have HY := hide (show X = 8 by rw [← unhide HX, if_neg h1]; exact if_pos ht)
      clear ht HX
      go_wp2
      refine bodyPost_ret (v := .tuple #[rend go G.length gc A ago ko kn kc o told, .int .i64 8]) (by simp [results, Tryd.results7, go_sem, z0, z1, z2, z3, z4, z5]) rfl ⟨?_, .inl ⟨by rw [unhide HY]; decide, by rw [unhide HY]⟩⟩
      exact ((((((hw1.setCell hB _).setCell hB _).setCell hB _).setCell hB _).setCell hB _).setCell hB _)
    · have ht' : ¬ (8 : Int) ≤ (tn : Int) := by omega
      have HY := hide (show X = 0 by rw [← unhide HX, if_neg h1]; exact if_neg ht)
      clear ht HX
      obtain ⟨i0, hi, hz0, hz1, hz2⟩ := info_parts' infoStr
      have hsz1 : w.heap.size ≤ w1.heap.size := hw1.size
      have own0 := own_made0 w1 w.heap.size 9 1 hsz1
      clear z0 z1 z2 z3 z4 z5 f0 f1 f2 f3 f4 f5 c1 c2 c3 c4 c5 e0 e1 e2 e3 e4 e5
      rcases (unhide HR).below hw1 with hnil | ⟨gb, off, rfl, hlt, hc⟩
      · obtain ⟨hg0, hg1⟩ := hgo hnil
        subst hnil hg0 hg1
        have c0' : w1.cell? ⟨w.heap.size, 0, none⟩ = some (.slice none 0 0) := c0
        clear c0
        go_wp2_with (at_builtin; first | refine wpList_append_own_none rfl _ _ 25 rfl w.heap.size 9 i0 1 Tryd.underlying25 hi _ _ _ rfl own0 rfl ?_ | refine wpList_append_lies _ rfl _ _ 25 rfl w.heap.size 9 i0 (.string ⟨#[]⟩) 1 16 Tryd.underlying25 hi hz0 hz1 hz2 rfl (by decide) _ _ _ rfl (own0.alloc _) ⟨w1.heap.size + 1, 0, none⟩ 1 1 [.string s] rfl rfl (World.news_of_block (by have := heap_alloc_new (w1.alloc (.cells #[] 9)) (.cells #[.string s] 9); simpa using this)) ?c2 ?c3 ?c4 ?c5 ?c6 (w1.heap.size + 2) ?c7 ?_)
        case c2 => intro u hu; simp at hu; subst hu; rfl
        case c3 => omega
        case c4 => unfold maxLen; omega
        case c5 => omega
        case c6 => simp; omega
        case c7 => simp
        intro g cap w3 own3 hgrow hat hlt3

        have p1 : w3.heap[w.heap.size]? = _ := unhide Q1 w3 ((hgrow.block _ (by simp; omega) (by simp [Value.ownBlock]; omega)).trans ((Below.heap_alloc _ _ _ (by simp; omega)).trans (Below.heap_alloc _ _ _ hz9)))
        have p2 : w3.heap[w.heap.size + 1]? = _ := unhide Q2 w3 ((hgrow.block _ (by simp; omega) (by simp [Value.ownBlock]; omega)).trans ((Below.heap_alloc _ _ _ (by simp; omega)).trans (Below.heap_alloc _ _ _ hz)))
        obtain ⟨⟨d0, d1, d2, d3, d4, d5⟩, k0, k1, k2, k3, k4, k5⟩ := six_cells p1
        obtain ⟨⟨y0, y1, y2, y3, y4, y5⟩, l0, l1, l2, l3, l4, l5⟩ := six_cells p2
        have hw3 : Below w.heap.size w w3 := ((hw1.alloc hsz1 _).alloc (by simp; omega) _).grown hgrow (by simp; omega) (fun q hq => by simp [Value.ownBlock] at hq; omega)
        have own4 : w3.ownsRow w.heap.size 9 1 (.slice (some ⟨g, 0, none⟩) (0 + 1) cap) (0 + 1) (cellsT (([] : List ByteArray) ++ [s])) := by simpa [cellsT] using own3
        have OW := hide own4
        have hgb : w.heap.size + 1 < g := by
          rcases hat with hx | hx
          · have hy : w1.heap.size = g := by simpa [Value.ownBlock] using hx
            omega
          · omega
        clear p1 p2 own3 own4 hgrow hat hlt3 own0
        go_wp2
        refine bodyPost_ret (v := .tuple #[rend (some ⟨g, 0, none⟩) (0 + 1) cap A ago ko kn kc o told, .int .i64 0]) (by simp [results, Tryd.results7, go_sem, y0, y1, y2, y3, y4, y5]) rfl ⟨?_, .inr ⟨unhide HY, g, cap, rfl, ?_⟩⟩
        · exact (((((((hw3.setCell (Nat.le_refl _) _).setCell hB _).setCell hB _).setCell hB _).setCell hB _).setCell hB _).setCell hB _)
        · refine slot_kept (unhide OW) fun q hq => ?_
          have hqg : g = q := by simpa [Value.ownBlock] using hq
          have h1 : q ≠ w.heap.size := by omega
          have h2 : q ≠ w.heap.size + 1 := by omega
          simp only [set_other h1, set_other h2]
      · have c0' := c0
        have hcs := SRow.cells hc
        have hln : 0 < G.length := Nat.pos_of_ne_zero fun hx => by
          have hy := hgo (List.length_eq_zero_iff.1 hx)
          cases hy.1
        have hcs' : ∀ o, ∀ j u, (cellsT G)[j]? = some u → (w1.alloc o).cell? ((⟨gb, off, none⟩ : Addr).add j) = some u := fun o j u hj => (World.cell?_of_block (by rw [addr_add_block]; exact Below.heap_alloc _ _ _ hlt)).trans (hcs j u hj)
        have HC := hide hcs'
        have HLN := hide hln
        clear hcs hcs' hc hln
        go_wp2_with (at_builtin; refine wpList_append_lies _ rfl _ _ 25 rfl w.heap.size 9 i0 (.string ⟨#[]⟩) 1 16 Tryd.underlying25 hi hz0 hz1 hz2 rfl (by decide) _ _ _ rfl own0 ⟨gb, off, none⟩ G.length gc (cellsT G) rfl (cellsT_length G) (unhide HC _) (cellsT_one G) ?c3 ?c4 ?c5 ?c6 (w1.heap.size + 1) ?c7 ?_)
        case c3 => exact unhide HLN
        case c4 => unfold maxLen; omega
        case c5 => omega
        case c6 => simp; omega
        case c7 => simp
        intro g1 cap1 w2 own1 hgrow1 hat1 hlt1
        have hg1 : w1.heap.size ≤ g1 := by
          rcases hat1 with hx | hx
          · have hy : w1.heap.size = g1 := by simpa [Value.ownBlock] using hx
            omega
          · omega
        have hw2 : Below w.heap.size w w2 := (hw1.alloc hsz1 _).grown hgrow1 (by simp; omega) (fun q hq => by simp [Value.ownBlock] at hq; omega)
        have hs2 : w1.heap.size + 1 ≤ w2.heap.size := by have := hgrow1.size; simpa using this
        clear hat1
        go_wp2_with (at_builtin; refine wpList_append_lies _ rfl _ _ 25 rfl w.heap.size 9 i0 (.string ⟨#[]⟩) 1 16 Tryd.underlying25 hi hz0 hz1 hz2 rfl (by decide) _ _ _ rfl (own1.alloc _) ⟨w2.heap.size, 0, none⟩ 1 1 [.string s] rfl rfl (World.news_of_block (heap_alloc_new _ _)) ?c2 ?c3 ?c4 ?c5 ?c6 (w2.heap.size + 1) ?c7 ?_)
        case c2 => intro u hu; simp at hu; subst hu; rfl
        case c3 => omega
        case c4 => unfold maxLen; omega
        case c5 => omega
        case c6 => simp; omega
        case c7 => simp
        intro g cap w3 own3 hgrow hat hlt3

        have p1 : w3.heap[w.heap.size]? = _ := unhide Q1 w3 ((hgrow.block _ (by simp; omega) (by simp [Value.ownBlock]; omega)).trans ((Below.heap_alloc _ _ _ (by omega)).trans ((hgrow1.block _ (by simp; omega) (by simp [Value.ownBlock]; omega)).trans (Below.heap_alloc _ _ _ hz9))))
        have p2 : w3.heap[w.heap.size + 1]? = _ := unhide Q2 w3 ((hgrow.block _ (by simp; omega) (by simp [Value.ownBlock]; omega)).trans ((Below.heap_alloc _ _ _ (by omega)).trans ((hgrow1.block _ (by simp; omega) (by simp [Value.ownBlock]; omega)).trans (Below.heap_alloc _ _ _ hz))))
        obtain ⟨⟨d0, d1, d2, d3, d4, d5⟩, k0, k1, k2, k3, k4, k5⟩ := six_cells p1
        obtain ⟨⟨y0, y1, y2, y3, y4, y5⟩, l0, l1, l2, l3, l4, l5⟩ := six_cells p2
        have hw3 : Below w.heap.size w w3 := (hw2.alloc (by omega) _).grown hgrow (by simp; omega) (fun q hq => by simp [Value.ownBlock] at hq; omega)
        have own4 : w3.ownsRow w.heap.size 9 1 (.slice (some ⟨g, 0, none⟩) (G.length + 1) cap) (G.length + 1) (cellsT (G ++ [s])) := by simpa [cellsT] using own3
        have OW := hide own4
        have hgb : w.heap.size + 1 < g := by
          rcases hat with hx | hx
          · have hy : g1 = g := by simpa [Value.ownBlock] using hx
            omega
          · omega
        clear p1 p2 own3 own4 hgrow hat hlt3 own1
        go_wp2
        refine bodyPost_ret (v := .tuple #[rend (some ⟨g, 0, none⟩) (G.length + 1) cap A ago ko kn kc o told, .int .i64 0]) (by simp [results, Tryd.results7, go_sem, y0, y1, y2, y3, y4, y5]) rfl ⟨?_, .inr ⟨unhide HY, g, cap, rfl, ?_⟩⟩
        · exact (((((((hw3.setCell (Nat.le_refl _) _).setCell hB _).setCell hB _).setCell hB _).setCell hB _).setCell hB _).setCell hB _)
        · refine slot_kept (unhide OW) fun q hq => ?_
          have hqg : g = q := by simpa [Value.ownBlock] using hq
          have h1 : q ≠ w.heap.size := by omega
          have h2 : q ≠ w.heap.size + 1 := by omega
          simp only [set_other h1, set_other h2]
end Go.Proofs.YthchicolifkpiaaDoor
