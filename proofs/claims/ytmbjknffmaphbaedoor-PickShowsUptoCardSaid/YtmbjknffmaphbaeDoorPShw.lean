/- Shown of the program. -/
import Derived.Test.YtmbjknffmaphbaeDoorRShw
import Derived.Lib.OthersKept
import Derived.Shelf.Strings.FieldsFuncAny
namespace Go.Proofs.YtmbjknffmaphbaeDoor
open Go.RowKit
set_option linter.unusedVariables false

theorem infoI32 : (Tryd.prog.info? 21).map (fun i => (i.zero, i.size, i.bytes)) = some (some (.int .i32 0), 1, 4) := by kernel_rfl
def cellsR (L : List Int) : List Value := L.map fun r => .int .i32 r
theorem decode_drop (s : ByteArray) (pos : Nat) : Utf8.decode s pos = Lib.decodeL ((bl s).drop pos) := (Lib.decodeL_drop s pos).symm

theorem iter_of {w : World} {k : Nat} {s : ByteArray} {p : Nat} (h : w.heap[k]? = some (.stringIter s p)) : w.iterPos k = p := by simp [World.iterPos, h]
theorem conv_runes {w : World} {base : Nat} {v : Value} {L : List Int} (h : w.ownsRow base 21 1 v L.length (cellsR L)) : (convert 23 9 v).run Tryd.prog w = .ok (.string (textR L)) w := by
  rcases h.2 with ⟨rfl, h2⟩ | ⟨g, cap, cur, rfl, _⟩
  · have e : L = [] := List.length_eq_zero_iff.1 h2
    rw [e]
    exact run_convert_runes_nil (P := Tryd.prog) w 23 9 21 0 0 Tryd.underlying23 Tryd.underlying21 Tryd.underlying9
  · have hc := h.cells (g := g) rfl
    have := run_convert_runes (P := Tryd.prog) w 23 9 21 ⟨g, 0, none⟩ L.length cap L (Nat.le_refl _) Tryd.underlying23 Tryd.underlying21 Tryd.underlying9 (fun j hj => hc j _ (by simp [cellsR, List.getD_eq_getElem?_getD, List.getElem?_eq_getElem hj]))
    rw [List.take_length, runesBytes_same] at this
    exact this
theorem drop_nil (s : ByteArray) (pos : Nat) (h : ¬ pos < s.size) : (bl s).drop pos = [] := by
  have h1 : (bl s).length = s.size := by simp
  exact List.drop_eq_nil_of_le (by rw [h1]; omega)
set_option maxRecDepth 100000 in
set_option maxHeartbeats 4000000 in
theorem shown_any (s : ByteArray) (w : World) (hT : Tabs w) (hs : (s.size : Int) ≤ 1048576) :
    Calls Tryd.prog 4 #[.string s] w fun e w' => e = .returned (.string (textR (shownL (letters (bl s))))) ∧ Below w.heap.size w w' := by
  obtain ⟨i0, hi, hz0, hz1, hz2⟩ := info_partsS infoI32
  have h2 := hT.two
  have N1 := hide (fun (r : Nat) (t : ByteArray) wx (hb : Below w.heap.size w wx) (hr : (r : Int) ≤ 1114111) => shownAs_any r t wx (hT.below hb h2) hr)
  obtain ⟨L, hL⟩ : ∃ L, L = letters (bl s) := ⟨_, rfl⟩
  rw [← hL]
  have HL := hide hL
  clear hL hT
  go_enter Tryd.func4, Tryd.ntmps4
  go_wp2
  go_loopw [3] (fun v wr => ∃ (pos : Nat) (dn : List Int), pos ≤ s.size ∧ wr.heap[w.heap.size]? = some (.stringIter s pos) ∧ dn ++ letters ((bl s).drop pos) = L ∧ dn.length ≤ 16 ∧ wr.ownsRow w.heap.size 21 1 v dn.length (cellsR dn) ∧ Below w.heap.size w wr) (fun _ wr => s.size - wr.iterPos w.heap.size)
  case atStart => exact ⟨0, [], Nat.zero_le _, heap_alloc_new _ _, (unhide HL).symm, by simp, World.ownsRow_nil _ _ _ _, (Below.refl _ _).alloc (Nat.le_refl _) _⟩
  case round =>
    obtain ⟨pos, dn, hpos, hit, hdn, hd16, hv, hbw⟩ := hrel
    obtain ⟨va, vc, rfl⟩ : ∃ va vc, u3 = .slice va dn.length vc := by
      rcases hv.2 with ⟨g1, g2⟩ | ⟨g, cap, cur, g1, _⟩
      · exact ⟨none, 0, by rw [g1, g2]⟩
      · exact ⟨_, cap, g1⟩
    by_cases hlt : pos < s.size
    · have hnx := fun ty => Lib.run_next_any_at (P := Tryd.prog) wr w.heap.size s pos ty hit hlt
      have hbs : (bl s).length = s.size := by simp
      have hbne : (bl s).drop pos ≠ [] := fun e => by have := congrArg List.length e; simp at this; omega
      have hst1 := letters_step ((bl s).drop pos) hbne
      have hw1 := Lib.decodeL_width ((bl s).drop pos)
      have hw2 : (Lib.decodeL ((bl s).drop pos)).2 ≤ s.size - pos := by have := Lib.decodeL_le ((bl s).drop pos) hbne; rw [List.length_drop, hbs] at this; exact this
      have hr1 := Lib.decodeL_rune ((bl s).drop pos)
      have hdt := drop_text s pos (by omega)
      have hgo := decodeGo_at (s.extract pos s.size) (by rw [ByteArray.size_extract]; omega)
      have hsr : shR ((bl s).drop pos) = asR (Lib.decodeL ((bl s).drop pos)).1 (Lib.decodeL ((bl s).drop pos)).2 := rfl
      rw [show (s.extract pos s.size).data.toList = (bl s).drop pos from hdt] at hgo
      rw [decode_drop] at hnx
      rw [List.drop_drop] at hst1
      generalize hdd : Lib.decodeL ((bl s).drop pos) = dd at *
      obtain ⟨r, n⟩ := dd
      simp only at *
      have hrI : (r : Int) ≤ 1114111 := by omega
      have n1 := fun wx hb => unhide N1 r (s.extract pos s.size) wx hb hrI
      rw [hgo] at n1
      simp only at n1
      rw [← hsr] at n1
      have M1 := hide n1
      have HDN := hide (show dn ++ [shR ((bl s).drop pos)] ++ letters ((bl s).drop (pos + n)) = L by rw [← hdn, hst1]; simp)
      have HL17 := hide (show dn.length < L.length by rw [← hdn, hst1]; simp)
      have HTK := hide (show L.take dn.length = dn by rw [← hdn]; simp)
      generalize shR ((bl s).drop pos) = q at *
      obtain ⟨wi, hwi⟩ : ∃ wi, wi = wr.iterAt w.heap.size s (pos + n) := ⟨_, rfl⟩
      rw [← hwi] at hnx
      have hit2 : wi.heap[w.heap.size]? = some (.stringIter s (pos + n)) := by rw [hwi]; exact Lib.iterAt_heap wr w.heap.size s pos (pos + n) hit
      have hbi : Below w.heap.size w wi := by rw [hwi]; exact Lib.below_iterAt hbw (Nat.le_refl _) s (pos + n)
      have hvi : wi.ownsRow w.heap.size 21 1 (.slice va dn.length vc) dn.length (cellsR dn) := by rw [hwi]; exact own_iterAt hv hit (pos + n)
      have hs2 : ∀ wx, (Instr.slice 9 (.string s) (some (.int .i64 (pos : Int))) none none).run Tryd.prog wx = .ok (.string (s.extract pos s.size)) wx := fun wx => by
        have hx := run_slice_string_from_if (P := Tryd.prog) wx 9 s .i64 (pos : Int) Tryd.underlying9
        rw [if_pos ⟨by omega, by omega⟩, Int.toNat_natCast] at hx
        exact hx
      generalize s.extract pos s.size = rest at *
      have HIT := hide hit2; have HBI := hide hbi; have HVI := hide hvi
      have HPOS := hide (show pos + n ≤ s.size by omega)
      have HIP := hide (iter_of hit)
      have HNZ := hide hw1
      clear hit2 hbi hvi n1 hgo hst1 hdt hsr hdd hdn hbne hw1 hw2 hr1 hv hbw hit hwi hbs
      by_cases h16 : dn.length = 16
      · have t1 : ((dn.length : Int) == 16) = true := by rw [beq_iff_eq]; omega
        obtain ⟨g, cap, hgf, _, _⟩ := (unhide HVI).form (by omega)
        cases hgf
        have hst := (unhide HVI).stored 15 (.int .i32 62)
        have hcl := (unhide HVI).cells (g := g) rfl
        have hfr := (unhide HVI).frozenAt 15
        have hdx : (cellsR dn)[15]? ≠ none := by simp [cellsR]; omega
        obtain ⟨x15, hx15⟩ : ∃ x, (cellsR dn)[15]? = some x := by
          cases hq : (cellsR dn)[15]? with
          | none => exact absurd hq hdx
          | some x => exact ⟨x, rfl⟩
        have hc15 := hcl 15 x15 hx15
        rw [Addr.add_lit, Nat.zero_add] at hc15
        have hset : (cellsR dn).set 15 (.int .i32 62) = cellsR (dn.take 15 ++ [62]) := by
          apply List.ext_getElem?
          intro j
          simp only [cellsR, List.getElem?_set, List.length_map, List.getElem?_map]
          by_cases h1 : 15 = j
          · subst h1
            rw [if_pos rfl, if_pos (by omega), List.getElem?_append_right (by rw [List.length_take]; omega), List.length_take]
            simp [h16]
          · rw [if_neg h1]
            by_cases h2 : j < 15
            · rw [List.getElem?_append_left (by rw [List.length_take]; omega), List.getElem?_take, if_pos h2]
            · rw [List.getElem?_eq_none (show dn.length ≤ j by omega), List.getElem?_eq_none (by simp; omega)]
        have hlen : (dn.take 15 ++ [62]).length = dn.length := by simp; omega
        have hown : (wi.setCell ⟨g, 15, none⟩ (.int .i32 62)).ownsRow w.heap.size 21 1 (.slice (some ⟨g, 0, none⟩) dn.length vc) (dn.take 15 ++ [(62 : Int)]).length (cellsR (dn.take 15 ++ [62])) := by
          rw [hlen, ← hset]
          exact hst.1
        have hown2 : (wi.setCell ⟨g, 15, none⟩ (.int .i32 62)).ownsRow w.heap.size 21 1 (.slice (some ⟨g, 0, none⟩) (dn.take 15 ++ [(62 : Int)]).length vc) (dn.take 15 ++ [(62 : Int)]).length (cellsR (dn.take 15 ++ [62])) := by
          rw [hlen] at hown ⊢
          exact hown
        have hcv := conv_runes hown2
        rw [hlen] at hcv
        have HE := hide (show textR (dn.take 15 ++ [62]) = textR (shownL L) by
          have h1 := unhide HTK
          have h2 := unhide HL17
          rw [shownL, if_neg (by omega)]
          congr 2
          rw [← h1, List.take_take]
          congr 1
          omega)
        have HB := hide ((unhide HBI).setCell (p := ⟨g, 15, none⟩) ((unhide HVI).lt g rfl).1 (.int .i32 62))
        have h15 : (15 : Int) < (dn.length : Int) := by omega
        clear hst hcl hdx hx15 hset hlen hown hown2 h16
        go_wp2
        go_ret
        exact ⟨by rw [← unhide HE]; rfl, unhide HB⟩
      · have t1 : ((dn.length : Int) == 16) = false := by rw [beq_eq_false_iff_ne]; omega
        have HM1 := hide (show dn.length + 1 ≤ maxLen by unfold maxLen; omega)
        have HM2 := hide (show (dn.length + 1) * 4 ≤ 140737488355328 by omega)
        have HD16 := hide (show dn.length + 1 ≤ 16 by omega)
        clear h16
        go_wp2_with fail
        refine (unhide M1 _ (unhide HBI)).mono ?_
        rintro e w1 ⟨rfl, hb1⟩
        have hit3 := (hb1.block w.heap.size (by have := (Array.getElem?_eq_some_iff.1 (unhide HIT)).1; exact this)).trans (unhide HIT)
        have hbw1 : Below w.heap.size w w1 := (unhide HBI).trans (hb1.mono (unhide HBI).size)
        have own1 : w1.ownsRow w.heap.size 21 1 (.slice va dn.length vc) dn.length (cellsR dn) := by
          rcases (unhide HVI) with ⟨g1, g2⟩
          refine ⟨g1, ?_⟩
          rcases g2 with g2 | ⟨g, cap, cur, ge, g3, g4, g5⟩
          · exact .inl g2
          · exact .inr ⟨g, cap, cur, ge, g3, (hb1.block g (((unhide HVI).lt g (by rw [ge]; rfl)).2)).trans g4, g5⟩
        have HO1 := hide own1; have HB1 := hide hbw1; have HI3 := hide hit3
        clear hb1 own1 hbw1 hit3
        go_wp2_with (at_builtin; refine wpList_append_lies _ rfl _ _ 23 rfl w.heap.size 21 i0 (.int .i32 0) 1 4 Tryd.underlying23 hi hz0 hz1 hz2 rfl (by decide) _ _ _ rfl (World.ownsRow.alloc (unhide HO1) _) ⟨w1.heap.size, 0, none⟩ 1 1 [.int .i32 q] rfl rfl (World.news_of_block (heap_alloc_new _ _)) ?c2 ?c3 ?c4 ?c5 ?c6 (w1.heap.size + 1) ?c7 ?_)
        case c2 => intro u hu; simp at hu; subst hu; rfl
        case c3 => omega
        case c4 => exact unhide HM1
        case c5 => exact unhide HM2
        case c6 => have := (unhide HB1).size; simp; omega
        case c7 => simp
        intro g2 cap2 w3 own3 hgrow3 hat3 hlt3
        have hitl : w.heap.size < w1.heap.size := (Array.getElem?_eq_some_iff.1 (unhide HI3)).1
        have hit4 : w3.heap[w.heap.size]? = some (.stringIter s (pos + n)) := (hgrow3.block w.heap.size (by simp; omega) (own_ne_iter (unhide HO1) (unhide HI3))).trans ((Below.heap_alloc _ _ _ hitl).trans (unhide HI3))
        have hb3 : Below w.heap.size w w3 := ((unhide HB1).alloc (unhide HB1).size _).grown hgrow3 (by have := (unhide HB1).size; simp; omega) (fun z hz => ((unhide HO1).lt z hz).1)
        have OW := hide own3; have HB3 := hide hb3; have HI4 := hide hit4
        clear own3 hgrow3 hat3 hlt3 hb3 hit4 hitl
        go_wp2
        go_roundw
        case rel =>
          refine ⟨pos + n, dn ++ [q], unhide HPOS, unhide HI4, unhide HDN, by have := unhide HD16; simp; omega, ?_, unhide HB3⟩
          have := unhide OW
          rw [List.length_append, List.length_singleton, cellsR, List.map_append, List.map_cons, List.map_nil]
          exact this
        case measure =>
          have h1 := unhide HIP
          have h2 := iter_of (unhide HI4)
          have h3 := unhide HNZ
          have h4 := unhide HPOS
          rw [h1, h2]
          omega
    · have hnx := fun ty => Lib.run_next_end_at (P := Tryd.prog) wr w.heap.size s pos ty hit hlt
      rw [drop_nil s pos hlt, letters_nil, List.append_nil] at hdn
      subst hdn
      have hcv := conv_runes hv
      have HE := hide (show textR dn = textR (shownL dn) by rw [shownL, if_pos hd16])
      have HBW := hide hbw
      clear hv hbw hit
      go_wp2
      go_ret
      exact ⟨by rw [← unhide HE]; rfl, unhide HBW⟩
end Go.Proofs.YtmbjknffmaphbaeDoor
