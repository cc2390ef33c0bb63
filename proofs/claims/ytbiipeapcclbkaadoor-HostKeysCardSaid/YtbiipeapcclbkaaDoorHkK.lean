/- The document's Join. (Made by wip/drafts/genHkK.py.) -/
import Derived.Test.YtbiipeapcclbkaaDoorHkJ
import Derived.Deep.AppendLies
namespace Go.Proofs.YtbiipeapcclbkaaDoor
open Go.RowKit
set_option linter.unusedVariables false
set_option linter.unusedSimpArgs false
set_option maxRecDepth 100000

theorem empty_iffH (s : ByteArray) : s.toList.isEmpty = decide (s.size = 0) := by
  rw [Lib.toList_data]
  have e : s.size = s.data.toList.length := by simp
  rw [e]
  generalize s.data.toList = m
  cases m <;> simp

theorem mKey_empty {ms : List KV} {v : Int} (h : ∀ p ∈ ms, p.2.size = 16) : (mKey ms v).toList.isEmpty = !hasV ms v := by
  unfold mKey hasV
  cases hf : ms.find? (fun p => decide (p.1 = v)) with
  | none =>
    have : ms.any (fun p => decide (p.1 = v)) = false := by
      rw [List.any_eq_false]
      intro x hx
      simpa using List.find?_eq_none.1 hf x hx
    rw [this, empty_iffH]
    rfl
  | some p =>
    have h1 := List.mem_of_find?_eq_some hf
    have h2 := List.find?_some hf
    have : ms.any (fun p => decide (p.1 = v)) = true := List.any_eq_true.2 ⟨p, h1, h2⟩
    rw [this]
    have h16 := h p h1
    show p.2.toList.isEmpty = false
    rw [empty_iffH, h16]; rfl
theorem infoH : (Tryd.prog.info? 70).map (fun i => (i.zero, i.size, i.bytes)) = some (some (.agg #[.string ⟨#[]⟩, .string ⟨#[]⟩, .int .i64 0, .int .i64 0, .int .i64 0, .string ⟨#[]⟩, .slice none 0 0, .int .i64 0, .slice none 0 0, .string ⟨#[]⟩, .int .i64 0, .string ⟨#[]⟩, .slice none 0 0]), 13, 192) := by kernel_rfl
theorem info_partsH {P : Program} {t : TypeId} {z : Value} {s b : Nat} (h : (P.info? t).map (fun i => (i.zero, i.size, i.bytes)) = some (some z, s, b)) : ∃ i, P.info? t = some i ∧ i.zero = some z ∧ i.size = s ∧ i.bytes = b := by
  cases hi : P.info? t with
  | none => rw [hi] at h; cases h
  | some i =>
    rw [hi] at h
    injection h with h
    injection h with h1 h
    injection h with h2 h3
    exact ⟨i, rfl, h1, h2, h3⟩
/-- one account in the row -/
structure ROne (w : World) (r g cap : Nat) (ms : List KV) (ma : Option Addr) (mc : Nat) (lv : Value) (id : ByteArray) : Prop where
  host : RHost w r ms ma mc lv (.slice (some ⟨g, 0, none⟩) 1 cap)
  cell : w.cell? ⟨g, 0, none⟩ = some (.string id)
  lt : g < w.heap.size
  gt : r < g
theorem ROne.below {w w' : World} {r g cap : Nat} {ms : List KV} {ma : Option Addr} {mc : Nat} {lv : Value} {id : ByteArray} (h : ROne w r g cap ms ma mc lv id) (hb : Below w.heap.size w w') : ROne w' r g cap ms ma mc lv id :=
  ⟨h.host.below hb, (hb.cell (p := ⟨g, 0, none⟩) h.lt).trans h.cell, Nat.lt_of_lt_of_le h.lt hb.size, h.gt⟩
theorem own_first {w : World} {g cap : Nat} {x : Value} {xs : List Value} {e : TypeId} (h : w.ownsRow 0 e 13 (.slice (some ⟨g, 0, none⟩) 1 cap) 1 (x :: xs)) : w.cell? ⟨g, 0, none⟩ = some x := by
  rcases h.2 with ⟨h1, _⟩ | ⟨g', cap', cur, hv, hg, hh, _, _, _, htake⟩
  · cases h1
  · have hgg : g = g' := by injection hv with a; injection a with a; injection a
    subst hgg
    have h0 : cur[0]? = some x := by
      have : (cur.toList.take (1 * 13))[0]? = some x := by rw [htake]; rfl
      rw [List.getElem?_take_of_lt (by omega)] at this
      simpa using this
    unfold World.cell?
    rw [hh]
    simpa using h0
/-- the row is laid -/
theorem own_laid {w w4 w5 W : World} {r g3 cap3 : Nat} {ms : List KV} {ma : Option Addr} {mc : Nat} {lv : Value} {id : ByteArray} {xs : List Value} (hH : RHost w4 r ms ma mc lv (.slice none 0 0)) (hg : W.grownBy w5 none) (hW : ∀ i, i < w4.heap.size → W.heap[i]? = w4.heap[i]?) (hWs : W.heap.size = w4.heap.size + 1) (hBW : Below w.heap.size w W)
    (hown : w5.ownsRow 0 70 13 (.slice (some ⟨g3, 0, none⟩) 1 cap3) 1 (.string id :: xs)) (hat : g3 = w4.heap.size + 1) (hlt : g3 < w5.heap.size) :
    ROne (w5.setCell ⟨r, 2, none⟩ (.slice (some ⟨g3, 0, none⟩) 1 cap3)) r g3 cap3 ms ma mc lv id ∧ JPost w (w5.setCell ⟨r, 2, none⟩ (.slice (some ⟨g3, 0, none⟩) 1 cap3)) r := by
  have hrl := blkLtH hH.box
  have h5 : ∀ i, i < w4.heap.size → w5.heap[i]? = w4.heap[i]? := fun i hi => (hg.block i (by omega) (by intro h; cases h)).trans (hW i hi)
  have hx := (h5 r hrl).trans hH.box
  have hoff : ∀ (b j : Nat), b ≠ r → (w5.setCell ⟨r, 2, none⟩ (.slice (some ⟨g3, 0, none⟩) 1 cap3)).cell? ⟨b, j, none⟩ = w5.cell? ⟨b, j, none⟩ := fun b j hb => by
    unfold World.cell? World.setCell
    simp [Array.getElem?_modify, Ne.symm hb]
  have hB5 : Below w.heap.size w w5 := hBW.grown hg hBW.size (fun j hj => by cases hj)
  refine ⟨⟨⟨?_, ?_, hH.len, hH.apart⟩, ?_, by simpa [World.setCell] using hlt, by omega⟩, ⟨?_, fun i hi hne => ?_, fun B w0 hB hBs hb => ?_⟩⟩
  · unfold World.setCell
    simp [Array.getElem?_modify, hx]
  · rcases hH.row with h0 | ⟨b, off, e, hbl, hc⟩
    · exact .inl h0
    · have hbr := hH.apart b off none e
      have hb5 : ∀ j, w5.cell? ⟨b, j, none⟩ = w4.cell? ⟨b, j, none⟩ := fun j => by unfold World.cell?; rw [h5 b hbl]
      refine .inr ⟨b, off, e, ?_, fun i p hp => ?_⟩
      · have := hg.size
        simp only [World.setCell, Array.size_modify]; omega
      · obtain ⟨q1, q2⟩ := hc i p hp
        exact ⟨(hoff b _ hbr).trans ((hb5 _).trans q1), (hoff b _ hbr).trans ((hb5 _).trans q2)⟩
  · rw [hoff g3 0 (by omega)]; exact own_first hown
  · simp only [World.setCell, Array.size_modify]; exact hB5.size
  · unfold World.setCell
    simp only [Array.getElem?_modify, if_neg (Ne.symm hne)]
    exact hB5.block i hi
  · exact (hb.trans (hB5.mono hBs)).setCell (by exact hB) _
set_option maxHeartbeats 8000000 in
theorem rjoin1 (a : XAccount) (h1 : a.id.size ≤ maxLen) (h2 : a.pin.size ≤ maxLen) (r g cap : Nat) (ms : List KV) (ma : Option Addr) (mc : Nat) (lv : Value) (w : World) (h16 : ∀ p ∈ ms, p.2.size = 16) (h : ROne w r g cap ms ma mc lv a.id) :
    Calls Tryd.prog 9 #[.pointer (some ⟨r, 0, none⟩), valAccount a] w fun e w' => e = .returned (.int .i64 (joinE a (hasV ms a.version) true)) ∧ Below w.heap.size w w' := by
  obtain ⟨W1, hW1⟩ : ∃ W1, W1 = w.alloc (accObj a) := ⟨_, rfl⟩
  have hB1 : Below w.heap.size w W1 := by rw [hW1]; exact (Below.refl _ _).alloc (Nat.le_refl _) _
  have hX1 : W1.heap[w.heap.size]? = some (accObj a) := by rw [hW1]; exact heap_alloc_new _ _
  have hH1 := h.below hB1
  have HME := hide (mKey_empty (v := a.version) h16)
  have HJE : Hid (joinE a (hasV ms a.version) true = if (!digitsB a.id 8 19 || pinB a.pin) = true then 1 else if (!amB a.balance || !amB a.most) = true then 3 else if hasV ms a.version = false then 5 else if true = true then 6 else 0) := hide rfl
  generalize joinE a (hasV ms a.version) true = je at *
  generalize hasV ms a.version = kn at *
  have ND1 := hide (fun W => rdigits_any a.id 8 19 h1 W)
  have ND2 := hide (fun W => rdigits_any a.pin 4 12 h2 W)
  have NW1 := hide (fun W => ramount_any a.balance W)
  have NW2 := hide (fun W => ramount_any a.most W)
  have NM := hide (fun W (hb : Below W1.heap.size W1 W) => rmaster_any r ms ma mc lv (.slice (some ⟨g, 0, none⟩) 1 cap) a.version W (hH1.below hb).host)
  have NH := hide (fun W (hb : Below W1.heap.size W1 W) => rholder_one r g cap ms ma mc lv a.id W (hH1.below hb).host (hH1.below hb).cell)
  generalize mKey ms a.version = mk at *
  have NK := hide (fun W => rcardKey_any mk a.id h1 W)
  generalize ckS mk a.id = cks at *
  generalize ckE mk a.id = cke at *
  have HH := hide h; have HH1 := hide hH1; have HB1 := hide hB1; have HX1 := hide hX1; have HW1 := hide hW1
  have CA := hide (fun w' (hb : Below W1.heap.size W1 w') => accCells ((hb.block _ (blkLtH hX1)).trans hX1))
  unfold accObj at HW1
  obtain ⟨id, pin, bal, mo, ver⟩ := a
  unfold pinB amB at HJE
  unfold valAccount
  dsimp only at *
  clear h hH1 hB1 hX1 hW1 h1 h2 h16
  go_enter Tryd.func9, Tryd.ntmps9
  go_upto_region 1 with fail
  rw [← unhide HW1]
  obtain ⟨d0, d1, d2, d3, d4⟩ := unhide CA W1 (Below.refl _ _)
  have hje := unhide HJE
  obtain ⟨ep, hep⟩ : ∃ ep, pin.toList.isEmpty = ep := ⟨_, rfl⟩
  rw [hep] at hje
  obtain ⟨g1, hg1⟩ : ∃ g1, digitsB id 8 19 = g1 := ⟨_, rfl⟩
  obtain ⟨g2, hg2⟩ : ∃ g2, digitsB pin 4 12 = g2 := ⟨_, rfl⟩
  obtain ⟨g3, hg3⟩ : ∃ g3, inB bal 0 999999999999 = g3 := ⟨_, rfl⟩
  obtain ⟨g4, hg4⟩ : ∃ g4, inB mo 0 999999999999 = g4 := ⟨_, rfl⟩
  rw [hg1] at hje ND1
  rw [hg2] at hje ND2
  rw [hg3] at hje NW1
  rw [hg4] at hje NW2
  clear HJE hg1 hg2 hg3 hg4
  have HJE := hide hje
  clear hje HW1
  go_cut [22] from 8 to 21 (fun cv wx => cv = .bool (!g1 || (!ep && !g2)) ∧ wx = W1)
  case first =>
    go_wp2_with fail
    refine (unhide ND1 _).mono ?_
    rintro e w1 ⟨rfl, hw1⟩
    have hw1' := hw1.symm
    subst hw1'
    cases g1 with
    | false =>
      go_wp2_with fail
      go_meet
      exact ⟨rfl, rfl⟩
    | true =>
      cases ep with
      | true =>
        go_wp2_with fail
        go_meet
        exact ⟨rfl, rfl⟩
      | false =>
        go_wp2_with fail
        refine (unhide ND2 _).mono ?_
        rintro e w1 ⟨rfl, hw1⟩
        have hw1' := hw1.symm
        subst hw1'
        go_wp2_with fail
        go_meet
        exact ⟨by cases g2 <;> rfl, rfl⟩
  case rest =>
  obtain ⟨rfl, hwc⟩ := hcut
  have hwc' := hwc.symm
  subst hwc'
  have hje := unhide HJE
  clear HJE
  obtain ⟨b1, hb1⟩ : ∃ b1, (!g1 || (!ep && !g2)) = b1 := ⟨_, rfl⟩
  rw [hb1] at hje ⊢
  clear hb1
  cases b1 with
  | true =>
    have HJ : Hid (je = 1) := hide (by rw [hje]; rfl)
    clear hje
    go_wp2
    go_ret
    exact ⟨by rw [unhide HJ]; rfl, unhide HB1⟩
  | false =>
  rw [if_neg (by decide)] at hje
  have HJE := hide hje
  clear hje
  go_upto_region 3 with fail
  go_cut [32] from 23 to 31 (fun cv wx => cv = .bool (!g3 || !g4) ∧ wx = W1)
  case first =>
    go_wp2_with fail
    refine (unhide NW1 _).mono ?_
    rintro e w1 ⟨rfl, hw1⟩
    have hw1' := hw1.symm
    subst hw1'
    cases g3 with
    | false =>
      go_wp2_with fail
      go_meet
      exact ⟨rfl, rfl⟩
    | true =>
      go_wp2_with fail
      refine (unhide NW2 _).mono ?_
      rintro e w1 ⟨rfl, hw1⟩
      have hw1' := hw1.symm
      subst hw1'
      go_wp2_with fail
      go_meet
      exact ⟨by cases g4 <;> rfl, rfl⟩
  case rest =>
  obtain ⟨rfl, hwc⟩ := hcut
  have hwc' := hwc.symm
  subst hwc'
  have hje := unhide HJE
  clear HJE
  obtain ⟨b2, hb2⟩ : ∃ b2, (!g3 || !g4) = b2 := ⟨_, rfl⟩
  rw [hb2] at hje ⊢
  clear hb2
  cases b2 with
  | true =>
    have HJ : Hid (je = 3) := hide (by rw [hje]; rfl)
    clear hje
    go_wp2
    go_ret
    exact ⟨by rw [unhide HJ]; rfl, unhide HB1⟩
  | false =>
  rw [if_neg (by decide)] at hje
  go_wp2_with fail
  refine (unhide NM _ (Below.refl _ _)).mono ?_
  rintro e w2 ⟨rfl, hb2⟩
  obtain ⟨d0, d1, d2, d3, d4⟩ := unhide CA w2 hb2
  have HBa := hide ((unhide HB1).trans (hb2.mono (unhide HB1).size)); have HB2 := hide hb2
  clear hb2
  have hme := unhide HME
  cases kn with
  | false =>
    have hme : mk.toList.isEmpty = true := hme
    have HJ : Hid (je = 5) := hide (by rw [hje]; rfl)
    clear hje
    go_wp2
    go_ret
    exact ⟨by rw [unhide HJ]; rfl, unhide HBa⟩
  | true =>
  have hme : mk.toList.isEmpty = false := hme
  rw [if_neg (by decide)] at hje
  go_wp2_with fail
  refine (unhide NH _ (unhide HB2)).mono ?_
  rintro e w3 ⟨rfl, hw3⟩
  have hw3' := hw3.symm
  subst hw3'
  have HJ : Hid (je = 6) := hide (by rw [hje]; rfl)
  clear hje
  go_wp2
  go_ret
  exact ⟨by rw [unhide HJ]; rfl, unhide HBa⟩
set_option maxHeartbeats 8000000 in
theorem rjoin0 (a : XAccount) (h1 : a.id.size ≤ maxLen) (h2 : a.pin.size ≤ maxLen) (r : Nat) (ms : List KV) (ma : Option Addr) (mc : Nat) (lv : Value) (w : World) (h16 : ∀ p ∈ ms, p.2.size = 16) (h : RHost w r ms ma mc lv (.slice none 0 0)) :
    Calls Tryd.prog 9 #[.pointer (some ⟨r, 0, none⟩), valAccount a] w fun e w' => e = .returned (.int .i64 (joinE a (hasV ms a.version) false)) ∧ JPost w w' r ∧ (joinE a (hasV ms a.version) false = 0 → ∃ g cap, ROne w' r g cap ms ma mc lv a.id) ∧ (joinE a (hasV ms a.version) false ≠ 0 → RHost w' r ms ma mc lv (.slice none 0 0)) := by
  obtain ⟨W1, hW1⟩ : ∃ W1, W1 = w.alloc (accObj a) := ⟨_, rfl⟩
  have hB1 : Below w.heap.size w W1 := by rw [hW1]; exact (Below.refl _ _).alloc (Nat.le_refl _) _
  have hX1 : W1.heap[w.heap.size]? = some (accObj a) := by rw [hW1]; exact heap_alloc_new _ _
  have hH1 := h.below hB1
  have HME := hide (mKey_empty (v := a.version) h16)
  have HJE : Hid (joinE a (hasV ms a.version) false = if (!digitsB a.id 8 19 || pinB a.pin) = true then 1 else if (!amB a.balance || !amB a.most) = true then 3 else if hasV ms a.version = false then 5 else if false = true then 6 else 0) := hide rfl
  generalize joinE a (hasV ms a.version) false = je at *
  generalize hasV ms a.version = kn at *
  have ND1 := hide (fun W => rdigits_any a.id 8 19 h1 W)
  have ND2 := hide (fun W => rdigits_any a.pin 4 12 h2 W)
  have NW1 := hide (fun W => ramount_any a.balance W)
  have NW2 := hide (fun W => ramount_any a.most W)
  have NM := hide (fun W (hb : Below W1.heap.size W1 W) => rmaster_any r ms ma mc lv (.slice none 0 0) a.version W (hH1.below hb))
  have NH := hide (fun W (hb : Below W1.heap.size W1 W) => rholder_none r ms ma mc lv a.id W (hH1.below hb))
  generalize mKey ms a.version = mk at *
  have NK := hide (fun W => rcardKey_any mk a.id h1 W)
  generalize ckS mk a.id = cks at *
  generalize ckE mk a.id = cke at *
  have HH := hide h; have HH1 := hide hH1; have HB1 := hide hB1; have HX1 := hide hX1; have HW1 := hide hW1
  have CA := hide (fun w' (hb : Below W1.heap.size W1 w') => accCells ((hb.block _ (blkLtH hX1)).trans hX1))
  unfold accObj at HW1
  obtain ⟨id, pin, bal, mo, ver⟩ := a
  unfold pinB amB at HJE
  unfold valAccount
  dsimp only at *
  clear h hH1 hB1 hX1 hW1 h1 h2 h16
  go_enter Tryd.func9, Tryd.ntmps9
  go_upto_region 1 with fail
  rw [← unhide HW1]
  obtain ⟨d0, d1, d2, d3, d4⟩ := unhide CA W1 (Below.refl _ _)
  have hje := unhide HJE
  obtain ⟨ep, hep⟩ : ∃ ep, pin.toList.isEmpty = ep := ⟨_, rfl⟩
  rw [hep] at hje
  obtain ⟨g1, hg1⟩ : ∃ g1, digitsB id 8 19 = g1 := ⟨_, rfl⟩
  obtain ⟨g2, hg2⟩ : ∃ g2, digitsB pin 4 12 = g2 := ⟨_, rfl⟩
  obtain ⟨g3, hg3⟩ : ∃ g3, inB bal 0 999999999999 = g3 := ⟨_, rfl⟩
  obtain ⟨g4, hg4⟩ : ∃ g4, inB mo 0 999999999999 = g4 := ⟨_, rfl⟩
  rw [hg1] at hje ND1
  rw [hg2] at hje ND2
  rw [hg3] at hje NW1
  rw [hg4] at hje NW2
  clear HJE hg1 hg2 hg3 hg4
  have HJE := hide hje
  clear hje HW1
  go_cut [22] from 8 to 21 (fun cv wx => cv = .bool (!g1 || (!ep && !g2)) ∧ wx = W1)
  case first =>
    go_wp2_with fail
    refine (unhide ND1 _).mono ?_
    rintro e w1 ⟨rfl, hw1⟩
    have hw1' := hw1.symm
    subst hw1'
    cases g1 with
    | false =>
      go_wp2_with fail
      go_meet
      exact ⟨rfl, rfl⟩
    | true =>
      cases ep with
      | true =>
        go_wp2_with fail
        go_meet
        exact ⟨rfl, rfl⟩
      | false =>
        go_wp2_with fail
        refine (unhide ND2 _).mono ?_
        rintro e w1 ⟨rfl, hw1⟩
        have hw1' := hw1.symm
        subst hw1'
        go_wp2_with fail
        go_meet
        exact ⟨by cases g2 <;> rfl, rfl⟩
  case rest =>
  obtain ⟨rfl, hwc⟩ := hcut
  have hwc' := hwc.symm
  subst hwc'
  have hje := unhide HJE
  clear HJE
  obtain ⟨b1, hb1⟩ : ∃ b1, (!g1 || (!ep && !g2)) = b1 := ⟨_, rfl⟩
  rw [hb1] at hje ⊢
  clear hb1
  cases b1 with
  | true =>
    have HJ : Hid (je = 1) := hide (by rw [hje]; rfl)
    clear hje
    go_wp2
    go_ret
    exact ⟨by rw [unhide HJ]; rfl, JPost.of (unhide HB1), fun h => absurd ((unhide HJ).symm.trans h) (by decide), fun _ => (unhide HH).below (unhide HB1)⟩
  | false =>
  rw [if_neg (by decide)] at hje
  have HJE := hide hje
  clear hje
  go_upto_region 3 with fail
  go_cut [32] from 23 to 31 (fun cv wx => cv = .bool (!g3 || !g4) ∧ wx = W1)
  case first =>
    go_wp2_with fail
    refine (unhide NW1 _).mono ?_
    rintro e w1 ⟨rfl, hw1⟩
    have hw1' := hw1.symm
    subst hw1'
    cases g3 with
    | false =>
      go_wp2_with fail
      go_meet
      exact ⟨rfl, rfl⟩
    | true =>
      go_wp2_with fail
      refine (unhide NW2 _).mono ?_
      rintro e w1 ⟨rfl, hw1⟩
      have hw1' := hw1.symm
      subst hw1'
      go_wp2_with fail
      go_meet
      exact ⟨by cases g4 <;> rfl, rfl⟩
  case rest =>
  obtain ⟨rfl, hwc⟩ := hcut
  have hwc' := hwc.symm
  subst hwc'
  have hje := unhide HJE
  clear HJE
  obtain ⟨b2, hb2⟩ : ∃ b2, (!g3 || !g4) = b2 := ⟨_, rfl⟩
  rw [hb2] at hje ⊢
  clear hb2
  cases b2 with
  | true =>
    have HJ : Hid (je = 3) := hide (by rw [hje]; rfl)
    clear hje
    go_wp2
    go_ret
    exact ⟨by rw [unhide HJ]; rfl, JPost.of (unhide HB1), fun h => absurd ((unhide HJ).symm.trans h) (by decide), fun _ => (unhide HH).below (unhide HB1)⟩
  | false =>
  rw [if_neg (by decide)] at hje
  go_wp2_with fail
  refine (unhide NM _ (Below.refl _ _)).mono ?_
  rintro e w2 ⟨rfl, hb2⟩
  obtain ⟨d0, d1, d2, d3, d4⟩ := unhide CA w2 hb2
  have HBa := hide ((unhide HB1).trans (hb2.mono (unhide HB1).size)); have HB2 := hide hb2
  clear hb2
  have hme := unhide HME
  cases kn with
  | false =>
    have hme : mk.toList.isEmpty = true := hme
    have HJ : Hid (je = 5) := hide (by rw [hje]; rfl)
    clear hje
    go_wp2
    go_ret
    exact ⟨by rw [unhide HJ]; rfl, JPost.of (unhide HBa), fun h => absurd ((unhide HJ).symm.trans h) (by decide), fun _ => (unhide HH).below (unhide HBa)⟩
  | true =>
  have hme : mk.toList.isEmpty = false := hme
  rw [if_neg (by decide)] at hje
  go_wp2_with fail
  refine (unhide NH _ (unhide HB2)).mono ?_
  rintro e w3 ⟨rfl, hw3⟩
  have hw3' := hw3.symm
  subst hw3'
  have HJ : Hid (je = 0) := hide (by rw [hje]; rfl)
  clear hje
  have hH2 := (unhide HH1).below (unhide HB2)
  obtain ⟨c0, c2⟩ := hH2.cells
  have HH2 := hide hH2
  clear hH2
  go_wp2_with fail
  refine (unhide NK _).mono ?_
  rintro e w4 ⟨rfl, hb4⟩
  have hH4 := (unhide HH2).below hb4
  obtain ⟨c0, c2⟩ := hH4.cells
  have hb5 := (unhide HB2).trans (hb4.mono (unhide HB2).size)
  obtain ⟨d0, d1, d2, d3, d4⟩ := unhide CA w4 hb5
  have HH4 := hide hH4
  have HBc := hide ((unhide HBa).trans (hb4.mono (unhide HBa).size))
  have hrl : r < w4.heap.size := blkLtH hH4.box
  have hwl : w.heap.size < w4.heap.size := Nat.lt_of_lt_of_le (blkLtH (unhide HX1)) hb5.size
  clear hb4 hb5 hH4
  obtain ⟨i0, hi, hz0, hz1, hz2⟩ := info_partsH infoH
  have HI := hide hi; have Z0 := hide hz0; have Z1 := hide hz1; have Z2 := hide hz2
  clear hi hz0 hz1 hz2
  go_upto_region 13 with fail
  go_cut [] from 57 to 68 (fun wx => (∃ g cap, ROne wx r g cap ms ma mc lv id) ∧ JPost w wx r)
  case first =>
    go_wp2_with fail
    go_region_law ((refine step_append_lies _ (by rfl) _ _ _ (by rfl) 0 70 i0 _ 13 192 Tryd.underlying36 (unhide HI) (unhide Z0) (unhide Z1) (unhide Z2) rfl (by omega) (.slice none 0 0) 0 [] (by rfl) (World.ownsRow_nil _ _ _ _) ⟨w4.heap.size, 0, none⟩ 1 1 [.string id, .string pin, .int .i64 bal, .int .i64 mo, .int .i64 ver, .string cks, .slice none 0 0, .int .i64 0, .slice none 0 0, .string ⟨#[]⟩, .int .i64 (-1), .string ⟨#[]⟩, .slice none 0 0] (by rfl) (by rfl) (World.news_of_block (heap_alloc_new _ _)) (by simp [Value.oneCell']) (by omega) (by unfold maxLen; omega) (by omega) (by omega) (w4.heap.size + 1) (by simp) ?_; intro g3 cap3 w5 own3 hgrow hat3 hlt3; have hx5 := ((hgrow.block r (by simp; omega) (by intro h; cases h)).trans (Below.heap_alloc w4 _ r hrl)).trans (unhide HH4).box; have x2 : w5.cell? ⟨r, 2, none⟩ = some (.slice none 0 0) := (by simp [World.cell?, hx5]); have xf : w5.frozen? ⟨r, 2, none⟩ = false := (by simp [World.frozen?, hx5]); clear hx5))
    all_goals
      have HFI := hide (own_laid (unhide HH4) hgrow (fun i hi => Below.heap_alloc w4 _ i hi) (by simp) (((unhide HBc).alloc (unhide HBc).size _).drew) own3 (hat3.resolve_left (by intro h; cases h)) hlt3)
      clear own3 hgrow hat3 x2 xf
      go_wp2_with fail
      go_meet
      exact ⟨⟨g3, cap3, (unhide HFI).1⟩, (unhide HFI).2⟩
  case rest =>
    obtain ⟨⟨g, cap, hz⟩, hp⟩ := hcut
    have HZ := hide hz; have HP := hide hp
    clear hz hp
    go_wp2
    go_ret
    exact ⟨by rw [unhide HJ]; rfl, unhide HP, fun _ => ⟨g, cap, unhide HZ⟩, fun h => absurd (unhide HJ) h⟩
end Go.Proofs.YtbiipeapcclbkaaDoor
