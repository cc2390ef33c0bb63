/- A row that was written, taken apart: what was written. -/
import Derived.Test.YtfpglpefofcdeaaGreatDoorM20
import Derived.Test.YtfpglpefofcdeaaGreatDoorM21
import Derived.Test.YtfpglpefofcdeaaGreatDoorM03
namespace Go.Proofs.YtfpglpefofcdeaaGreatDoor
open Go.RowKit
set_option linter.unusedVariables false
set_option linter.unusedSimpArgs false

theorem eq_of_list {a b : ByteArray} (h : a.data.toList = b.data.toList) : a = b := ByteArray.ext (Array.toList_inj.1 h)
theorem size_list (a : ByteArray) : a.size = a.data.toList.length := by rw [Array.length_toList]; rfl
theorem cutR_row (fs : List ByteArray) : ∀ k, fs.length < k → (∀ s ∈ fs, s.size ≤ 65535) → cutR k (rowS fs) = fs := by
  induction fs with
  | nil =>
    intro k hk _
    obtain ⟨k', rfl⟩ : ∃ k', k = k' + 1 := ⟨k - 1, by simp at hk; omega⟩
    exact cutR_none (.inl (by show (0 : Nat) < 4; decide))
  | cons p r ih =>
    intro k hk hs
    obtain ⟨k', rfl⟩ : ∃ k', k = k' + 1 := ⟨k - 1, by simp at hk; omega⟩
    have hp := hs p (by simp)
    have hl4 : (bytesOf (bigL p.size 4)).length = 4 := by unfold bytesOf; rw [List.length_map, bigL_length]
    have hL : (rowS (p :: r)).data.toList = bytesOf (bigL p.size 4) ++ (p.data.toList ++ rowL r) := by rw [rowS_data]; simp [rowL, partL]
    have hsz : (rowS (p :: r)).size = 4 + (p.size + (rowL r).length) := by rw [size_list, hL, List.length_append, List.length_append, hl4, ← size_list]
    have e1 : ((rowS (p :: r)).extract 0 4).data.toList = bytesOf (bigL p.size 4) := by
      rw [extract_list, hL, List.drop_zero, List.take_append_of_le_length (by rw [hl4]; exact Nat.le_refl _)]
      exact List.take_of_length_le (by rw [hl4]; exact Nat.le_refl _)
    have e2 : ((rowS (p :: r)).extract 4 (rowS (p :: r)).size).data.toList = p.data.toList ++ rowL r := by
      rw [drop_extract, hL]
      exact List.drop_left' hl4
    have hv : readV ((rowS (p :: r)).extract 0 4) = (p.size : Int) := by
      have hz : ((rowS (p :: r)).extract 0 4).size = 4 := by rw [size_list, e1, hl4]
      have hn : valN ((rowS (p :: r)).extract 0 4).data.toList = p.size := by rw [e1]; exact valN_bigL p.size 4 (by omega)
      unfold readV
      rw [if_neg (by omega), hn, if_neg (by omega)]
    have hz2 : ((rowS (p :: r)).extract 4 (rowS (p :: r)).size).size = p.size + (rowL r).length := by rw [size_list, e2, List.length_append, ← size_list]
    rw [cutR_some (by omega) (by rw [hv, hz2]; omega), hv]
    have e3 : ((rowS (p :: r)).extract 4 (rowS (p :: r)).size).extract 0 (p.size : Int).toNat = p := by
      apply eq_of_list
      rw [extract_list, e2, List.drop_zero, Int.toNat_natCast, Nat.sub_zero]
      exact List.take_left' (size_list p).symm
    have e4 : ((rowS (p :: r)).extract 4 (rowS (p :: r)).size).extract (p.size : Int).toNat ((rowS (p :: r)).extract 4 (rowS (p :: r)).size).size = rowS r := by
      apply eq_of_list
      rw [drop_extract, e2, Int.toNat_natCast, rowS_data]
      exact List.drop_left' (size_list p).symm
    rw [e3, e4, ih k' (by simp at hk; omega) (fun s hs' => hs s (by simp [hs']))]
end Go.Proofs.YtfpglpefofcdeaaGreatDoor
namespace Go.Proofs.YtfpglpefofcdeaaGreatDoor
open Go.RowKit
set_option linter.unusedVariables false
set_option linter.unusedSimpArgs false

theorem numS_full {n : Int} {k : Nat} (h0 : 0 ≤ n) (h1 : n ≤ 9223372036854775807) (hk1 : 1 ≤ k) (hk8 : k ≤ 8) (h : n.toNat < 256 ^ k) : (numS n (k : Int)).size = k ∧ readV (numS n (k : Int)) = n := by
  obtain ⟨m, rfl⟩ := Int.eq_ofNat_of_zero_le h0
  have hok : numOk (m : Int) (k : Int) := (numOk_nat m k hk1 hk8).2 (by simpa using h)
  refine ⟨?_, (read_num _ _ h1 hok).1⟩
  rw [numS_yes hok, strOfNums_size, bigL_length]
  simp
theorem masks_back {d o f : Int} (h : masksE d o f = 0) : maskD (masksS d o f) = d ∧ maskO (masksS d o f) = o ∧ maskF (masksS d o f) = f := by
  have hb : (maskB d && maskB o && maskB f) = true := by
    unfold masksE at h
    by_cases hc : (maskB d && maskB o && maskB f) = true
    · exact hc
    · rw [if_neg hc] at h; cases h
  have hS : masksS d o f = numS d 2 ++ numS o 2 ++ numS f 2 := by unfold masksS; rw [if_pos hb]
  simp only [Bool.and_eq_true] at hb
  obtain ⟨⟨h1, h2⟩, h3⟩ := hb
  have g1 := inT_true.1 h1; have g2 := inT_true.1 h2; have g3 := inT_true.1 h3
  obtain ⟨s1, r1⟩ := numS_full (n := d) (k := 2) (by omega) (by omega) (by decide) (by decide) (by omega)
  obtain ⟨s2, r2⟩ := numS_full (n := o) (k := 2) (by omega) (by omega) (by decide) (by decide) (by omega)
  obtain ⟨s3, r3⟩ := numS_full (n := f) (k := 2) (by omega) (by omega) (by decide) (by decide) (by omega)
  have z1 : (numS d 2).data.toList.length = 2 := (size_list _).symm.trans s1
  have z2 : (numS o 2).data.toList.length = 2 := (size_list _).symm.trans s2
  have z3 : (numS f 2).data.toList.length = 2 := (size_list _).symm.trans s3
  have hL : (masksS d o f).data.toList = (numS d 2).data.toList ++ ((numS o 2).data.toList ++ (numS f 2).data.toList) := by rw [hS]; simp
  have hz : (masksS d o f).size = 6 := by rw [size_list, hL, List.length_append, List.length_append, z1, z2, z3]
  have e1 : (masksS d o f).extract 0 2 = numS d 2 := by
    apply eq_of_list
    rw [extract_list, hL, List.drop_zero]
    exact List.take_left' z1
  have e2 : (masksS d o f).extract 2 4 = numS o 2 := by
    apply eq_of_list
    rw [extract_list, hL, List.drop_left' z1]
    exact List.take_left' z2
  have e3 : (masksS d o f).extract 4 (masksS d o f).size = numS f 2 := by
    apply eq_of_list
    rw [drop_extract, hL, ← List.append_assoc]
    exact List.drop_left' (by rw [List.length_append, z1, z2])
  unfold maskD maskO maskF
  rw [if_pos hz, if_pos hz, if_pos hz, e1, e2, e3]
  exact ⟨r1, r2, r3⟩
theorem wayU_back (l : List XWay) (h : ∀ x ∈ l, inBw x = true) : wayU ((wayL l).map fun n => UInt8.ofNat n.toNat) = l := by
  induction l with
  | nil => rfl
  | cons x l ih =>
    have hx : (0 ≤ x.code ∧ x.code ≤ 63) ∧ (0 ≤ x.when ∧ x.when ≤ 7) := of_decide_eq_true (h x (by simp))
    have hi := ih (fun y hy => h y (by simp [hy]))
    obtain ⟨c, wn, nx⟩ := x
    dsimp only at hx
    simp only [wayL, wayN, List.cons_append, List.nil_append, List.map_cons, wayU]
    rw [hi]
    congr 1
    have a1 : ((UInt8.ofNat c.toNat).toNat : Int) = c := by rw [UInt8.toNat_ofNat', Nat.mod_eq_of_lt (by omega)]; omega
    have a2 : ((UInt8.ofNat wn.toNat).toNat : Int) = wn := by rw [UInt8.toNat_ofNat', Nat.mod_eq_of_lt (by omega)]; omega
    rw [a1, a2]
    cases nx <;> rfl
theorem ways_back {v : XWays} (h : waysE v = 0) : wayX (wayT v) = v.x ∧ wayY (wayT v) = v.y ∧ wayZ (wayT v) = v.list := by
  obtain ⟨hl, ⟨hx, hy⟩, _⟩ := waysE_zero h
  have hin := ways_in h
  obtain ⟨s1, r1⟩ := numS_full (n := v.x) (k := 8) (by omega) (by omega) (by decide) (by decide) (by omega)
  obtain ⟨s2, r2⟩ := numS_full (n := v.y) (k := 8) (by omega) (by omega) (by decide) (by decide) (by omega)
  have z1 : (numS v.x 8).data.toList.length = 8 := (size_list _).symm.trans s1
  have z2 : (numS v.y 8).data.toList.length = 8 := (size_list _).symm.trans s2
  have hL : (wayT v).data.toList = (numS v.x 8).data.toList ++ ((numS v.y 8).data.toList ++ (wayL v.list).map fun n => UInt8.ofNat n.toNat) := by
    unfold wayT
    simp [strOfNums]
  have hz : ¬ (wayT v).size < 16 := by rw [size_list, hL, List.length_append, List.length_append, z1, z2]; omega
  have e1 : (wayT v).extract 0 8 = numS v.x 8 := by
    apply eq_of_list
    rw [extract_list, hL, List.drop_zero]
    exact List.take_left' z1
  have e2 : (wayT v).extract 8 16 = numS v.y 8 := by
    apply eq_of_list
    rw [extract_list, hL, List.drop_left' z1]
    exact List.take_left' z2
  have e3 : (wayT v).data.toList.drop 16 = (wayL v.list).map fun n => UInt8.ofNat n.toNat := by
    rw [hL, ← List.append_assoc]
    exact List.drop_left' (by rw [List.length_append, z1, z2])
  unfold wayX wayY wayZ
  rw [if_neg hz, if_neg hz, if_neg hz, e1, e2, e3, wayU_back v.list hin]
  exact ⟨r1, r2, rfl⟩
end Go.Proofs.YtfpglpefofcdeaaGreatDoor
namespace Go.Proofs.YtfpglpefofcdeaaGreatDoor
open Go.RowKit
set_option linter.unusedVariables false
set_option linter.unusedSimpArgs false

theorem fileE_zero {f : Fl} (h : fileE f = 0) : idB f.id = true ∧ appsE f.apps = 0 ∧ waysE f.ways = 0 ∧ fieldsE f.row = 0 ∧ masksE f.md f.mo f.mf = 0 := by
  unfold fileE at h
  by_cases h1 : idB f.id = false
  · rw [if_pos h1] at h; cases h
  rw [if_neg h1] at h
  by_cases h2 : appsE f.apps = 0
  case neg => rw [if_pos h2] at h; exact absurd h h2
  rw [if_neg (by simpa using h2)] at h
  by_cases h3 : waysE f.ways = 0
  case neg => rw [if_pos h3] at h; exact absurd h h3
  rw [if_neg (by simpa using h3)] at h
  by_cases h4 : fieldsE f.row = 0
  case neg => rw [if_pos h4] at h; exact absurd h h4
  rw [if_neg (by simpa using h4)] at h
  exact ⟨by simpa using h1, h2, h3, h4, h⟩
/-- what stands in the text of a file is read as it was written -/
theorem file_back {f : Fl} (h : fileE f = 0) : cutR 65536 (fileS f) = fileL f ∧ readsL (appsS f.apps) = f.apps ∧ (wayX (wayT f.ways) = f.ways.x ∧ wayY (wayT f.ways) = f.ways.y ∧ wayZ (wayT f.ways) = f.ways.list) ∧
    (maskD (masksS f.md f.mo f.mf) = f.md ∧ maskO (masksS f.md f.mo f.mf) = f.mo ∧ maskF (masksS f.md f.mo f.mf) = f.mf) ∧ parsed (printS f.row).data.toList = f.row := by
  obtain ⟨h1, h2, h3, h4, h5⟩ := fileE_zero h
  refine ⟨?_, ?_, ways_back h3, masks_back h5, parsed_some (round_text f.row h4)⟩
  · have hS : fileS f = rowS (fileL f) := by unfold fileS; rw [if_pos h]
    rw [hS]
    refine cutR_row (fileL f) 65536 (by show (5 : Nat) < 65536; omega) ?_
    have hidz : f.id.size ≤ 19 := by
      unfold idB at h1
      have h2 := inT_true.1 (Bool.and_eq_true_iff.1 h1).1
      omega
    have e0 := appsS_size h2
    have e1 : (wayT f.ways).size ≤ 76 := by
      unfold wayT
      rw [ByteArray.size_append, ByteArray.size_append, strOfNums_size, wayL_len]
      have := numS_size f.ways.x 8; have := numS_size f.ways.y 8; have := (waysE_zero h3).1; omega
    have e2 : (masksS f.md f.mo f.mf).size ≤ 24 := by
      unfold masksS
      split
      · rw [ByteArray.size_append, ByteArray.size_append]
        have := numS_size f.md 2; have := numS_size f.mo 2; have := numS_size f.mf 2; omega
      · exact Nat.zero_le _
    have e3 : (printS f.row).size ≤ 400 := by
      rw [show printS f.row = strOfNums (textL f.row) by unfold printS; rw [if_pos h4], strOfNums_size]
      have := textL_length f.row; have := (fieldsE_zero h4).2; omega
    intro s hs
    simp only [fileL, List.mem_cons, List.not_mem_nil, or_false] at hs
    rcases hs with rfl | rfl | rfl | rfl | rfl <;> omega
  · unfold readsL appsS
    rw [if_pos h2, readA_of appP_item h2]
    rfl
end Go.Proofs.YtfpglpefofcdeaaGreatDoor
namespace Go.Proofs.YtfpglpefofcdeaaGreatDoor
open Go.RowKit
set_option linter.unusedVariables false
set_option linter.unusedSimpArgs false
set_option maxRecDepth 100000

theorem cellsF_getT : ∀ (fs : List (Int × Int)) (i : Nat), i < fs.length → (cellsF fs)[i * 2]? = some (.int .i64 (fs.getD i (0, 0)).1) ∧ (cellsF fs)[i * 2 + 1]? = some (.int .i64 (fs.getD i (0, 0)).2)
  | [], i, h => by simp at h
  | f :: r, 0, _ => by simp [cellsF]
  | f :: r, i + 1, h => by
    have := cellsF_getT r i (by simpa using h)
    have e : cellsF (f :: r) = .int .i64 f.1 :: .int .i64 f.2 :: cellsF r := by simp [cellsF]
    rw [e, show (i + 1) * 2 = i * 2 + 1 + 1 by omega]
    simpa using this
theorem frow_ownT {w : World} {base : Nat} {v : Value} {fs : List (Int × Int)} {e : TypeId} (h : w.ownsRow base e 2 v fs.length (cellsF fs)) : ∃ ao cap, v = .slice ao fs.length cap ∧ FRow w ao fs ∧ ∀ p, ao = some p → base ≤ p.block := by
  rcases h.2 with ⟨h1, h2⟩ | ⟨g, cap, cur, h1, h2, h3, h4, h5, h6, h7⟩
  · exact ⟨none, 0, by rw [h1, h2], .inl (List.length_eq_zero_iff.1 h2), fun p hp => by cases hp⟩
  · refine ⟨_, cap, h1, .inr ⟨g, 0, rfl, (h.lt g (by rw [h1]; rfl)).2, fun i hi => ?_⟩, fun p hp => by cases hp; exact h2⟩
    have hc := cellsF_getT fs i hi
    have hk := h.cells (g := g) (by rw [h1]; rfl)
    have ea : ∀ k, (⟨g, 0, none⟩ : Addr).add k = ⟨g, 0 + k, none⟩ := fun k => by unfold Addr.add; split <;> simp_all
    have k1 := hk _ _ hc.1
    have k2 := hk _ _ hc.2
    rw [ea] at k1 k2
    exact ⟨k1, k2⟩
theorem parseL_okT : ∀ (n : Nat) (l : List UInt8) (fs : List (Int × Int)), parseL n l = some fs → fs.length ≤ n ∧ FNums fs
  | 0, l, fs, h => by
    unfold parseL at h
    split at h
    · cases h; exact ⟨Nat.le_refl _, fun f hf => by cases hf⟩
    · cases h
  | n + 1, l, fs, h => by
    unfold parseL at h
    split at h
    · cases h; exact ⟨Nat.zero_le _, fun f hf => by cases hf⟩
    · split at h
      · cases h
      · rename_i f r hf
        cases hq : parseL n r with
        | none => rw [hq] at h; cases h
        | some gs =>
          rw [hq] at h
          cases h
          obtain ⟨h1, h2⟩ := parseL_okT n r gs hq
          refine ⟨by simp; omega, fun g hg => ?_⟩
          rcases List.mem_cons.1 hg with rfl | hg
          · unfold fieldAt at hf
            split at hf
            · rename_i hh
              cases hf
              have := (validB_lt hh.2.1).2
              dsimp only
              omega
            · cases hf
          · exact h2 g hg
theorem parsed_okT (l : List UInt8) : (parsed l).length ≤ 100 ∧ FNums (parsed l) := by
  cases h : parseL 100 l with
  | none => rw [parsed_none h]; exact ⟨Nat.zero_le _, fun f hf => by cases hf⟩
  | some fs => rw [parsed_some h]; exact parseL_okT 100 l fs h
theorem wayC_at (l : List XWay) (i : Nat) (x : XWay) (h : l[i]? = some x) : (wayC l)[i * 3]? = some (.int .i64 x.code) ∧ (wayC l)[i * 3 + 1]? = some (.int .i64 x.when) ∧ (wayC l)[i * 3 + 2]? = some (.bool x.next) := by
  induction l generalizing i with
  | nil => simp at h
  | cons y r ih =>
    cases i with
    | zero =>
      obtain rfl : y = x := by simpa using h
      exact ⟨rfl, rfl, rfl⟩
    | succ i =>
      obtain ⟨h0, h1, h2⟩ := ih i (by simpa using h)
      have e : ∀ j, (wayC (y :: r))[(i + 1) * 3 + j]? = (wayC r)[i * 3 + j]? := fun j => by
        rw [wayC, List.getElem?_append_right (by simp; omega)]
        congr 1
        simp; omega
      exact ⟨(e 0).trans h0, (e 1).trans h1, (e 2).trans h2⟩
theorem rowWay_own {w : World} {B : Nat} {v : Value} {l : List XWay} (h : w.ownsRow B 86 3 v l.length (wayC l)) (ho : ∀ x ∈ l, okWay w x) (hm : l.length ≤ maxLen) :
    ∃ ao cap, v = .slice ao l.length cap ∧ RowWay w ao l := by
  rcases h.2 with ⟨hv, hn⟩ | ⟨g, cap, cur, hv, hg, hh, _, _, _, htake⟩
  · exact ⟨none, 0, by rw [hv, hn], .inl (List.length_eq_zero_iff.1 hn), ho, hm⟩
  · refine ⟨_, cap, hv, .inr ⟨g, 0, rfl, block_ltQ hh, fun i x hx => ?_⟩, ho, hm⟩
    obtain ⟨h0, h1, h2⟩ := wayC_at l i x hx
    have hi : i < l.length := (List.getElem?_eq_some_iff.1 hx).1
    rw [← htake] at h0 h1 h2
    rw [List.getElem?_take_of_lt (by omega)] at h0 h1 h2
    rw [Nat.zero_add]
    exact ⟨by rw [cell_of_row _ _ _ _ _ _ hh, ← h0]; simp, by rw [cell_of_row _ _ _ _ _ _ hh, ← h1]; simp, by rw [cell_of_row _ _ _ _ _ _ hh, ← h2]; simp⟩
theorem wayU_ok (W : World) (l : List UInt8) : (∀ x ∈ wayU l, okWay W x) ∧ (wayU l).length ≤ l.length := by
  fun_induction wayU l with
  | case1 a b c r ih =>
    refine ⟨fun x hx => ?_, by simp; omega⟩
    rcases List.mem_cons.1 hx with rfl | hx
    · have h1 := a.toNat_lt; have h2 := b.toNat_lt
      exact ⟨⟨by dsimp only; omega, by dsimp only; omega⟩, ⟨by dsimp only; omega, by dsimp only; omega⟩⟩
    · exact ih.1 x hx
  | case2 => exact ⟨fun x hx => by (cases hx), Nat.zero_le _⟩
theorem wayZ_ok (W : World) (s : ByteArray) : (∀ x ∈ wayZ s, okWay W x) ∧ (wayZ s).length ≤ s.size := by
  unfold wayZ
  split
  · exact ⟨(fun x hx => by cases hx), Nat.zero_le _⟩
  · have h := wayU_ok W (s.data.toList.drop 16)
    have h2 : (s.data.toList.drop 16).length ≤ s.size := by rw [List.length_drop, size_list]; omega
    exact ⟨h.1, by omega⟩
theorem rowT_at : ∀ (l : List ByteArray) (i : Nat) (s : ByteArray), l[i]? = some s → (rowT l)[i]? = some (.string s)
  | [], i, s, h => by simp at h
  | x :: r, 0, s, h => by
    obtain rfl : x = s := by simpa using h
    rfl
  | x :: r, i + 1, s, h => rowT_at r i s (by simpa using h)
theorem row_cellT {w : World} {B : Nat} {v : Value} {l : List ByteArray} (h : w.ownsRow B 9 1 v l.length (rowT l)) :
    (l = [] ∧ v = .slice none 0 0) ∨ ∃ g cap, v = .slice (some ⟨g, 0, none⟩) l.length cap ∧ g < w.heap.size ∧ ∀ i s, l[i]? = some s → w.cell? ⟨g, i, none⟩ = some (.string s) := by
  rcases h.2 with ⟨hv, hn⟩ | ⟨g, cap, cur, hv, hg, hh, _, _, _, htake⟩
  · exact .inl ⟨List.length_eq_zero_iff.1 hn, hv⟩
  · refine .inr ⟨g, cap, hv, block_ltQ hh, fun i s hx => ?_⟩
    have h0 := rowT_at l i s hx
    have hi : i < l.length := (List.getElem?_eq_some_iff.1 hx).1
    rw [← htake, List.getElem?_take_of_lt (by omega)] at h0
    rw [cell_of_row _ _ _ _ _ _ hh, ← h0]; simp
/-- a file, whatever its addresses -/
def Fl.strip (f : Fl) : Fl := { f with apo := none, apc := 0, ways := { f.ways with listo := none, listc := 0 }, ro := none, rc := 0 }
theorem fileE_strip (f : Fl) : fileE f.strip = fileE f := rfl
theorem fileS_strip (f : Fl) : fileS f.strip = fileS f := rfl
def flZ : Fl := ⟨⟨#[]⟩, none, [], 0, ⟨#[]⟩, ⟨#[]⟩, ⟨#[]⟩, ⟨#[]⟩, ⟨0, 0, none, [], 0⟩, 0, 0, 0, none, [], 0⟩
/-- the file of five parts -/
def flQ (p0 p1 p2 p3 p4 : ByteArray) : Fl := ⟨p0, none, readsL p1, 0, ⟨#[]⟩, ⟨#[]⟩, ⟨#[]⟩, ⟨#[]⟩, ⟨wayX p2, wayY p2, none, wayZ p2, 0⟩, maskD p3, maskO p3, maskF p3, none, parsed p4.data.toList, 0⟩
def flL : List ByteArray → Fl
  | [p0, p1, p2, p3, p4] => flQ p0 p1 p2 p3 p4
  | _ => flZ
/-- the file of a text -/
def flP (s : ByteArray) : Fl := flL (cutR 65536 s)
theorem flL_five {l : List ByteArray} (h : l.length = 5) : ∃ p0 p1 p2 p3 p4, l = [p0, p1, p2, p3, p4] := by
  match l, h with
  | [p0, p1, p2, p3, p4], _ => exact ⟨p0, p1, p2, p3, p4, rfl⟩
theorem flL_not {l : List ByteArray} (h : l.length ≠ 5) : flL l = flZ := by
  match l, h with
  | [], _ => rfl
  | [_], _ => rfl
  | [_, _], _ => rfl
  | [_, _, _], _ => rfl
  | [_, _, _, _], _ => rfl
  | [_, _, _, _, _], h => exact absurd rfl h
  | _ :: _ :: _ :: _ :: _ :: _ :: _, _ => rfl
theorem cutR_le (k : Nat) : ∀ s, ∀ p ∈ cutR k s, p.size ≤ s.size := by
  induction k with
  | zero => intro s p hp; simp [cutR] at hp
  | succ k ih =>
    intro s p hp
    by_cases h : s.size < 4 ∨ ((s.extract 4 s.size).size : Int) < readV (s.extract 0 4)
    · rw [cutR_none h] at hp; cases hp
    · rw [cutR_some (fun h4 => h (.inl h4)) (fun hn => h (.inr hn))] at hp
      rcases List.mem_cons.1 hp with rfl | hp
      · rw [ByteArray.size_extract, ByteArray.size_extract]; omega
      · have := ih _ p hp
        rw [ByteArray.size_extract, ByteArray.size_extract] at this
        omega
end Go.Proofs.YtfpglpefofcdeaaGreatDoor
namespace Go.Proofs.YtfpglpefofcdeaaGreatDoor
open Go.RowKit
set_option linter.unusedVariables false
set_option linter.unusedSimpArgs false
set_option maxRecDepth 100000

/-- cells stored one by one: the whole row -/
theorem setCells_rowT (g : Nat) (t : TypeId) : ∀ (vs : List Value) (i : Nat) (cur : Array Value) (w : World), w.heap[g]? = some (.cells cur t (0, 0)) → i + vs.length = cur.size →
    w.setCells g i vs = w.setRow g (cur.toList.take i ++ vs).toArray
  | [], i, cur, w, hg, hl => by
    have e : cur.toList.take i = cur.toList := List.take_of_length_le (by simp at hl ⊢; omega)
    rw [List.append_nil, e, Array.toArray_toList, setRow_self w g cur t (0, 0) hg]
    rfl
  | v :: r, i, cur, w, hg, hl => by
    have hi : i < cur.size := by simp at hl; omega
    show (w.setCell ⟨g, i, none⟩ v).setCells g (i + 1) r = _
    rw [setCell_eq_setRow w g i cur t (0, 0) v hg,
      setCells_rowT g t r (i + 1) (cur.setIfInBounds i v) _ (setRow_heap w g cur _ t _ hg) (by simp at hl ⊢; omega), setRow_setRow]
    congr 2
    have e : (cur.setIfInBounds i v).toList.take (i + 1) = cur.toList.take i ++ [v] := by
      rw [Array.toList_setIfInBounds, List.take_add_one, List.take_set_of_le (Nat.le_refl _)]
      congr 1
      rw [List.getElem?_set_self (by simpa using hi)]
      rfl
    rw [e, List.append_assoc]
    rfl
theorem setCells_allT {g : Nat} {t : TypeId} {vs : List Value} {cur : Array Value} {w : World} (hg : w.heap[g]? = some (.cells cur t (0, 0))) (hl : vs.length = cur.size) : w.setCells g 0 vs = w.setRow g vs.toArray := by
  rw [setCells_rowT g t vs 0 cur w hg (by omega)]; rfl
theorem step_storeT {P : Program} {ops : Array Oper} {o : Oper} {a : Act} {w : World} {K : Act → World → Prop} {Q : Exit → Act → World → Prop} {E : Prop} (hw : Region.wanted o (yielded ops a.tmps) = true) (ty : TypeId) (x y : Operand) (ho : o.op = .store ty x y)
    (g : Nat) (cells : Array Value) (hx : a.eval x = .pointer (some ⟨g, 0, none⟩)) (hy : a.eval y = .agg cells) (t : TypeId) (old : Array Value) (hg : w.heap[g]? = some (.cells old t (0, 0))) (hi : (P.info? ty).map (·.size) = some cells.size)
    (hold : old.size = cells.size) (h1 : cells.all (·.oneCell') = true) (h : K (a.put o.dst undef) (w.setRow g cells)) :
    if Region.wanted o (yielded ops a.tmps) = true then Oper.wp P o a w K Q else E := by
  rw [if_pos hw]; exact wp_store_row ty x y ho g cells hx hy t old hg hi hold h1 h
theorem belowTr {a b c : World} (h : Below a.heap.size a b) (k : Below b.heap.size b c) : Below a.heap.size a c := h.trans (k.mono h.size)
theorem setRow_belowT {B g : Nat} {w w' : World} {cs : Array Value} (h : Below B w w') (hB : B ≤ g) : Below B w (w'.setRow g cs) :=
  ⟨h.os, h.tape, h.output, by simpa [World.setRow] using h.size, fun q hq => by
    rw [← h.block q hq]
    simp only [World.setRow]
    rw [Array.getElem?_modify, if_neg (by omega)]⟩
theorem setRow_otherT {g q : Nat} {w : World} {cs : Array Value} (h : q ≠ g) : (w.setRow g cs).heap[q]? = w.heap[q]? := by
  simp only [World.setRow]
  rw [Array.getElem?_modify, if_neg (by omega)]
theorem setRow_sizeT {g : Nat} {w : World} {cs : Array Value} : (w.setRow g cs).heap.size = w.heap.size := by simp [World.setRow]
theorem cell_setRowT {g : Nat} {w : World} {cs : Array Value} {p : Addr} (h : p.block ≠ g) : (w.setRow g cs).cell? p = w.cell? p := by
  unfold World.cell?
  rw [setRow_otherT h]
/-- cells without a truth among them -/
def NoB (old : Array Value) : Prop := ∀ (k : Nat) (b : Bool), old[k]? ≠ some (Value.bool b)
def isB : Value → Bool
  | .bool _ => true
  | _ => false
theorem noB_of {old : List Value} (h : old.all (fun v => !isB v) = true) : NoB old.toArray := fun k b hk => by
  have hm := Array.mem_of_getElem? hk
  have := List.all_eq_true.1 h _ (by simpa using hm)
  cases this
theorem rowApp_setT {w : World} {g : Nat} {cs old : Array Value} {t : TypeId} {fr : Nat × Nat} {ao : Option Addr} {l : List XApp} (h : RowApp w ao l) (hg : w.heap[g]? = some (.cells old t fr)) (hn : NoB old) : RowApp (w.setRow g cs) ao l := by
  obtain ⟨h, ho, hm⟩ := h
  refine ⟨?_, fun x hx => ho x hx, hm⟩
  cases l with
  | nil => exact .inl rfl
  | cons x r =>
    rcases h with h | ⟨b, off, e, hlt, hc⟩
    · cases h
    · have hb : b ≠ g := by
        rintro rfl
        have h3 := (hc 0 x rfl).2.2.2
        rw [cell_of_row _ _ _ _ _ _ hg] at h3
        exact hn _ _ h3
      refine .inr ⟨b, off, e, by rw [setRow_sizeT]; exact hlt, fun i y hy => ?_⟩
      obtain ⟨c0, c1, c2, c3⟩ := hc i y hy
      exact ⟨(cell_setRowT hb).trans c0, (cell_setRowT hb).trans c1, (cell_setRowT hb).trans c2, (cell_setRowT hb).trans c3⟩
theorem rowWay_setT {w : World} {g : Nat} {cs old : Array Value} {t : TypeId} {fr : Nat × Nat} {ao : Option Addr} {l : List XWay} (h : RowWay w ao l) (hg : w.heap[g]? = some (.cells old t fr)) (hn : NoB old) : RowWay (w.setRow g cs) ao l := by
  obtain ⟨h, ho, hm⟩ := h
  refine ⟨?_, fun x hx => ho x hx, hm⟩
  cases l with
  | nil => exact .inl rfl
  | cons x r =>
    rcases h with h | ⟨b, off, e, hlt, hc⟩
    · cases h
    · have hb : b ≠ g := by
        rintro rfl
        have h3 := (hc 0 x rfl).2.2
        rw [cell_of_row _ _ _ _ _ _ hg] at h3
        exact hn _ _ h3
      refine .inr ⟨b, off, e, by rw [setRow_sizeT]; exact hlt, fun i y hy => ?_⟩
      obtain ⟨c0, c1, c2⟩ := hc i y hy
      exact ⟨(cell_setRowT hb).trans c0, (cell_setRowT hb).trans c1, (cell_setRowT hb).trans c2⟩
theorem frow_setT {w : World} {g : Nat} {cs : Array Value} {ao : Option Addr} {l : List (Int × Int)} (h : FRow w ao l) (hb : ∀ p, ao = some p → g < p.block) : FRow (w.setRow g cs) ao l := by
  rcases h with h | ⟨b, off, e, hlt, hc⟩
  · exact .inl h
  · have hne : b ≠ g := fun h => by have := hb _ e; dsimp only at this; omega
    refine .inr ⟨b, off, e, by rw [setRow_sizeT]; exact hlt, fun i hi => ⟨(cell_setRowT hne).trans (hc i hi).1, (cell_setRowT hne).trans (hc i hi).2⟩⟩
theorem flOK_setT {w : World} {g : Nat} {cs old : Array Value} {t : TypeId} {fr : Nat × Nat} {f : Fl} (h : FlOK w f) (hg : w.heap[g]? = some (.cells old t fr)) (hn : NoB old) (hb : ∀ p, f.ro = some p → g < p.block) : FlOK (w.setRow g cs) f :=
  ⟨h.idz, rowApp_setT h.apps hg hn, rowWay_setT h.ways hg hn, frow_setT h.row hb, h.nums, h.len, h.md, h.mo, h.mf⟩
theorem ent_waysOf (args : Array Value) (w : World) : (callFunc 95 args).run Tryz.prog w = .ok (.enter 95 args) w := by kernel_rfl
theorem ent_masksOf (args : Array Value) (w : World) : (callFunc 96 args).run Tryz.prog w = .ok (.enter 96 args) w := by kernel_rfl
theorem infoFl : (Tryz.prog.info? 33).map (·.size) = some 13 := by kernel_rfl
theorem flC_one (f : Fl) : (flC f).all (·.oneCell') = true := by simp [flC, Value.oneCell']
theorem slice_ownT {w : World} {B : Nat} {v : Value} {l : List ByteArray} (h : w.ownsRow B 9 1 v l.length (rowT l)) : ∃ ao cap, v = .slice ao l.length cap := by
  rcases row_cellT h with ⟨rfl, hv⟩ | ⟨g, cap, hv, _, _⟩
  · exact ⟨_, _, hv⟩
  · exact ⟨_, _, hv⟩
set_option maxHeartbeats 4000000 in
theorem fileOf_no (s : ByteArray) (w : World) (hs : s.size ≤ 65535) (h : (cutR 65536 s).length ≠ 5) :
    Calls Tryz.prog 58 #[.string s] w fun e w' => e = .returned (.agg (flC flZ)) ∧ Below w.heap.size w w' := by
  obtain ⟨W1, hW1⟩ : ∃ W1, W1 = w.alloc (.cells #[.string ⟨#[]⟩, .slice none 0 0, .string ⟨#[]⟩, .string ⟨#[]⟩, .string ⟨#[]⟩, .string ⟨#[]⟩, .int .i64 0, .int .i64 0, .slice none 0 0, .int .i64 0, .int .i64 0, .int .i64 0, .slice none 0 0] 33) := ⟨_, rfl⟩
  have hB1 : Below w.heap.size w W1 := by rw [hW1]; exact (Below.refl _ _).alloc (Nat.le_refl _) _
  have hX1 : W1.heap[w.heap.size]? = some (.cells #[.string ⟨#[]⟩, .slice none 0 0, .string ⟨#[]⟩, .string ⟨#[]⟩, .string ⟨#[]⟩, .string ⟨#[]⟩, .int .i64 0, .int .i64 0, .slice none 0 0, .int .i64 0, .int .i64 0, .int .i64 0, .slice none 0 0] 33 (0, 0)) := by rw [hW1]; exact heap_alloc_new _ _
  have N1 := hide (cutRow_any s W1 hs)
  have t1 : (((cutR 65536 s).length : Int) != 5) = true := by simp; omega
  generalize cutR 65536 s = L at *
  have HB1 := hide hB1; have HX1 := hide hX1; have HW1 := hide hW1
  clear hs h hB1 hX1 hW1
  go_enter Tryz.func58, Tryz.ntmps58
  go_upto_region 1 with fail
  rw [← unhide HW1]
  go_wp2_with fail
  refine (unhide N1).mono ?_
  rintro e y1 ⟨⟨v, rfl, hrow⟩, k1⟩
  obtain ⟨ao, cap, rfl⟩ := slice_ownT hrow
  have x1 := (k1.block _ (block_ltQ (unhide HX1))).trans (unhide HX1)
  have HX2 := hide x1
  have HB2 := hide ((unhide HB1).trans (k1.mono (unhide HB1).size))
  clear hrow k1 x1 HB1 HX1 N1 HW1
  go_wp2_with (refine wpList_store_row rfl _ _ _ rfl w.heap.size (flC flZ) rfl rfl _ _ (unhide HX2) infoFl rfl (flC_one _) ?_)
  refine bodyPost_ret (v := .agg (flC flZ)) (results_cell_row rfl _ _ w.heap.size 33 (flC flZ) (0, 0) _ rfl (setRow_heap _ _ _ _ _ _ (unhide HX2)) Tryz.underlying33 rfl infoFl) rfl ⟨rfl, setRow_belowT (unhide HB2) (Nat.le_refl _)⟩
end Go.Proofs.YtfpglpefofcdeaaGreatDoor
