/- A row that was written, taken apart: what was written. -/
import Derived.Test.YtfpglpefofcdeaaGreatDoorM43
import Derived.Test.YtfpglpefofcdeaaGreatDoorM44
import Derived.Test.YtfpglpefofcdeaaGreatDoorM14
import Derived.Test.YtfpglpefofcdeaaGreatDoorM42
namespace Go.Proofs.YtfpglpefofcdeaaGreatDoor
open Go.RowKit
set_option linter.unusedVariables false
set_option linter.unusedSimpArgs false

theorem eq_of_list {a b : ByteArray} (h : a.data.toList = b.data.toList) : a = b := ByteArray.ext (Array.toList_inj.1 h)
theorem size_list (a : ByteArray) : a.size = a.data.toList.length := by rw [Array.length_toList]; rfl
theorem cutR_row (fs : List ByteArray) : ∀ k, fs.length < k → (∀ s ∈ fs, s.size ≤ 65535) → cutR k (rowS fs) = fs := by
  induction fs with
  | nil =>
    intro k hk _
    obtain ⟨k', rfl⟩ : ∃ k', k = k' + 1 := ⟨k - 1, by simp at hk; omega⟩
    exact cutR_none (.inl (by show (0 : Nat) < 4; decide))
  | cons p r ih =>
    intro k hk hs
    obtain ⟨k', rfl⟩ : ∃ k', k = k' + 1 := ⟨k - 1, by simp at hk; omega⟩
    have hp := hs p (by simp)
    have hl4 : (bytesOf (bigL p.size 4)).length = 4 := by unfold bytesOf; rw [List.length_map, bigL_length]
    have hL : (rowS (p :: r)).data.toList = bytesOf (bigL p.size 4) ++ (p.data.toList ++ rowL r) := by rw [rowS_data]; simp [rowL, partL]
    have hsz : (rowS (p :: r)).size = 4 + (p.size + (rowL r).length) := by rw [size_list, hL, List.length_append, List.length_append, hl4, ← size_list]
    have e1 : ((rowS (p :: r)).extract 0 4).data.toList = bytesOf (bigL p.size 4) := by
      rw [extract_list, hL, List.drop_zero, List.take_append_of_le_length (by rw [hl4]; exact Nat.le_refl _)]
      exact List.take_of_length_le (by rw [hl4]; exact Nat.le_refl _)
    have e2 : ((rowS (p :: r)).extract 4 (rowS (p :: r)).size).data.toList = p.data.toList ++ rowL r := by
      rw [drop_extract, hL]
      exact List.drop_left' hl4
    have hv : readV ((rowS (p :: r)).extract 0 4) = (p.size : Int) := by
      have hz : ((rowS (p :: r)).extract 0 4).size = 4 := by rw [size_list, e1, hl4]
      have hn : valN ((rowS (p :: r)).extract 0 4).data.toList = p.size := by rw [e1]; exact valN_bigL p.size 4 (by omega)
      unfold readV
      rw [if_neg (by omega), hn, if_neg (by omega)]
    have hz2 : ((rowS (p :: r)).extract 4 (rowS (p :: r)).size).size = p.size + (rowL r).length := by rw [size_list, e2, List.length_append, ← size_list]
    rw [cutR_some (by omega) (by rw [hv, hz2]; omega), hv]
    have e3 : ((rowS (p :: r)).extract 4 (rowS (p :: r)).size).extract 0 (p.size : Int).toNat = p := by
      apply eq_of_list
      rw [extract_list, e2, List.drop_zero, Int.toNat_natCast, Nat.sub_zero]
      exact List.take_left' (size_list p).symm
    have e4 : ((rowS (p :: r)).extract 4 (rowS (p :: r)).size).extract (p.size : Int).toNat ((rowS (p :: r)).extract 4 (rowS (p :: r)).size).size = rowS r := by
      apply eq_of_list
      rw [drop_extract, e2, Int.toNat_natCast, rowS_data]
      exact List.drop_left' (size_list p).symm
    rw [e3, e4, ih k' (by simp at hk; omega) (fun s hs' => hs s (by simp [hs']))]
end Go.Proofs.YtfpglpefofcdeaaGreatDoor
namespace Go.Proofs.YtfpglpefofcdeaaGreatDoor
open Go.RowKit
set_option linter.unusedVariables false
set_option linter.unusedSimpArgs false

theorem numS_full {n : Int} {k : Nat} (h0 : 0 ≤ n) (h1 : n ≤ 9223372036854775807) (hk1 : 1 ≤ k) (hk8 : k ≤ 8) (h : n.toNat < 256 ^ k) : (numS n (k : Int)).size = k ∧ readV (numS n (k : Int)) = n := by
  obtain ⟨m, rfl⟩ := Int.eq_ofNat_of_zero_le h0
  have hok : numOk (m : Int) (k : Int) := (numOk_nat m k hk1 hk8).2 (by simpa using h)
  refine ⟨?_, (read_num _ _ h1 hok).1⟩
  rw [numS_yes hok, strOfNums_size, bigL_length]
  simp
theorem masks_back {d o f : Int} (h : masksE d o f = 0) : maskD (masksS d o f) = d ∧ maskO (masksS d o f) = o ∧ maskF (masksS d o f) = f := by
  have hb : (maskB d && maskB o && maskB f) = true := by
    unfold masksE at h
    by_cases hc : (maskB d && maskB o && maskB f) = true
    · exact hc
    · rw [if_neg hc] at h; cases h
  have hS : masksS d o f = numS d 2 ++ numS o 2 ++ numS f 2 := by unfold masksS; rw [if_pos hb]
  simp only [Bool.and_eq_true] at hb
  obtain ⟨⟨h1, h2⟩, h3⟩ := hb
  have g1 := inT_true.1 h1; have g2 := inT_true.1 h2; have g3 := inT_true.1 h3
  obtain ⟨s1, r1⟩ := numS_full (n := d) (k := 2) (by omega) (by omega) (by decide) (by decide) (by omega)
  obtain ⟨s2, r2⟩ := numS_full (n := o) (k := 2) (by omega) (by omega) (by decide) (by decide) (by omega)
  obtain ⟨s3, r3⟩ := numS_full (n := f) (k := 2) (by omega) (by omega) (by decide) (by decide) (by omega)
  have z1 : (numS d 2).data.toList.length = 2 := (size_list _).symm.trans s1
  have z2 : (numS o 2).data.toList.length = 2 := (size_list _).symm.trans s2
  have z3 : (numS f 2).data.toList.length = 2 := (size_list _).symm.trans s3
  have hL : (masksS d o f).data.toList = (numS d 2).data.toList ++ ((numS o 2).data.toList ++ (numS f 2).data.toList) := by rw [hS]; simp
  have hz : (masksS d o f).size = 6 := by rw [size_list, hL, List.length_append, List.length_append, z1, z2, z3]
  have e1 : (masksS d o f).extract 0 2 = numS d 2 := by
    apply eq_of_list
    rw [extract_list, hL, List.drop_zero]
    exact List.take_left' z1
  have e2 : (masksS d o f).extract 2 4 = numS o 2 := by
    apply eq_of_list
    rw [extract_list, hL, List.drop_left' z1]
    exact List.take_left' z2
  have e3 : (masksS d o f).extract 4 (masksS d o f).size = numS f 2 := by
    apply eq_of_list
    rw [drop_extract, hL, ← List.append_assoc]
    exact List.drop_left' (by rw [List.length_append, z1, z2])
  unfold maskD maskO maskF
  rw [if_pos hz, if_pos hz, if_pos hz, e1, e2, e3]
  exact ⟨r1, r2, r3⟩
theorem wayU_back (l : List XWay) (h : ∀ x ∈ l, inBw x = true) : wayU ((wayL l).map fun n => UInt8.ofNat n.toNat) = l := by
  induction l with
  | nil => rfl
  | cons x l ih =>
    have hx : (0 ≤ x.code ∧ x.code ≤ 63) ∧ (0 ≤ x.when ∧ x.when ≤ 7) := of_decide_eq_true (h x (by simp))
    have hi := ih (fun y hy => h y (by simp [hy]))
    obtain ⟨c, wn, nx⟩ := x
    dsimp only at hx
    simp only [wayL, wayN, List.cons_append, List.nil_append, List.map_cons, wayU]
    rw [hi]
    congr 1
    have a1 : ((UInt8.ofNat c.toNat).toNat : Int) = c := by rw [UInt8.toNat_ofNat', Nat.mod_eq_of_lt (by omega)]; omega
    have a2 : ((UInt8.ofNat wn.toNat).toNat : Int) = wn := by rw [UInt8.toNat_ofNat', Nat.mod_eq_of_lt (by omega)]; omega
    rw [a1, a2]
    cases nx <;> rfl
theorem ways_back {v : XWays} (h : waysE v = 0) : wayX (wayT v) = v.x ∧ wayY (wayT v) = v.y ∧ wayZ (wayT v) = v.list := by
  obtain ⟨hl, ⟨hx, hy⟩, _⟩ := waysE_zero h
  have hin := ways_in h
  obtain ⟨s1, r1⟩ := numS_full (n := v.x) (k := 8) (by omega) (by omega) (by decide) (by decide) (by omega)
  obtain ⟨s2, r2⟩ := numS_full (n := v.y) (k := 8) (by omega) (by omega) (by decide) (by decide) (by omega)
  have z1 : (numS v.x 8).data.toList.length = 8 := (size_list _).symm.trans s1
  have z2 : (numS v.y 8).data.toList.length = 8 := (size_list _).symm.trans s2
  have hL : (wayT v).data.toList = (numS v.x 8).data.toList ++ ((numS v.y 8).data.toList ++ (wayL v.list).map fun n => UInt8.ofNat n.toNat) := by
    unfold wayT
    simp [strOfNums]
  have hz : ¬ (wayT v).size < 16 := by rw [size_list, hL, List.length_append, List.length_append, z1, z2]; omega
  have e1 : (wayT v).extract 0 8 = numS v.x 8 := by
    apply eq_of_list
    rw [extract_list, hL, List.drop_zero]
    exact List.take_left' z1
  have e2 : (wayT v).extract 8 16 = numS v.y 8 := by
    apply eq_of_list
    rw [extract_list, hL, List.drop_left' z1]
    exact List.take_left' z2
  have e3 : (wayT v).data.toList.drop 16 = (wayL v.list).map fun n => UInt8.ofNat n.toNat := by
    rw [hL, ← List.append_assoc]
    exact List.drop_left' (by rw [List.length_append, z1, z2])
  unfold wayX wayY wayZ
  rw [if_neg hz, if_neg hz, if_neg hz, e1, e2, e3, wayU_back v.list hin]
  exact ⟨r1, r2, rfl⟩
end Go.Proofs.YtfpglpefofcdeaaGreatDoor
namespace Go.Proofs.YtfpglpefofcdeaaGreatDoor
open Go.RowKit
set_option linter.unusedVariables false
set_option linter.unusedSimpArgs false

theorem fileE_zero {f : Fl} (h : fileE f = 0) : idB f.id = true ∧ appsE f.apps = 0 ∧ waysE f.ways = 0 ∧ fieldsE f.row = 0 ∧ masksE f.md f.mo f.mf = 0 := by
  unfold fileE at h
  by_cases h1 : idB f.id = false
  · rw [if_pos h1] at h; cases h
  rw [if_neg h1] at h
  by_cases h2 : appsE f.apps = 0
  case neg => rw [if_pos h2] at h; exact absurd h h2
  rw [if_neg (by simpa using h2)] at h
  by_cases h3 : waysE f.ways = 0
  case neg => rw [if_pos h3] at h; exact absurd h h3
  rw [if_neg (by simpa using h3)] at h
  by_cases h4 : fieldsE f.row = 0
  case neg => rw [if_pos h4] at h; exact absurd h h4
  rw [if_neg (by simpa using h4)] at h
  exact ⟨by simpa using h1, h2, h3, h4, h⟩
/-- what stands in the text of a file is read as it was written -/
theorem file_back {f : Fl} (h : fileE f = 0) : cutR 65536 (fileS f) = fileL f ∧ readsL (appsS f.apps) = f.apps ∧ (wayX (wayT f.ways) = f.ways.x ∧ wayY (wayT f.ways) = f.ways.y ∧ wayZ (wayT f.ways) = f.ways.list) ∧
    (maskD (masksS f.md f.mo f.mf) = f.md ∧ maskO (masksS f.md f.mo f.mf) = f.mo ∧ maskF (masksS f.md f.mo f.mf) = f.mf) ∧ parsed (printS f.row).data.toList = f.row := by
  obtain ⟨h1, h2, h3, h4, h5⟩ := fileE_zero h
  refine ⟨?_, ?_, ways_back h3, masks_back h5, parsed_some (round_text f.row h4)⟩
  · have hS : fileS f = rowS (fileL f) := by unfold fileS; rw [if_pos h]
    rw [hS]
    refine cutR_row (fileL f) 65536 (by show (5 : Nat) < 65536; omega) ?_
    have hidz : f.id.size ≤ 19 := by
      unfold idB at h1
      have h2 := inT_true.1 (Bool.and_eq_true_iff.1 h1).1
      omega
    have e0 := appsS_size h2
    have e1 : (wayT f.ways).size ≤ 76 := by
      unfold wayT
      rw [ByteArray.size_append, ByteArray.size_append, strOfNums_size, wayL_len]
      have := numS_size f.ways.x 8; have := numS_size f.ways.y 8; have := (waysE_zero h3).1; omega
    have e2 : (masksS f.md f.mo f.mf).size ≤ 24 := by
      unfold masksS
      split
      · rw [ByteArray.size_append, ByteArray.size_append]
        have := numS_size f.md 2; have := numS_size f.mo 2; have := numS_size f.mf 2; omega
      · exact Nat.zero_le _
    have e3 : (printS f.row).size ≤ 400 := by
      rw [show printS f.row = strOfNums (textL f.row) by unfold printS; rw [if_pos h4], strOfNums_size]
      have := textL_length f.row; have := (fieldsE_zero h4).2; omega
    intro s hs
    simp only [fileL, List.mem_cons, List.not_mem_nil, or_false] at hs
    rcases hs with rfl | rfl | rfl | rfl | rfl <;> omega
  · unfold readsL appsS
    rw [if_pos h2, readA_of appP_item h2]
    rfl
end Go.Proofs.YtfpglpefofcdeaaGreatDoor
namespace Go.Proofs.YtfpglpefofcdeaaGreatDoor
open Go.RowKit
set_option linter.unusedVariables false
set_option linter.unusedSimpArgs false
set_option maxRecDepth 100000

theorem cellsF_getT : ∀ (fs : List (Int × Int)) (i : Nat), i < fs.length → (cellsF fs)[i * 2]? = some (.int .i64 (fs.getD i (0, 0)).1) ∧ (cellsF fs)[i * 2 + 1]? = some (.int .i64 (fs.getD i (0, 0)).2)
  | [], i, h => by simp at h
  | f :: r, 0, _ => by simp [cellsF]
  | f :: r, i + 1, h => by
    have := cellsF_getT r i (by simpa using h)
    have e : cellsF (f :: r) = .int .i64 f.1 :: .int .i64 f.2 :: cellsF r := by simp [cellsF]
    rw [e, show (i + 1) * 2 = i * 2 + 1 + 1 by omega]
    simpa using this
theorem frow_ownT {w : World} {base : Nat} {v : Value} {fs : List (Int × Int)} {e : TypeId} (h : w.ownsRow base e 2 v fs.length (cellsF fs)) : ∃ ao cap, v = .slice ao fs.length cap ∧ FRow w ao fs ∧ ∀ p, ao = some p → base ≤ p.block := by
  rcases h.2 with ⟨h1, h2⟩ | ⟨g, cap, cur, h1, h2, h3, h4, h5, h6, h7⟩
  · exact ⟨none, 0, by rw [h1, h2], .inl (List.length_eq_zero_iff.1 h2), fun p hp => by cases hp⟩
  · refine ⟨_, cap, h1, .inr ⟨g, 0, rfl, (h.lt g (by rw [h1]; rfl)).2, fun i hi => ?_⟩, fun p hp => by cases hp; exact h2⟩
    have hc := cellsF_getT fs i hi
    have hk := h.cells (g := g) (by rw [h1]; rfl)
    have ea : ∀ k, (⟨g, 0, none⟩ : Addr).add k = ⟨g, 0 + k, none⟩ := fun k => by unfold Addr.add; split <;> simp_all
    have k1 := hk _ _ hc.1
    have k2 := hk _ _ hc.2
    rw [ea] at k1 k2
    exact ⟨k1, k2⟩
theorem parseL_okT : ∀ (n : Nat) (l : List UInt8) (fs : List (Int × Int)), parseL n l = some fs → fs.length ≤ n ∧ FNums fs
  | 0, l, fs, h => by
    unfold parseL at h
    split at h
    · cases h; exact ⟨Nat.le_refl _, fun f hf => by cases hf⟩
    · cases h
  | n + 1, l, fs, h => by
    unfold parseL at h
    split at h
    · cases h; exact ⟨Nat.zero_le _, fun f hf => by cases hf⟩
    · split at h
      · cases h
      · rename_i f r hf
        cases hq : parseL n r with
        | none => rw [hq] at h; cases h
        | some gs =>
          rw [hq] at h
          cases h
          obtain ⟨h1, h2⟩ := parseL_okT n r gs hq
          refine ⟨by simp; omega, fun g hg => ?_⟩
          rcases List.mem_cons.1 hg with rfl | hg
          · unfold fieldAt at hf
            split at hf
            · rename_i hh
              cases hf
              have := (validB_lt hh.2.1).2
              dsimp only
              omega
            · cases hf
          · exact h2 g hg
theorem parsed_okT (l : List UInt8) : (parsed l).length ≤ 100 ∧ FNums (parsed l) := by
  cases h : parseL 100 l with
  | none => rw [parsed_none h]; exact ⟨Nat.zero_le _, fun f hf => by cases hf⟩
  | some fs => rw [parsed_some h]; exact parseL_okT 100 l fs h
theorem wayC_at (l : List XWay) (i : Nat) (x : XWay) (h : l[i]? = some x) : (wayC l)[i * 3]? = some (.int .i64 x.code) ∧ (wayC l)[i * 3 + 1]? = some (.int .i64 x.when) ∧ (wayC l)[i * 3 + 2]? = some (.bool x.next) := by
  induction l generalizing i with
  | nil => simp at h
  | cons y r ih =>
    cases i with
    | zero =>
      obtain rfl : y = x := by simpa using h
      exact ⟨rfl, rfl, rfl⟩
    | succ i =>
      obtain ⟨h0, h1, h2⟩ := ih i (by simpa using h)
      have e : ∀ j, (wayC (y :: r))[(i + 1) * 3 + j]? = (wayC r)[i * 3 + j]? := fun j => by
        rw [wayC, List.getElem?_append_right (by simp; omega)]
        congr 1
        simp; omega
      exact ⟨(e 0).trans h0, (e 1).trans h1, (e 2).trans h2⟩
theorem rowWay_own {w : World} {B : Nat} {v : Value} {l : List XWay} (h : w.ownsRow B 86 3 v l.length (wayC l)) (ho : ∀ x ∈ l, okWay w x) (hm : l.length ≤ maxLen) :
    ∃ ao cap, v = .slice ao l.length cap ∧ RowWay w ao l := by
  rcases h.2 with ⟨hv, hn⟩ | ⟨g, cap, cur, hv, hg, hh, _, _, _, htake⟩
  · exact ⟨none, 0, by rw [hv, hn], .inl (List.length_eq_zero_iff.1 hn), ho, hm⟩
  · refine ⟨_, cap, hv, .inr ⟨g, 0, rfl, block_ltQ hh, fun i x hx => ?_⟩, ho, hm⟩
    obtain ⟨h0, h1, h2⟩ := wayC_at l i x hx
    have hi : i < l.length := (List.getElem?_eq_some_iff.1 hx).1
    rw [← htake] at h0 h1 h2
    rw [List.getElem?_take_of_lt (by omega)] at h0 h1 h2
    rw [Nat.zero_add]
    exact ⟨by rw [cell_of_row _ _ _ _ _ _ hh, ← h0]; simp, by rw [cell_of_row _ _ _ _ _ _ hh, ← h1]; simp, by rw [cell_of_row _ _ _ _ _ _ hh, ← h2]; simp⟩
theorem wayU_ok (W : World) (l : List UInt8) : (∀ x ∈ wayU l, okWay W x) ∧ (wayU l).length ≤ l.length := by
  fun_induction wayU l with
  | case1 a b c r ih =>
    refine ⟨fun x hx => ?_, by simp; omega⟩
    rcases List.mem_cons.1 hx with rfl | hx
    · have h1 := a.toNat_lt; have h2 := b.toNat_lt
      exact ⟨⟨by dsimp only; omega, by dsimp only; omega⟩, ⟨by dsimp only; omega, by dsimp only; omega⟩⟩
    · exact ih.1 x hx
  | case2 => exact ⟨fun x hx => by (cases hx), Nat.zero_le _⟩
theorem wayZ_ok (W : World) (s : ByteArray) : (∀ x ∈ wayZ s, okWay W x) ∧ (wayZ s).length ≤ s.size := by
  unfold wayZ
  split
  · exact ⟨(fun x hx => by cases hx), Nat.zero_le _⟩
  · have h := wayU_ok W (s.data.toList.drop 16)
    have h2 : (s.data.toList.drop 16).length ≤ s.size := by rw [List.length_drop, size_list]; omega
    exact ⟨h.1, by omega⟩
theorem rowT_at : ∀ (l : List ByteArray) (i : Nat) (s : ByteArray), l[i]? = some s → (rowT l)[i]? = some (.string s)
  | [], i, s, h => by simp at h
  | x :: r, 0, s, h => by
    obtain rfl : x = s := by simpa using h
    rfl
  | x :: r, i + 1, s, h => rowT_at r i s (by simpa using h)
theorem row_cellT {w : World} {B : Nat} {v : Value} {l : List ByteArray} (h : w.ownsRow B 9 1 v l.length (rowT l)) :
    (l = [] ∧ v = .slice none 0 0) ∨ ∃ g cap, v = .slice (some ⟨g, 0, none⟩) l.length cap ∧ g < w.heap.size ∧ ∀ i s, l[i]? = some s → w.cell? ⟨g, i, none⟩ = some (.string s) := by
  rcases h.2 with ⟨hv, hn⟩ | ⟨g, cap, cur, hv, hg, hh, _, _, _, htake⟩
  · exact .inl ⟨List.length_eq_zero_iff.1 hn, hv⟩
  · refine .inr ⟨g, cap, hv, block_ltQ hh, fun i s hx => ?_⟩
    have h0 := rowT_at l i s hx
    have hi : i < l.length := (List.getElem?_eq_some_iff.1 hx).1
    rw [← htake, List.getElem?_take_of_lt (by omega)] at h0
    rw [cell_of_row _ _ _ _ _ _ hh, ← h0]; simp
/-- a file, whatever its addresses -/
def Fl.strip (f : Fl) : Fl := { f with apo := none, apc := 0, ways := { f.ways with listo := none, listc := 0 }, ro := none, rc := 0 }
theorem fileE_strip (f : Fl) : fileE f.strip = fileE f := rfl
theorem fileS_strip (f : Fl) : fileS f.strip = fileS f := rfl
def flZ : Fl := ⟨⟨#[]⟩, none, [], 0, ⟨#[]⟩, ⟨#[]⟩, ⟨#[]⟩, ⟨#[]⟩, ⟨0, 0, none, [], 0⟩, 0, 0, 0, none, [], 0⟩
/-- the file of five parts -/
def flQ (p0 p1 p2 p3 p4 : ByteArray) : Fl := ⟨p0, none, readsL p1, 0, ⟨#[]⟩, ⟨#[]⟩, ⟨#[]⟩, ⟨#[]⟩, ⟨wayX p2, wayY p2, none, wayZ p2, 0⟩, maskD p3, maskO p3, maskF p3, none, parsed p4.data.toList, 0⟩
def flL : List ByteArray → Fl
  | [p0, p1, p2, p3, p4] => flQ p0 p1 p2 p3 p4
  | _ => flZ
/-- the file of a text -/
def flP (s : ByteArray) : Fl := flL (cutR 65536 s)
theorem flL_five {l : List ByteArray} (h : l.length = 5) : ∃ p0 p1 p2 p3 p4, l = [p0, p1, p2, p3, p4] := by
  match l, h with
  | [p0, p1, p2, p3, p4], _ => exact ⟨p0, p1, p2, p3, p4, rfl⟩
theorem flL_not {l : List ByteArray} (h : l.length ≠ 5) : flL l = flZ := by
  match l, h with
  | [], _ => rfl
  | [_], _ => rfl
  | [_, _], _ => rfl
  | [_, _, _], _ => rfl
  | [_, _, _, _], _ => rfl
  | [_, _, _, _, _], h => exact absurd rfl h
  | _ :: _ :: _ :: _ :: _ :: _ :: _, _ => rfl
theorem cutR_le (k : Nat) : ∀ s, ∀ p ∈ cutR k s, p.size ≤ s.size := by
  induction k with
  | zero => intro s p hp; simp [cutR] at hp
  | succ k ih =>
    intro s p hp
    by_cases h : s.size < 4 ∨ ((s.extract 4 s.size).size : Int) < readV (s.extract 0 4)
    · rw [cutR_none h] at hp; cases hp
    · rw [cutR_some (fun h4 => h (.inl h4)) (fun hn => h (.inr hn))] at hp
      rcases List.mem_cons.1 hp with rfl | hp
      · rw [ByteArray.size_extract, ByteArray.size_extract]; omega
      · have := ih _ p hp
        rw [ByteArray.size_extract, ByteArray.size_extract] at this
        omega
end Go.Proofs.YtfpglpefofcdeaaGreatDoor
