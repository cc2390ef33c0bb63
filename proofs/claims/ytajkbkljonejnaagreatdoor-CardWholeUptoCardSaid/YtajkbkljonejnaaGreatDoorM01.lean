/- The plain memory: its calls. -/
import Derived.Test.YtajkbkljonejnaaGreatDoorM00
namespace Go.Proofs.YtajkbkljonejnaaGreatDoor
open Go.RowKit
set_option linter.unusedVariables false
set_option linter.unusedSimpArgs false
set_option maxRecDepth 100000
def cellsS (s : ByteArray) : List Value := [.string s]
theorem cellsS_len (s : ByteArray) : (cellsS s).length = 1 := rfl
structure MemAt (w : World) (B mb : Nat) (v : Value) (M : Mm) : Prop where
  box : w.heap[mb]? = some (.cells #[v, .int .i64 M.pw, .bool M.off] 54)
  row : OwnR w B 9 1 cellsS v M.C
  len : M.C.length ≤ 100000
  ne : v.ownBlock ≠ some mb
  pwb : -9223372036854775808 ≤ M.pw ∧ M.pw ≤ 9223372036854775807
section
variable {w w' : World} {B mb : Nat} {v : Value} {M : Mm}
theorem MemAt.lt (h : MemAt w B mb v M) : mb < w.heap.size := block_ltR h.box
theorem MemAt.cells (h : MemAt w B mb v M) : w.cell? ⟨mb, 0, none⟩ = some v ∧ w.cell? ⟨mb, 1, none⟩ = some (.int .i64 M.pw) ∧ w.cell? ⟨mb, 2, none⟩ = some (.bool M.off) := by
  have := h.box
  refine ⟨?_, ?_, ?_⟩ <;> simp [World.cell?, this]
theorem MemAt.frozen (h : MemAt w B mb v M) (j : Nat) : w.frozen? ⟨mb, j, none⟩ = false := by
  have := h.box
  simp [World.frozen?, this]
theorem MemAt.keep (h : MemAt w B mb v M) (hb : w'.heap[mb]? = w.heap[mb]?) (hr : ∀ g, v.ownBlock = some g → w'.heap[g]? = w.heap[g]?) : MemAt w' B mb v M := by
  refine ⟨hb.trans h.box, ⟨h.row.1, ?_⟩, h.len, h.ne, h.pwb⟩
  rcases h.row.2 with h0 | ⟨g, cap, cur, e1, e2, e3, e4⟩
  · exact .inl h0
  · exact .inr ⟨g, cap, cur, e1, e2, by rw [hr g (by rw [e1]; rfl)]; exact e3, e4⟩
theorem MemAt.below (h : MemAt w B mb v M) (hb : Below w.heap.size w w') : MemAt w' B mb v M :=
  h.keep (hb.block mb h.lt) (fun g hg => hb.block g (h.row.lt g hg).2)
def memF (mb : Nat) (v : Value) : Nat → Prop := fun x => x = mb ∨ v.ownBlock = some x
theorem MemAt.chg {F : Nat → Prop} (h : MemAt w B mb v M) (hc : Chg F w w') (hF : ∀ x, F x → ¬ memF mb v x) : MemAt w' B mb v M :=
  h.keep (hc.block mb h.lt (fun hf => hF mb hf (.inl rfl))) (fun g hg => hc.block g (h.row.lt g hg).2 (fun hf => hF g hf (.inr hg)))
theorem mcells_any (h : MemAt w B mb v M) : Calls Tryz.prog 181 #[.pointer (some ⟨mb, 0, none⟩)] w fun e w' => e = .returned (.int .i64 (M.C.length : Nat)) ∧ w' = w := by
  obtain ⟨c0, c1, c2⟩ := h.cells
  obtain ⟨⟨ao, cap, rfl⟩, _⟩ := h.row.form
  clear h
  go_enter Tryz.func181, Tryz.ntmps181
  go_wp2
  go_ret
  exact ⟨rfl, rfl⟩
theorem moff_any (h : MemAt w B mb v M) : Calls Tryz.prog 11 #[.pointer (some ⟨mb, 0, none⟩)] w fun e w' => e = .returned (.bool M.off) ∧ w' = w := by
  obtain ⟨c0, c1, c2⟩ := h.cells
  clear h
  go_enter Tryz.func11, Tryz.ntmps11
  go_wp2
  go_ret
  exact ⟨rfl, rfl⟩
theorem mread_on (h : MemAt w B mb v M) (ho : M.off = false) (i : Nat) (s : ByteArray) (hs : M.C[i]? = some s) : Calls Tryz.prog 182 #[.pointer (some ⟨mb, 0, none⟩), .int .i64 (i : Int)] w fun e w' => e = .returned (.tuple #[.string s, .int .i64 0]) ∧ w' = w := by
  obtain ⟨c0, c1, c2⟩ := h.cells
  rw [ho] at c2
  have hi := (List.getElem?_eq_some_iff.1 hs).1
  have hlen := h.len
  rcases h.row.form.2 with hn | ⟨g, cap, hv, _, _⟩
  · rw [hn] at hi; simp at hi
  subst hv
  have hc : w.cell? ⟨g, i, none⟩ = some (.string s) := by
    have := h.row.cell cellsS_len i s hs 0 (by omega)
    simpa [cellsS] using this
  have hli : (i : Int) < (M.C.length : Int) := by omega
  have hl0 : ¬ (i : Int) < 0 := by omega
  generalize M.C.length = n at *
  clear h ho hs
  go_enter Tryz.func182, Tryz.ntmps182
  go_wp2
  go_ret2
  exact ⟨rfl, rfl⟩
def offM (M : Mm) : Mm := { M with off := true }
theorem mwrite_off (h : MemAt w B mb v M) (ho : M.pw = 0 ∨ M.off = true) (i : Int) (s : ByteArray) : Calls Tryz.prog 183 #[.pointer (some ⟨mb, 0, none⟩), .int .i64 i, .string s] w fun e w' => e = .returned (.int .i64 12) ∧ MemAt w' B mb v (offM M) ∧ Chg (memF mb v) w w' := by
  obtain ⟨c0, c1, c2⟩ := h.cells
  have f2 := h.frozen 2
  have hml := h.lt
  have HS : Hid (MemAt (w.setCell ⟨mb, 2, none⟩ (.bool true)) B mb v (offM M) ∧ Chg (memF mb v) w (w.setCell ⟨mb, 2, none⟩ (.bool true))) := hide (by
    refine ⟨⟨?_, h.row.other h.ne _, h.len, h.ne, h.pwb⟩, (Chg.setCell w ⟨mb, 2, none⟩ _).mono (fun x hx => .inl hx)⟩
    have := h.box
    simp [World.setCell, Array.getElem?_modify, this, offM])
  by_cases hp : M.pw = 0
  · rw [hp] at c1
    clear h ho hp
    go_enter Tryz.func183, Tryz.ntmps183
    go_wp2
    go_ret
    exact ⟨rfl, unhide HS⟩
  · have hoff : M.off = true := ho.resolve_left hp
    have HM : Hid (MemAt w B mb v (offM M)) := hide (by have h' := h; unfold offM; rw [← hoff]; exact h')
    have hpb : (M.pw == 0) = false := by simpa using hp
    rw [hoff] at c2
    generalize M.pw = pw at *
    clear h ho hp hoff HS
    go_enter Tryz.func183, Tryz.ntmps183
    go_wp2
    go_ret
    exact ⟨rfl, unhide HM, Chg.refl _ _⟩
def setM (M : Mm) (i : Nat) (s : ByteArray) : Mm := ⟨M.C.set i s, if 0 < M.pw then M.pw - 1 else M.pw, M.off⟩
theorem rowC_one_set (C : List ByteArray) (i : Nat) (s : ByteArray) : rowC cellsS (C.set i s) = (rowC cellsS C).set i (.string s) := by
  induction C generalizing i with
  | nil => rfl
  | cons x l ih =>
    cases i with
    | zero => rfl
    | succ i =>
      show Value.string x :: rowC cellsS (l.set i s) = Value.string x :: (rowC cellsS l).set i (.string s)
      rw [ih]
theorem OwnR.write {g cap : Nat} {C : List ByteArray} (h : OwnR w B 9 1 cellsS (.slice (some ⟨g, 0, none⟩) C.length cap) C) (i : Nat) (s : ByteArray) (hi : i < C.length) : OwnR (w.setCell ⟨g, i, none⟩ (.string s)) B 9 1 cellsS (.slice (some ⟨g, 0, none⟩) (C.set i s).length cap) (C.set i s) := by
  rcases h.2 with ⟨h0, _⟩ | ⟨g', cap', cur, e1, e2, e3, e4, e5, e6, e7⟩
  · cases h0
  · obtain ⟨rfl, rfl⟩ : g = g' ∧ cap = cap' := by injection e1 with a1 _ a3; injection a1 with a1; injection a1 with a1; exact ⟨a1, a3⟩
    refine ⟨by rw [rowC_length cellsS_len], .inr ⟨g, cap, cur.setIfInBounds i (.string s), rfl, e2, ?_, by rw [List.length_set]; exact e4, e5, by rw [Array.size_setIfInBounds]; exact e6, ?_⟩⟩
    · simp [World.setCell, Array.getElem?_modify, e3]
    · rw [rowC_one_set, List.length_set, ← e7, Array.toList_setIfInBounds, List.take_set]
theorem mwrite_on (h : MemAt w B mb v M) (hp : M.pw ≠ 0) (ho : M.off = false) (i : Nat) (s : ByteArray) (hi : i < M.C.length) (hs : s.size = 16) : Calls Tryz.prog 183 #[.pointer (some ⟨mb, 0, none⟩), .int .i64 (i : Int), .string s] w fun e w' => e = .returned (.int .i64 0) ∧ MemAt w' B mb v (setM M i s) ∧ Chg (memF mb v) w w' := by
  obtain ⟨c0, c1, c2⟩ := h.cells
  rw [ho] at c2
  have f1 := h.frozen 1
  have hml := h.lt
  have hlen := h.len
  rcases h.row.form.2 with hn | ⟨g, cap, hv, hgB, hgl⟩
  · rw [hn] at hi; simp at hi
  subst hv
  have hgm : g ≠ mb := fun e => h.ne (by rw [e]; rfl)
  have hgm' : mb ≠ g := Ne.symm hgm
  obtain ⟨so, hso⟩ : ∃ so, M.C[i]? = some so := ⟨_, List.getElem?_eq_getElem hi⟩
  have hc : w.cell? ⟨g, i, none⟩ = some (.string so) := by
    have := h.row.cell cellsS_len i so hso 0 (by omega)
    simpa [cellsS] using this
  have hf : w.frozen? ⟨g, i, none⟩ = false := h.row.frozen rfl i
  have hpb : (M.pw == 0) = false := by simpa using hp
  have hli : (i : Int) < (M.C.length : Int) := by omega
  have hl0 : ¬ (i : Int) < 0 := by omega
  have hsi : (s.size : Int) = 16 := by omega
  have hbox := h.box
  by_cases hpos : 0 < M.pw
  · have hwr : wrap64 (M.pw - 1) = M.pw - 1 := by have := h.pwb; unfold wrap64; omega
    have HR : Hid (MemAt ((w.setCell ⟨mb, 1, none⟩ (.int .i64 (M.pw - 1))).setCell ⟨g, i, none⟩ (.string s)) B mb (.slice (some ⟨g, 0, none⟩) M.C.length cap) (setM M i s) ∧ Chg (memF mb (.slice (some ⟨g, 0, none⟩) M.C.length cap)) w ((w.setCell ⟨mb, 1, none⟩ (.int .i64 (M.pw - 1))).setCell ⟨g, i, none⟩ (.string s))) := hide (by
      have hr1 := h.row.other (a := ⟨mb, 1, none⟩) h.ne (.int .i64 (M.pw - 1))
      have hr2 := hr1.write i s hi
      rw [List.length_set] at hr2
      refine ⟨⟨?_, hr2, by show (M.C.set i s).length ≤ 100000; rw [List.length_set]; exact hlen, h.ne, ?_⟩, ((Chg.setCell w ⟨mb, 1, none⟩ _).mono (fun x hx => .inl hx)).trans ((Chg.setCell _ ⟨g, i, none⟩ _).mono (fun x hx => (.inr (by rw [hx]; rfl) : memF mb (.slice (some ⟨g, 0, none⟩) M.C.length cap) x))) (fun x hx => .inl hx)⟩
      · unfold setM
        rw [if_pos hpos, ho]
        rw [ho] at hbox
        simp [World.setCell, Array.getElem?_modify, hbox, hgm]
      · show -9223372036854775808 ≤ (if 0 < M.pw then M.pw - 1 else M.pw) ∧ (if 0 < M.pw then M.pw - 1 else M.pw) ≤ 9223372036854775807
        rw [if_pos hpos]; have := h.pwb; omega)
    generalize M.pw = pw at *
    generalize M.C.length = n at *
    clear h ho hp hso hbox hs hi hlen
    go_enter Tryz.func183, Tryz.ntmps183
    go_wp2
    go_ret
    exact ⟨rfl, unhide HR⟩
  · have HR : Hid (MemAt (w.setCell ⟨g, i, none⟩ (.string s)) B mb (.slice (some ⟨g, 0, none⟩) M.C.length cap) (setM M i s) ∧ Chg (memF mb (.slice (some ⟨g, 0, none⟩) M.C.length cap)) w (w.setCell ⟨g, i, none⟩ (.string s))) := hide (by
      have hr2 := h.row.write i s hi
      rw [List.length_set] at hr2
      refine ⟨⟨?_, hr2, by show (M.C.set i s).length ≤ 100000; rw [List.length_set]; exact hlen, h.ne, ?_⟩, (Chg.setCell w ⟨g, i, none⟩ _).mono (fun x hx => (.inr (by rw [hx]; rfl) : memF mb (.slice (some ⟨g, 0, none⟩) M.C.length cap) x))⟩
      · unfold setM
        rw [if_neg hpos, ho]
        rw [ho] at hbox
        simp [World.setCell, Array.getElem?_modify, hbox, hgm]
      · show -9223372036854775808 ≤ (if 0 < M.pw then M.pw - 1 else M.pw) ∧ (if 0 < M.pw then M.pw - 1 else M.pw) ≤ 9223372036854775807
        rw [if_neg hpos]; exact h.pwb)
    generalize M.pw = pw at *
    generalize M.C.length = n at *
    clear h ho hp hso hbox hs hi hlen
    go_enter Tryz.func183, Tryz.ntmps183
    go_wp2
    go_ret
    exact ⟨rfl, unhide HR⟩
end
end Go.Proofs.YtajkbkljonejnaaGreatDoor
namespace Go.Proofs.YtajkbkljonejnaaGreatDoor
set_option linter.unusedVariables false
set_option linter.unusedSimpArgs false
set_option maxRecDepth 100000
def wrC (M : Mm) (i : Nat) (s : ByteArray) : Mm := if M.off = true then M else if M.pw = 0 then offM M else setM M i s
def plK (i sd : Nat) : Nat := 1 + 2 * i + sd / 2 ^ i % 2
def hdK (sd : Nat) : ByteArray := ⟨#[1, UInt8.ofNat sd, 0, 0, 0, 0, 0, 0, 0, 0, 0, 0, 0, 0, 0, 0]⟩
theorem hdK_size (sd : Nat) : (hdK sd).size = 16 := rfl
def flip (sd i : Nat) : Nat := sd ^^^ (2 ^ i)
theorem flip_all : ∀ (sd : Fin 16) (j : Fin 4), flip sd.val j.val < 16 ∧ flip sd.val j.val / 2 ^ j.val % 2 = 1 - sd.val / 2 ^ j.val % 2 ∧ ∀ i : Fin 4, i ≠ j → flip sd.val j.val / 2 ^ i.val % 2 = sd.val / 2 ^ i.val % 2 := by decide
theorem flip_lt {sd j : Nat} (hs : sd < 16) (hj : j < 4) : flip sd j < 16 := (flip_all ⟨sd, hs⟩ ⟨j, hj⟩).1
theorem flip_at {sd j : Nat} (hs : sd < 16) (hj : j < 4) : flip sd j / 2 ^ j % 2 = 1 - sd / 2 ^ j % 2 := (flip_all ⟨sd, hs⟩ ⟨j, hj⟩).2.1
theorem flip_other {sd j i : Nat} (hs : sd < 16) (hj : j < 4) (hi : i < 4) (h : i ≠ j) : flip sd j / 2 ^ i % 2 = sd / 2 ^ i % 2 := (flip_all ⟨sd, hs⟩ ⟨j, hj⟩).2.2 ⟨i, hi⟩ (fun e => h (congrArg Fin.val e))
theorem plK_lt {i : Nat} (sd : Nat) (h : i < 4) : plK i sd < 9 := by unfold plK; have := Nat.mod_lt (sd / 2 ^ i) (show 2 > 0 by decide); omega
theorem plK_pos (i sd : Nat) : plK i sd ≠ 0 := by unfold plK; omega
theorem plK_apart {i j : Nat} (sd sd' : Nat) (h : i ≠ j) : plK i sd ≠ plK j sd' := by
  unfold plK
  have := Nat.mod_lt (sd / 2 ^ i) (show 2 > 0 by decide)
  have := Nat.mod_lt (sd' / 2 ^ j) (show 2 > 0 by decide)
  omega
theorem wrC_len (M : Mm) (i : Nat) (s : ByteArray) : (wrC M i s).C.length = M.C.length := by
  unfold wrC
  split
  · rfl
  · split
    · rfl
    · simp [setM]
theorem wrC_far (M : Mm) (i j : Nat) (s : ByteArray) (h : j ≠ i) : (wrC M i s).C[j]? = M.C[j]? := by
  unfold wrC
  split
  · rfl
  · split
    · rfl
    · simp only [setM]; exact List.getElem?_set_ne (fun e => h e.symm)
theorem wrC_at (M : Mm) (i : Nat) (s : ByteArray) (hi : i < M.C.length) (h : (wrC M i s).off = false) : (wrC M i s).C[i]? = some s ∧ M.off = false := by
  unfold wrC at h ⊢
  split at h
  · rename_i ho; rw [ho] at h; cases h
  · rename_i ho
    split at h
    · simp [offM] at h
    · rw [if_neg ho, if_neg (by assumption)]
      simp only [setM]
      exact ⟨List.getElem?_set_self hi, by simpa using ho⟩
theorem wrC_sz (M : Mm) (i : Nat) (s : ByteArray) (hs : s.size = 16) (h : ∀ c ∈ M.C, c.size = 16) : ∀ c ∈ (wrC M i s).C, c.size = 16 := by
  unfold wrC
  split
  · exact h
  · split
    · exact h
    · simp only [setM]
      intro c hc
      rcases List.mem_or_eq_of_mem_set hc with h1 | h1
      · exact h c h1
      · rw [h1]; exact hs
structure WInv (M0 : Mm) (sd0 j : Nat) (N : Nat → ByteArray) (M : Mm) (sd : Nat) : Prop where
  len : M.C.length = M0.C.length
  sz : ∀ c ∈ M.C, c.size = 16
  old0 : M.C[0]? = M0.C[0]?
  old : ∀ i, i < 4 → M.C[plK i sd0]? = M0.C[plK i sd0]?
  lt : sd < 16
  same : ∀ i, j ≤ i → i < 4 → sd / 2 ^ i % 2 = sd0 / 2 ^ i % 2
  new : M.off = false → ∀ i, i < j → M.C[plK i sd]? = some (N i)
def w1M (M : Mm) (sd i : Nat) (H N : ByteArray) : Mm := if N = H then M else wrC M (plK i (flip sd i)) N
def w1S (sd i : Nat) (H N : ByteArray) : Nat := if N = H then sd else flip sd i
theorem WInv.step {M0 : Mm} {sd0 j : Nat} {N : Nat → ByteArray} {M : Mm} {sd : Nat} (h : WInv M0 sd0 j N M sd) (hj : j < 4) (hl : 9 ≤ M0.C.length) (hN : (N j).size = 16) (H : ByteArray) (hH : N j = H → M0.C[plK j sd0]? = some (N j)) :
    WInv M0 sd0 (j + 1) N (w1M M sd j H (N j)) (w1S sd j H (N j)) := by
  unfold w1M w1S
  by_cases he : N j = H
  · rw [if_pos he, if_pos he]
    refine ⟨h.len, h.sz, h.old0, h.old, h.lt, fun i hi h4 => h.same i (by omega) h4, fun ho i hi => ?_⟩
    by_cases hij : i = j
    · subst hij
      have e : plK i sd = plK i sd0 := by unfold plK; rw [h.same i (Nat.le_refl _) hj]
      rw [e, h.old i hj]
      exact hH he
    · exact h.new ho i (by omega)
  · rw [if_neg he, if_neg he]
    have hlt := plK_lt (flip sd j) hj
    have hne : ∀ i, i < 4 → plK i sd0 ≠ plK j (flip sd j) := fun i hi => by
      by_cases hij : i = j
      · subst hij
        unfold plK
        rw [flip_at h.lt hj, h.same i (Nat.le_refl _) hj]
        have := Nat.mod_lt (sd0 / 2 ^ i) (show 2 > 0 by decide)
        omega
      · exact plK_apart _ _ hij
    refine ⟨by rw [wrC_len, h.len], wrC_sz _ _ _ hN h.sz, by rw [wrC_far _ _ _ _ (fun e => plK_pos _ _ e.symm)]; exact h.old0, fun i hi => by rw [wrC_far _ _ _ _ (hne i hi)]; exact h.old i hi, flip_lt h.lt hj, fun i hi h4 => ?_, fun ho i hi => ?_⟩
    · rw [flip_other h.lt hj h4 (by omega)]
      exact h.same i (by omega) h4
    · obtain ⟨hw, hof⟩ := wrC_at M (plK j (flip sd j)) (N j) (by rw [h.len]; omega) ho
      by_cases hij : i = j
      · subst hij; exact hw
      · have e : plK i (flip sd j) = plK i sd := by unfold plK; rw [flip_other h.lt hj (by omega) hij]
        rw [e, wrC_far _ _ _ _ (plK_apart _ _ hij)]
        exact h.new hof i (by omega)
def wsM (M : Mm) (sd : Nat) (H N : Nat → ByteArray) : Mm × Nat :=
  let a0 := w1M M sd 0 (H 0) (N 0); let s0 := w1S sd 0 (H 0) (N 0)
  let a1 := w1M a0 s0 1 (H 1) (N 1); let s1 := w1S s0 1 (H 1) (N 1)
  let a2 := w1M a1 s1 2 (H 2) (N 2); let s2 := w1S s1 2 (H 2) (N 2)
  let a3 := w1M a2 s2 3 (H 3) (N 3); let s3 := w1S s2 3 (H 3) (N 3)
  (wrC a3 0 (hdK s3), s3)
structure Lies (M : Mm) (sd : Nat) (N : Nat → ByteArray) : Prop where
  len : 32 ≤ M.C.length
  sz : ∀ c ∈ M.C, c.size = 16
  lt : sd < 16
  head : M.C[0]? = some (hdK sd)
  part : ∀ i, i < 4 → M.C[plK i sd]? = some (N i)
structure Bare (M : Mm) : Prop where
  len : 32 ≤ M.C.length
  sz : ∀ c ∈ M.C, c.size = 16
  head : M.C[0]? = some (zsK 16)
theorem ws_inv (M : Mm) (sd : Nat) (H N : Nat → ByteArray) (hl : 9 ≤ M.C.length) (hsz : ∀ c ∈ M.C, c.size = 16) (hs : sd < 16) (hN : ∀ i, (N i).size = 16) (hH : ∀ i, i < 4 → N i = H i → M.C[plK i sd]? = some (N i)) :
    ∃ a s, WInv M sd 4 N a s ∧ wsM M sd H N = (wrC a 0 (hdK s), s) := by
  have h0 : WInv M sd 0 N M sd := ⟨rfl, hsz, rfl, fun _ _ => rfl, hs, fun _ _ _ => rfl, fun _ i hi => absurd hi (Nat.not_lt_zero i)⟩
  have h1 := h0.step (by decide) hl (hN 0) (H 0) (hH 0 (by decide))
  have h2 := h1.step (by decide) hl (hN 1) (H 1) (hH 1 (by decide))
  have h3 := h2.step (by decide) hl (hN 2) (H 2) (hH 2 (by decide))
  have h4 := h3.step (by decide) hl (hN 3) (H 3) (hH 3 (by decide))
  exact ⟨_, _, h4, rfl⟩
theorem ws_done {M : Mm} {sd : Nat} {H N : Nat → ByteArray} (hl : 32 ≤ M.C.length) (hsz : ∀ c ∈ M.C, c.size = 16) (hs : sd < 16) (hN : ∀ i, (N i).size = 16) (hH : ∀ i, i < 4 → N i = H i → M.C[plK i sd]? = some (N i)) (ho : (wsM M sd H N).1.off = false) :
    Lies (wsM M sd H N).1 (wsM M sd H N).2 N := by
  obtain ⟨a, s, hi, he⟩ := ws_inv M sd H N (by omega) hsz hs hN hH
  rw [he] at ho ⊢
  obtain ⟨hw, hof⟩ := wrC_at a 0 (hdK s) (by rw [hi.len]; omega) ho
  exact ⟨by rw [wrC_len, hi.len]; exact hl, wrC_sz _ _ _ (hdK_size s) hi.sz, hi.lt, hw, fun i h4 => by
    rw [wrC_far _ _ _ _ (plK_pos _ _)]; exact hi.new hof i h4⟩
theorem ws_cut {M : Mm} {sd : Nat} {H N : Nat → ByteArray} (hl : 32 ≤ M.C.length) (hsz : ∀ c ∈ M.C, c.size = 16) (hs : sd < 16) (hN : ∀ i, (N i).size = 16) (hH : ∀ i, i < 4 → N i = H i → M.C[plK i sd]? = some (N i)) (ho : (wsM M sd H N).1.off = true) :
    (wsM M sd H N).1.C.length = M.C.length ∧ (∀ c ∈ (wsM M sd H N).1.C, c.size = 16) ∧ (wsM M sd H N).1.C[0]? = M.C[0]? ∧ ∀ i, i < 4 → (wsM M sd H N).1.C[plK i sd]? = M.C[plK i sd]? := by
  obtain ⟨a, s, hi, he⟩ := ws_inv M sd H N (by omega) hsz hs hN hH
  rw [he] at ho ⊢
  refine ⟨by rw [wrC_len, hi.len], wrC_sz _ _ _ (hdK_size s) hi.sz, ?_, fun i h4 => by rw [wrC_far _ _ _ _ (plK_pos _ _)]; exact hi.old i h4⟩
  have hC : (wrC a 0 (hdK s)).C = a.C := by
    unfold wrC at ho ⊢
    split
    · rfl
    · rename_i h1
      rw [if_neg h1] at ho
      split
      · rfl
      · rename_i h2
        rw [if_neg h2] at ho
        simp only [setM] at ho
        exact absurd ho h1
  show (wrC a 0 (hdK s)).C[0]? = _
  rw [hC]
  exact hi.old0
theorem Lies.cut {M : Mm} {sd : Nat} {H N : Nat → ByteArray} (h : Lies M sd H) (hN : ∀ i, (N i).size = 16) (ho : (wsM M sd H N).1.off = true) : Lies (wsM M sd H N).1 sd H := by
  obtain ⟨h1, h2, h3, h4⟩ := ws_cut h.len h.sz h.lt hN (fun i hi e => by rw [h.part i hi, e]) ho
  exact ⟨by rw [h1]; exact h.len, h2, h.lt, by rw [h3]; exact h.head, fun i hi => by rw [h4 i hi]; exact h.part i hi⟩
theorem Lies.done {M : Mm} {sd : Nat} {H N : Nat → ByteArray} (h : Lies M sd H) (hN : ∀ i, (N i).size = 16) (ho : (wsM M sd H N).1.off = false) : Lies (wsM M sd H N).1 (wsM M sd H N).2 N :=
  ws_done h.len h.sz h.lt hN (fun i hi e => by rw [h.part i hi, e]) ho
theorem Bare.cut {M : Mm} {N : Nat → ByteArray} (h : Bare M) (hN : ∀ i, (N i).size = 16) (ho : (wsM M 0 (fun _ => ⟨#[]⟩) N).1.off = true) : Bare (wsM M 0 (fun _ => ⟨#[]⟩) N).1 := by
  obtain ⟨h1, h2, h3, _⟩ := ws_cut h.len h.sz (by decide) hN (fun i hi e => by have := hN i; rw [e] at this; cases this) ho
  exact ⟨by rw [h1]; exact h.len, h2, by rw [h3]; exact h.head⟩
theorem Bare.done {M : Mm} {N : Nat → ByteArray} (h : Bare M) (hN : ∀ i, (N i).size = 16) (ho : (wsM M 0 (fun _ => ⟨#[]⟩) N).1.off = false) : Lies (wsM M 0 (fun _ => ⟨#[]⟩) N).1 (wsM M 0 (fun _ => ⟨#[]⟩) N).2 N :=
  ws_done h.len h.sz (by decide) hN (fun i hi e => by have := hN i; rw [e] at this; cases this) ho
end Go.Proofs.YtajkbkljonejnaaGreatDoor
namespace Go.Proofs.YtajkbkljonejnaaGreatDoor
open Go.RowKit
set_option linter.unusedVariables false
set_option linter.unusedSimpArgs false
set_option maxRecDepth 100000
structure KtoAt (w : World) (B bb mb : Nat) (v : Value) (M : Mm) (H : Nat → ByteArray) (sd : Int) : Prop where
  box : w.heap[bb]? = some (.cells #[.iface 28 (.pointer (some ⟨mb, 0, none⟩)), .string (H 0), .string (H 1), .string (H 2), .string (H 3), .int .i64 sd, .bool M.off] 66)
  mem : MemAt w B mb v M
  bm : bb ≠ mb
  bv : v.ownBlock ≠ some bb
def ktoF (bb mb : Nat) (v : Value) : Nat → Prop := fun x => x = bb ∨ memF mb v x
section
variable {w w' : World} {B bb mb : Nat} {v : Value} {M : Mm} {H : Nat → ByteArray} {sd : Int}
theorem KtoAt.lt (h : KtoAt w B bb mb v M H sd) : bb < w.heap.size := block_ltR h.box
theorem KtoAt.cells (h : KtoAt w B bb mb v M H sd) : w.cell? ⟨bb, 0, none⟩ = some (.iface 28 (.pointer (some ⟨mb, 0, none⟩))) ∧ w.cell? ⟨bb, 6, none⟩ = some (.bool M.off) := by
  have := h.box
  refine ⟨?_, ?_⟩ <;> simp [World.cell?, this]
theorem KtoAt.frozen (h : KtoAt w B bb mb v M H sd) (j : Nat) : w.frozen? ⟨bb, j, none⟩ = false := by
  have := h.box
  simp [World.frozen?, this]
theorem KtoAt.below (h : KtoAt w B bb mb v M H sd) (hb : Below w.heap.size w w') : KtoAt w' B bb mb v M H sd :=
  ⟨(hb.block bb h.lt).trans h.box, h.mem.below hb, h.bm, h.bv⟩
theorem KtoAt.chg {F : Nat → Prop} (h : KtoAt w B bb mb v M H sd) (hc : Chg F w w') (hF : ∀ x, F x → ¬ ktoF bb mb v x) : KtoAt w' B bb mb v M H sd :=
  ⟨(hc.block bb h.lt (fun hf => hF bb hf (.inl rfl))).trans h.box, h.mem.chg hc (fun x hx hm => hF x hx (.inr hm)), h.bm, h.bv⟩
theorem kput_any (h : KtoAt w B bb mb v M H sd) (i : Nat) (s : ByteArray) (hi : i < M.C.length) (h16 : s.size = 16) : Calls Tryz.prog 119 #[.pointer (some ⟨bb, 0, none⟩), .int .i64 (i : Int), .string s] w fun e w' => e = .returned (.tuple #[]) ∧ KtoAt w' B bb mb v (wrC M i s) H sd ∧ Chg (ktoF bb mb v) w w' := by
  obtain ⟨c0, c1⟩ := h.cells
  unfold wrC
  cases ho : M.off with
  | true =>
    rw [if_pos rfl]
    rw [ho] at c1
    have HH := hide h
    clear h ho
    go_enter Tryz.func119, Tryz.ntmps119
    go_wp2
    go_end0
    exact ⟨rfl, unhide HH, Chg.refl _ _⟩
  | false =>
    rw [if_neg (by decide)]
    rw [ho] at c1
    by_cases hp : M.pw = 0
    · rw [if_pos hp]
      have N := hide (mwrite_off h.mem (.inl hp) i s)
      have HH := hide h
      have HF : Hid (∀ w1, MemAt w1 B mb v (offM M) → Chg (memF mb v) w w1 → w1.cell? ⟨bb, 6, none⟩ = some (.bool false) ∧ w1.frozen? ⟨bb, 6, none⟩ = false ∧ KtoAt (w1.setCell ⟨bb, 6, none⟩ (.bool true)) B bb mb v (offM M) H sd ∧ Chg (ktoF bb mb v) w (w1.setCell ⟨bb, 6, none⟩ (.bool true))) := hide (by
        intro w1 hm hc
        have hb1 : w1.heap[bb]? = w.heap[bb]? := hc.block bb h.lt (fun hf => hf.elim h.bm h.bv)
        have hb := hb1.trans h.box
        rw [ho] at hb
        have hc1 : Chg (fun x => x = bb) w1 (w1.setCell ⟨bb, 6, none⟩ (.bool true)) := Chg.setCell w1 ⟨bb, 6, none⟩ _
        refine ⟨by simp [World.cell?, hb], by simp [World.frozen?, hb], ⟨?_, hm.chg hc1 (fun x hx hm => ?_), h.bm, h.bv⟩, (hc.mono (fun x hx => .inr hx)).trans (hc1.mono (fun x hx => (.inl hx : ktoF bb mb v x))) (fun x hx => .inl hx)⟩
        · unfold offM
          simp [World.setCell, Array.getElem?_modify, hb]
        · rw [hx] at hm
          exact hm.elim h.bm h.bv)
      clear h ho hp
      go_enter Tryz.func119, Tryz.ntmps119
      go_wp2_with fail
      refine (unhide N).mono ?_
      rintro r w1 ⟨rfl, hm1, hc1⟩
      obtain ⟨q1, q2, q3⟩ := unhide HF w1 hm1 hc1
      have HQ := hide q3
      clear hm1 hc1 q3
      go_wp2
      go_end0
      exact ⟨rfl, unhide HQ⟩
    · rw [if_neg hp]
      have N := hide (mwrite_on h.mem hp ho i s hi h16)
      have HF : Hid (∀ w1, MemAt w1 B mb v (setM M i s) → Chg (memF mb v) w w1 → KtoAt w1 B bb mb v (setM M i s) H sd ∧ Chg (ktoF bb mb v) w w1) := hide (by
        intro w1 hm hc
        have hb1 : w1.heap[bb]? = w.heap[bb]? := hc.block bb h.lt (fun hf => hf.elim h.bm h.bv)
        exact ⟨⟨hb1.trans h.box, hm, h.bm, h.bv⟩, hc.mono (fun x hx => .inr hx)⟩)
      clear h ho hp
      go_enter Tryz.func119, Tryz.ntmps119
      go_wp2_with fail
      refine (unhide N).mono ?_
      rintro r w1 ⟨rfl, hm1, hc1⟩
      have HQ := hide (unhide HF w1 hm1 hc1)
      clear hm1 hc1
      go_wp2
      go_end0
      exact ⟨rfl, unhide HQ⟩
end
end Go.Proofs.YtajkbkljonejnaaGreatDoor
