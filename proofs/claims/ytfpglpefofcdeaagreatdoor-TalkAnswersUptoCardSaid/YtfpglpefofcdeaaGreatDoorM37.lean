/- The literals within the document's Answer. -/
import Derived.Test.YtfpglpefofcdeaaGreatDoorM36
import Derived.Test.YtfpglpefofcdeaaGreatDoorM26
import Derived.Test.YtfpglpefofcdeaaGreatDoorM24
import Derived.Deep.RegionHeld3
namespace Go.Proofs.YtfpglpefofcdeaaGreatDoor
open Go.RowKit
set_option linter.unusedVariables false
set_option linter.unusedSimpArgs false
set_option maxRecDepth 100000

/-- what may change: the blocks of A alone, of those that were -/
structure Ext (A : Nat → Prop) (w w' : World) : Prop where
  low : Below 0 w w'
  keep : ∀ q, q < w.heap.size → ¬ A q → w'.heap[q]? = w.heap[q]?
theorem Ext.below {A : Nat → Prop} {w w' : World} {n : Nat} (h : Ext A w w') (hn : n ≤ w.heap.size) (hA : ∀ q, A q → n ≤ q) : Below n w w' :=
  ⟨h.low.os, h.low.tape, h.low.output, h.low.size, fun q hq => h.keep q (by omega) (fun ha => by have := hA q ha; omega)⟩
theorem Ext.trans {A : Nat → Prop} {a b c : World} (h : Ext A a b) (k : Ext A b c) : Ext A a c :=
  ⟨h.low.trans k.low, fun q hq hA => (k.keep q (Nat.lt_of_lt_of_le hq h.low.size) hA).trans (h.keep q hq hA)⟩
theorem Ext.of_below {A : Nat → Prop} {a b : World} (h : Below a.heap.size a b) : Ext A a b := ⟨h.mono (Nat.zero_le _), fun q hq _ => h.block q hq⟩
theorem Ext.mono {A B : Nat → Prop} {a b : World} (h : Ext A a b) (hAB : ∀ q, A q → B q) : Ext B a b := ⟨h.low, fun q hq hB => h.keep q hq (fun ha => hB (hAB q ha))⟩
theorem Ext.set {A : Nat → Prop} {a b : World} (h : Ext A a b) {g j : Nat} (hA : A g) (v : Value) : Ext A a (b.setCell ⟨g, j, none⟩ v) :=
  ⟨h.low.setCell (Nat.zero_le _) v, fun q hq hq2 => by
    rw [← h.keep q hq hq2]
    have hne : q ≠ g := fun e => hq2 (e ▸ hA)
    simp only [World.setCell]
    rw [Array.getElem?_modify, if_neg (by omega)]⟩
theorem Ext.row {A : Nat → Prop} {a b : World} {g : Nat} {o : Obj} (h : Ext A a b) (hg : a.heap[g]? = some o) (hA : ¬ A g) : b.heap[g]? = some o := (h.keep g (block_ltQ hg) hA).trans hg
theorem set_oneT {w : World} {g : Nat} {u v : Value} {t : TypeId} (h : w.heap[g]? = some (.cells #[u] t (0, 0))) : (w.setCell ⟨g, 0, none⟩ v).heap[g]? = some (.cells #[v] t (0, 0)) := by
  simp [World.setCell, Array.getElem?_modify, h]
theorem set_farT {w : World} {g q : Nat} {v : Value} {o : Option Obj} (h : w.heap[q]? = o) (hne : q ≠ g) : (w.setCell ⟨g, 0, none⟩ v).heap[q]? = o := by
  rw [← h]
  simp only [World.setCell]
  rw [Array.getElem?_modify, if_neg (by omega)]
theorem ent_item (args : Array Value) (w : World) : (callFunc 18 args).run Tryz.prog w = .ok (.enter 18 args) w := by kernel_rfl
theorem bcaseT {lg b : Bool} {n : Nat} (h : b = (lg || decide (65535 < n))) : (lg = true ∧ b = true) ∨ (lg = false ∧ 65535 < (n : Int) ∧ b = true) ∨ (lg = false ∧ ¬ 65535 < (n : Int) ∧ b = false) := by
  cases lg with
  | true => exact .inl ⟨rfl, h⟩
  | false =>
    by_cases hn : 65535 < n
    · exact .inr (.inl ⟨rfl, by omega, by rw [h, decide_eq_true hn]; rfl⟩)
    · exact .inr (.inr ⟨rfl, by omega, by rw [h, decide_eq_false hn]; rfl⟩)
set_option maxHeartbeats 2000000 in
theorem rtext_any (t : Int) (s : ByteArray) (G I : Nat) (lg : Bool) (tx : ByteArray) (w : World) (hG : w.heap[G]? = some (.cells #[.bool lg] 4 (0, 0))) (hI : w.heap[I]? = some (.cells #[.string tx] 9 (0, 0))) (hne : I ≠ G) (ht : 0 ≤ t ∧ t < 256) (hs : s.size ≤ 9000000) (hx : tx.size ≤ 100000000) :
    Calls Tryz.prog 20 #[.int .i64 t, .string s, .pointer (some ⟨G, 0, none⟩), .pointer (some ⟨I, 0, none⟩)] w fun e w' => e = .returned (.tuple #[]) ∧ w'.heap[G]? = some (.cells #[.bool (lg || decide (65535 < s.size))] 4 (0, 0)) ∧ w'.heap[I]? = some (.cells #[.string (tx ++ itS t s)] 9 (0, 0)) ∧ Ext (fun q => q = G ∨ q = I) w w' := by
  have hb : ∃ b, b = (lg || decide (65535 < s.size)) := ⟨_, rfl⟩
  obtain ⟨b, hb⟩ := hb
  rw [← hb]
  obtain ⟨W1, hW1⟩ : ∃ W1, W1 = w.setCell ⟨G, 0, none⟩ (.bool b) := ⟨_, rfl⟩
  have hG1 : W1.heap[G]? = some (.cells #[.bool b] 4 (0, 0)) := by rw [hW1]; exact set_oneT hG
  have hI1 : W1.heap[I]? = some (.cells #[.string tx] 9 (0, 0)) := by rw [hW1]; exact set_farT hI hne
  have hE1 : Ext (fun q => q = G ∨ q = I) w W1 := by rw [hW1]; exact (Ext.of_below (Below.refl _ _)).set (.inl rfl) _
  have N1 := hide (fun W => ritem_any t s W ht hs)
  have hz := itS_size t s
  have hlz : lenLen s.size ≤ 10 := by unfold lenLen; split <;> (try split) <;> omega
  have ha := fun w' => run_string_add_sum (P := Tryz.prog) w' tx (itS t s) (by omega)
  have cG : w.cell? ⟨G, 0, none⟩ = some (.bool lg) := cell_of_row _ _ 0 _ _ _ hG
  have fG : w.frozen? ⟨G, 0, none⟩ = false := frozen_of_row _ _ 0 _ _ hG
  have HG1 := hide hG1; have HI1 := hide hI1; have HE1 := hide hE1; have HNE := hide hne
  generalize itS t s = it at *
  have HW1 := hide hW1
  clear hG1 hI1 hE1 hW1 hne hz hlz hx hs ht hI hG
  rcases bcaseT hb with ⟨rfl, rfl⟩ | ⟨rfl, hl, rfl⟩ | ⟨rfl, hl, rfl⟩
  all_goals
    clear hb
    go_enter Tryz.func20, Tryz.ntmps20
    go_upto_region 1 with fail
    rw [← unhide HW1]
    have cI : W1.cell? ⟨I, 0, none⟩ = some (.string tx) := cell_of_row _ _ 0 _ _ _ (unhide HI1)
    have fI : W1.frozen? ⟨I, 0, none⟩ = false := frozen_of_row _ _ 0 _ _ (unhide HI1)
    go_region_law ((first
      | (refine step_call2T (by rfl) 18 _ _ _ (by rfl) (.int .i64 t) (.string s) (by rfl) (by rfl) ent_item (unhide N1 _) ?_; rintro ev z ⟨rfl, kz⟩; refine ⟨_, rfl, ?_⟩; have hz : Below W1.heap.size W1 z := (Below.refl _ _).drew.trans kz; have zI := (hz.block _ (block_ltQ (unhide HI1))).trans (unhide HI1); have cI2 : z.cell? ⟨I, 0, none⟩ = some (.string tx) := cell_of_row _ _ 0 _ _ _ zI; have fI2 : z.frozen? ⟨I, 0, none⟩ = false := frozen_of_row _ _ 0 _ _ zI)
      | fail))
    all_goals
      have zG := (hz.block _ (block_ltQ (unhide HG1))).trans (unhide HG1)
      have hE2 := ((unhide HE1).trans (Ext.of_below hz)).set (g := I) (j := 0) (.inr rfl) (.string (tx ++ it))
      have HF := hide (And.intro (set_farT (v := .string (tx ++ it)) zG (fun e => unhide HNE e.symm)) (And.intro (set_oneT (v := .string (tx ++ it)) zI) hE2))
      clear zG hE2 hz kz zI
      go_end0
      exact ⟨rfl, (unhide HF).1, (unhide HF).2.1, (unhide HF).2.2⟩
theorem ncaseT {far b : Bool} {n M : Int} (h : b = (far || decide (n < 0) || decide (M ≤ n))) : (far = true ∧ b = true) ∨ (far = false ∧ n < 0 ∧ b = true) ∨ (far = false ∧ ¬ n < 0 ∧ M ≤ n ∧ b = true) ∨ (far = false ∧ ¬ n < 0 ∧ ¬ M ≤ n ∧ b = false) := by
  cases far with
  | true => exact .inl ⟨rfl, by rw [h]; rfl⟩
  | false =>
    by_cases h0 : n < 0
    · exact .inr (.inl ⟨rfl, h0, by rw [h, decide_eq_true h0]; rfl⟩)
    · by_cases h1 : M ≤ n
      · exact .inr (.inr (.inl ⟨rfl, h0, h1, by rw [h, decide_eq_false h0, decide_eq_true h1]; rfl⟩))
      · exact .inr (.inr (.inr ⟨rfl, h0, h1, by rw [h, decide_eq_false h0, decide_eq_false h1]; rfl⟩))
set_option maxHeartbeats 4000000 in
theorem rnumA_any (t n : Int) (k : Nat) (M : Int) (hk : (k = 1 ∧ M = 256) ∨ (k = 2 ∧ M = 65536)) (F X G I : Nat) (far lg : Bool) (tx : ByteArray) (w : World) (hF : w.heap[F]? = some (.cells #[.bool far] 4 (0, 0)))
    (hX : w.heap[X]? = some (.cells #[.func (.func 20) #[] #[.pointer (some ⟨G, 0, none⟩), .pointer (some ⟨I, 0, none⟩)]] 63 (0, 0))) (hG : w.heap[G]? = some (.cells #[.bool lg] 4 (0, 0))) (hI : w.heap[I]? = some (.cells #[.string tx] 9 (0, 0)))
    (h1 : I ≠ G) (h2 : F ≠ G) (h3 : F ≠ I) (h4 : X ≠ F) (h5 : X ≠ G) (h6 : X ≠ I) (ht : 0 ≤ t ∧ t < 256) (hn : n ≤ 9223372036854775807) (hx : tx.size ≤ 100000000) :
    Calls Tryz.prog 21 #[.int .i64 t, .int .i64 n, .int .i64 (k : Int), .pointer (some ⟨F, 0, none⟩), .pointer (some ⟨X, 0, none⟩)] w fun e w' => e = .returned (.tuple #[]) ∧ w'.heap[F]? = some (.cells #[.bool (far || decide (n < 0) || decide (M ≤ n))] 4 (0, 0)) ∧ w'.heap[G]? = some (.cells #[.bool lg] 4 (0, 0)) ∧ w'.heap[I]? = some (.cells #[.string (tx ++ itS t (strOfNums (bigL n.toNat k)))] 9 (0, 0)) ∧ Ext (fun q => q = F ∨ q = G ∨ q = I) w w' := by
  obtain ⟨b, hb⟩ : ∃ b, b = (far || decide (n < 0) || decide (M ≤ n)) := ⟨_, rfl⟩
  rw [← hb]
  obtain ⟨W1, hW1⟩ : ∃ W1, W1 = w.setCell ⟨F, 0, none⟩ (.bool b) := ⟨_, rfl⟩
  have hF1 : W1.heap[F]? = some (.cells #[.bool b] 4 (0, 0)) := by rw [hW1]; exact set_oneT hF
  have hX1 := (by rw [hW1]; exact set_farT hX h4 : W1.heap[X]? = some (.cells #[.func (.func 20) #[] #[.pointer (some ⟨G, 0, none⟩), .pointer (some ⟨I, 0, none⟩)]] 63 (0, 0)))
  have hG1 : W1.heap[G]? = some (.cells #[.bool lg] 4 (0, 0)) := by rw [hW1]; exact set_farT hG (fun e => h2 e.symm)
  have hI1 : W1.heap[I]? = some (.cells #[.string tx] 9 (0, 0)) := by rw [hW1]; exact set_farT hI (fun e => h3 e.symm)
  have hE1 : Ext (fun q => q = F ∨ q = G ∨ q = I) w W1 := by rw [hW1]; exact (Ext.of_below (Below.refl _ _)).set (.inl rfl) _
  have hz : (strOfNums (bigL n.toNat k)).size = k := by rw [strOfNums_size, bigL_length]
  have B1 := hide (fun W => big_any n.toNat k W (by omega) (by omega))
  have NT := hide (fun (W : World) (hb : Below W1.heap.size W1 W) => rtext_any t (strOfNums (bigL n.toNat k)) G I lg tx W ((hb.block _ (block_ltQ hG1)).trans hG1) ((hb.block _ (block_ltQ hI1)).trans hI1) h1 ht (by rw [hz]; omega) hx)
  rw [hz, show (lg || decide (65535 < k)) = lg by rw [decide_eq_false (by omega)]; simp] at NT
  have HS : Hid (∀ W, Below W1.heap.size W1 W → W.cell? ⟨X, 0, none⟩ = some (.func (.func 20) #[] #[.pointer (some ⟨G, 0, none⟩), .pointer (some ⟨I, 0, none⟩)])) := hide (fun W hb => cell_of_row _ _ 0 _ _ _ ((hb.block _ (block_ltQ hX1)).trans hX1))
  have HF1 := hide hF1; have HX1 := hide hX1; have HE1 := hide hE1; have HW1 := hide hW1
  have H23 := hide (And.intro (fun e : F = G ∨ F = I => e.elim h2 h3) (fun e : X = G ∨ X = I => e.elim h5 h6))
  have cF : w.cell? ⟨F, 0, none⟩ = some (.bool far) := cell_of_row _ _ 0 _ _ _ hF
  have fF : w.frozen? ⟨F, 0, none⟩ = false := frozen_of_row _ _ 0 _ _ hF
  have hmx : max n 0 = ((n.toNat : Nat) : Int) := by omega
  have hM : wrap64 (2 ^ (8 * k)) = M := by
    rw [wrap_pow k (by omega)]
    rcases hk with ⟨rfl, rfl⟩ | ⟨rfl, rfl⟩ <;> rfl
  generalize hT : strOfNums (bigL n.toNat k) = T at *
  generalize n.toNat = m at *
  have hki : (k : Int) ≤ 2 := by omega
  have hk0 : (0 : Int) ≤ (k : Int) := by omega
  clear hF1 hX1 hG1 hI1 hE1 hW1 hF hX hG hI h1 h2 h3 h4 h5 h6 hz hx ht hT hk
  rcases ncaseT hb with ⟨rfl, rfl⟩ | ⟨rfl, h0, rfl⟩ | ⟨rfl, h0, h1, rfl⟩ | ⟨rfl, h0, h1, rfl⟩
  all_goals
    clear hb
    go_enter Tryz.func21, Tryz.ntmps21
    go_upto_region 1 with fail
    rw [← unhide HW1]
    have hs0 := unhide HS W1.drew (Below.refl _ _).drew
    go_region_held3 (fun W => W.cell? ⟨X, 0, none⟩ = some (.func (.func 20) #[] #[.pointer (some ⟨G, 0, none⟩), .pointer (some ⟨I, 0, none⟩)]))
      (first | (with_reducible exact hs2) | (with_reducible exact hs1) | (with_reducible exact hs0) | exact hs0)
      ((first
        | (have hq := b1; go_at_call 20; refine (unhide NT _ b1).mono ?_; rintro ev z2 ⟨rfl, zG, zI, zE⟩; have z1X := (b1.block _ (block_ltQ (unhide HX1))).trans (unhide HX1); have z2X := zE.row z1X (unhide H23).2; have hs2 : z2.cell? ⟨X, 0, none⟩ = some (.func (.func 20) #[] #[.pointer (some ⟨G, 0, none⟩), .pointer (some ⟨I, 0, none⟩)]) := cell_of_row _ _ 0 _ _ _ z2X)
        | (go_at_call 22; refine (unhide B1 _).mono ?_; rintro ev z1 ⟨rfl, j1⟩; have b1 : Below W1.heap.size W1 z1 := (Below.refl _ _).drew.trans j1; have hs1 := unhide HS z1 b1)))
    all_goals
      have z1F := (b1.block _ (block_ltQ (unhide HF1))).trans (unhide HF1)
      have z2F := zE.row z1F (unhide H23).1
      have hE := ((unhide HE1).trans (Ext.of_below b1)).trans (zE.mono (fun q hq => .inr hq))
      have HQ := hide (And.intro z2F (And.intro zG (And.intro zI hE)))
      clear z1F z2F zG zI hE zE z1X z2X hs0 hs1 hs2 b1 j1
      go_end0
      exact ⟨rfl, (unhide HQ).1, (unhide HQ).2.1, (unhide HQ).2.2.1, (unhide HQ).2.2.2⟩
end Go.Proofs.YtfpglpefofcdeaaGreatDoor
