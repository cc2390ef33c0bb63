/- wire's sheet: where a field stands, and a field as a part. -/
import Derived.Test.YtkmmgeoialdmlaaDoorWnP
namespace Go.Proofs.YtkmmgeoialdmlaaDoor
open Go.RowKit
set_option linter.unusedVariables false

def offN (f : Nat) : Nat := [0, 0, 12, 17, 14, 10, 11, 15, 0, 0, 1, 0, 2, 3, 0, 0, 0].getD f 0
def offT (f : Nat) : Nat := [0, 4, 0, 0, 0, 0, 0, 0, 16, 5, 0, 6, 0, 0, 7, 8, 9].getD f 9
def numPtr (b f : Nat) : Value := .pointer (if isNum f then some ⟨b, offN f, none⟩ else none)
set_option maxRecDepth 100000 in
set_option maxHeartbeats 4000000 in
theorem numPtr_any (f : Nat) (h1 : 1 ≤ f) (h2 : f ≤ 16) (b : Nat) (w : World) :
    Calls Tryd.prog 42 #[.pointer (some ⟨b, 0, none⟩), .int .i64 (f : Int)] w fun e w' => e = .returned (numPtr b f) ∧ w' = w := by
  rcases one_to_16 h1 h2 with rfl | rfl | rfl | rfl | rfl | rfl | rfl | rfl | rfl | rfl | rfl | rfl | rfl | rfl | rfl | rfl
  all_goals
    clear h1 h2
    go_enter Tryd.func42, Tryd.ntmps42
    go_wp2
    go_ret
    exact ⟨rfl, rfl⟩
set_option maxRecDepth 100000 in
set_option maxHeartbeats 4000000 in
theorem txtPtr_any (f : Nat) (h1 : 1 ≤ f) (h2 : f ≤ 16) (hn : isNum f = false) (b : Nat) (w : World) :
    Calls Tryd.prog 43 #[.pointer (some ⟨b, 0, none⟩), .int .i64 (f : Int)] w fun e w' => e = .returned (.pointer (some ⟨b, offT f, none⟩)) ∧ w' = w := by
  rcases one_to_16 h1 h2 with rfl | rfl | rfl | rfl | rfl | rfl | rfl | rfl | rfl | rfl | rfl | rfl | rfl | rfl | rfl | rfl
  all_goals first
    | (cases hn; done)
    | (clear h1 h2 hn
       go_enter Tryd.func43, Tryd.ntmps43
       go_wp2
       go_ret
       exact ⟨rfl, rfl⟩)
/-- the sheet's cells -/
def sheetC (x : Nt) (cb : Bool) : List Value := noteC x.kind x.num x.txt cb ++ [.int .i64 (x.num 3)]
def SheetAt (w : World) (b : Nat) (x : Nt) (cb : Bool) : Prop := w.heap[b]? = some (.cells (sheetC x cb).toArray 69 (0, 0))
theorem SheetAt.num {w : World} {b : Nat} {x : Nt} {cb : Bool} (h : SheetAt w b x cb) (f : Nat) (h1 : 1 ≤ f) (h2 : f ≤ 16) (hn : isNum f = true) : w.cell? ⟨b, offN f, none⟩ = some (.int .i64 (x.num f)) := by
  refine (cell_of_row _ _ (offN f) _ _ _ h).trans ?_
  rcases one_to_16 h1 h2 with rfl | rfl | rfl | rfl | rfl | rfl | rfl | rfl | rfl | rfl | rfl | rfl | rfl | rfl | rfl | rfl
  all_goals first | (cases hn; done) | rfl
theorem SheetAt.text {w : World} {b : Nat} {x : Nt} {cb : Bool} (h : SheetAt w b x cb) (f : Nat) (h1 : 1 ≤ f) (h2 : f ≤ 16) (hn : isNum f = false) : w.cell? ⟨b, offT f, none⟩ = some (.string (x.txt f)) := by
  refine (cell_of_row _ _ (offT f) _ _ _ h).trans ?_
  rcases one_to_16 h1 h2 with rfl | rfl | rfl | rfl | rfl | rfl | rfl | rfl | rfl | rfl | rfl | rfl | rfl | rfl | rfl | rfl
  all_goals first | (cases hn; done) | rfl
theorem SheetAt.below {w w' : World} {b B : Nat} {x : Nt} {cb : Bool} (h : SheetAt w b x cb) (hb : Below B w w') (hB : b < B) : SheetAt w' b x cb := (hb.block b hB).trans h
theorem nDigits_gt : ∀ (k n : Nat), 10 ^ k ≤ n → k < Lib.nDigits n
  | 0, n, _ => by have := Lib.nDigits_pos n; omega
  | k + 1, n, h => by
    have h10 : ¬ n < 10 := by
      have : 10 ^ 1 ≤ 10 ^ (k + 1) := Nat.pow_le_pow_right (by decide) (by omega)
      omega
    rw [Lib.nDigits_big h10]
    have := nDigits_gt k (n / 10) (by rw [Nat.pow_succ] at h; omega)
    omega
theorem numS_size (n : Int) (h0 : 0 ≤ n) (k : Nat) : (numS n k).size = (k - Lib.nDigits n.toNat) + Lib.nDigits n.toNat := by
  have hl : (Lib.itoa n).length = Lib.nDigits n.toNat := by unfold Lib.itoa; rw [if_neg (by omega), decDigits_length]
  unfold numS zero48
  rw [ByteArray.size_append, hl]
  show (List.replicate _ (48 : UInt8)).toArray.size + (Lib.itoa n).toArray.size = _
  rw [List.size_toArray, List.length_replicate, List.size_toArray, hl]
/-- what is told of a number -/
theorem num_fits (n : Int) (f : Nat) (hf : isNum f = true) (h0 : 0 ≤ n) : ((numS n (fmost f)).size ≤ fmost f ↔ n < ((10 ^ fmost f : Nat) : Int)) ∧ (n < ((10 ^ fmost f : Nat) : Int) → numS n (fmost f) = numT n f) := by
  obtain ⟨_, _, hm1, hm12⟩ := isNum_most f hf
  obtain ⟨k, hk⟩ : ∃ k, fmost f = k + 1 := ⟨fmost f - 1, by omega⟩
  have hs := numS_size n h0 (fmost f)
  rw [hk] at hs ⊢
  constructor
  · constructor
    · intro h
      rcases Int.lt_or_le n ((10 ^ (k + 1) : Nat) : Int) with h2 | h2
      · exact h2
      · have := nDigits_gt (k + 1) n.toNat (by omega)
        omega
    · intro h
      have := nDigits_le k n.toNat (by omega)
      omega
  · intro h
    have hl : (Lib.itoa n) = Lib.decDigits n.toNat := by unfold Lib.itoa; rw [if_neg (by omega)]
    apply ByteArray.ext
    apply Array.toList_inj.1
    unfold numS zero48 numT
    rw [ByteArray.data_append, Array.toList_append, hl, decDigits_length, hk]
    exact number_digs k n.toNat (by omega)
def NtOk (x : Nt) : Prop := (∀ f, -9223372036854775808 ≤ x.num f ∧ x.num f ≤ 9223372036854775807) ∧ ∀ f, (x.txt f).size ≤ 9223372036854775807
def partT (x : Nt) (f : Nat) : Value := if goodF x f then .agg #[.int .i64 (f : Int), .string (textN x f)] else .agg #[.int .i64 0, .string ⟨#[]⟩]
def partEr (x : Nt) (f : Nat) : Int := if goodF x f then 0 else 3
theorem field_most (m a : Int) (d : Bool) (wx : World) : (Instr.field 47 (.agg #[.int .i64 m, .int .i64 a, .bool d]) 0).run Tryd.prog wx = .ok (.int .i64 m) wx := by kernel_rfl
set_option maxRecDepth 100000 in
set_option maxHeartbeats 4000000 in
theorem part_any (x : Nt) (cb : Bool) (hx : NtOk x) (f : Nat) (h1 : 1 ≤ f) (h2 : f ≤ 16) (b : Nat) (w : World) (hb : SheetAt w b x cb) (he : Env w) (h4 : 4 ≤ w.heap.size) :
    Calls Tryd.prog 29 #[.pointer (some ⟨b, 0, none⟩), .int .i64 (f : Int)] w fun e w' => e = .returned (.tuple #[partT x f, .int .i64 (partEr x f)]) ∧ Below w.heap.size w w' := by
  have hbl : b < w.heap.size := World.block_lt_of_cell? w ⟨b, 0, none⟩ ((cell_of_row _ _ 0 _ _ _ hb).trans rfl)
  obtain ⟨W0, hW0⟩ : ∃ W0, W0 = w.alloc (.cells #[.int .i64 0, .string ⟨#[]⟩] 45) := ⟨_, rfl⟩
  have hB0 : Below w.heap.size w W0 := by rw [hW0]; exact (Below.refl _ _).alloc (Nat.le_refl _) _
  have hS0 : W0.heap.size = w.heap.size + 1 := by rw [hW0]; simp
  have hX0 : W0.heap[w.heap.size]? = some (.cells #[.int .i64 0, .string ⟨#[]⟩] 45 (0, 0)) := by rw [hW0]; exact heap_alloc_new _ _
  have hE0 : Env W0 := he.below hB0 h4
  have hb0 : SheetAt W0 b x cb := hb.below hB0 hbl
  have N1 := hide (fun w' => numPtr_any f h1 h2 b w')
  have HW0 := hide hW0; have HB0 := hide hB0; have HS0 := hide hS0
  have hwl : w.heap.size < W0.heap.size := by omega
  have X := hide (fun w' (h : Below W0.heap.size W0 w') => (show w'.cell? ⟨w.heap.size, 0, none⟩ = some (.int .i64 0) ∧ w'.cell? ⟨w.heap.size, 1, none⟩ = some (.string ⟨#[]⟩) ∧ w'.frozen? ⟨w.heap.size, 0, none⟩ = false ∧ w'.frozen? ⟨w.heap.size, 1, none⟩ = false from
    ⟨(cell_of_row _ _ 0 _ _ _ ((h.block _ hwl).trans hX0)).trans rfl, (cell_of_row _ _ 1 _ _ _ ((h.block _ hwl).trans hX0)).trans rfl, frozen_of_row _ _ 0 _ _ ((h.block _ hwl).trans hX0), frozen_of_row _ _ 1 _ _ ((h.block _ hwl).trans hX0)⟩))
  unfold numPtr at N1
  cases hn : isNum f with
  | false =>
    rw [hn] at N1
    simp only [Bool.false_eq_true, if_false] at N1
    have N2 := hide (fun w' => txtPtr_any f h1 h2 hn b w')
    have ct := hb0.text f h1 h2 hn
    have hP : partT x f = .agg #[.int .i64 (f : Int), .string (x.txt f)] := by unfold partT goodF textN; rw [hn]; rfl
    have hE : partEr x f = 0 := by unfold partEr goodF; rw [hn]; rfl
    rw [hP, hE]
    obtain ⟨x0, x1, f0, f1⟩ := unhide X W0 (Below.refl _ _)
    generalize offT f = ot at *
    generalize x.txt f = tx at *
    clear hW0 hB0 hS0 hX0 hE0 hb0 hb he hP hE
    go_enter Tryd.func29, Tryd.ntmps29
    go_upto_region 1 with fail
    rw [← unhide HW0]
    go_wp2_with fail
    refine (unhide N1 _).mono ?_
    rintro e w1 ⟨rfl, hw1⟩
    subst hw1
    go_wp2_with fail
    refine (unhide N2 _).mono ?_
    rintro e w2 ⟨rfl, hw2⟩
    subst hw2
    go_wp2_with fail
    refine bodyPost_ret (v := .tuple #[.agg #[.int .i64 (f : Int), .string tx], .int .i64 0]) (by simp [results, Tryd.results29, go_sem, x0, x1]) rfl ⟨rfl, ?_⟩
    exact ((unhide HB0).setCell (p := ⟨w.heap.size, 0, none⟩) (Nat.le_refl _) _).setCell (p := ⟨w.heap.size, 1, none⟩) (Nat.le_refl _) _
  | true =>
    rw [hn] at N1
    simp only [if_true] at N1
    obtain ⟨_, _, hm1, hm12⟩ := isNum_most f hn
    have CN := hide (fun w' (h : Below W0.heap.size W0 w') => (hb0.below h (by omega)).num f h1 h2 hn)
    have NF := hide (fun w' (h : Below W0.heap.size W0 w') => formOf_any f h1 h2 w' (hE0.below h (by omega)).forms)
    have hxb := hx.1 f
    have NN := hide (fun w' (h : Below W0.heap.size W0 w') => number_any (x.num f) (fmost f) hxb.1 hxb.2 (by omega) w' (hE0.below h (by omega)).pow)
    have hfits := num_fits (x.num f) f hn
    have hfd := field_most (fmost f : Int) (fahead f : Int) (fdig f)
    unfold formV at NF
    obtain ⟨g, hg⟩ : ∃ g, g = goodF x f := ⟨_, rfl⟩
    have hgi : g = inR x f := by rw [hg]; unfold goodF; rw [hn]; rfl
    have hgd : g = decide (0 ≤ x.num f ∧ (numS (x.num f) (fmost f)).size ≤ fmost f) := by
      rw [hgi]; unfold inR
      refine decide_eq_decide.2 ⟨fun h => ⟨h.1, (hfits h.1).1.2 h.2⟩, fun h => ⟨h.1, (hfits h.1).1.1 h.2⟩⟩
    have hP : partT x f = if g then .agg #[.int .i64 (f : Int), .string (numS (x.num f) (fmost f))] else .agg #[.int .i64 0, .string ⟨#[]⟩] := by
      unfold partT
      rw [← hg]
      cases hgg : g with
      | false => rfl
      | true =>
        have h3 := of_decide_eq_true (hgi.symm.trans hgg)
        have ht : textN x f = numT (x.num f) f := by unfold textN; rw [hn]; rfl
        rw [ht, ← (hfits h3.1).2 h3.2]
    have hE : partEr x f = if g then 0 else 3 := by unfold partEr; rw [← hg]
    rw [hP, hE]
    have hfi : (f : Int) ≤ 16 := by omega
    have hsz : (numS (x.num f) (fmost f)).size ≤ 100 := by
      have hl := itoa_len (x.num f) hxb.1 hxb.2
      unfold numS zero48
      rw [ByteArray.size_append]
      show (List.replicate _ (48 : UInt8)).toArray.size + (Lib.itoa _).toArray.size ≤ _
      rw [List.size_toArray, List.length_replicate, List.size_toArray]
      omega
    generalize numS (x.num f) (fmost f) = ns at *
    generalize x.num f = xn at *
    generalize offN f = on at *
    generalize fmost f = fm at *
    generalize fahead f = fa at *
    generalize fdig f = fd at *
    have HG := hide hgd
    clear hW0 hB0 hS0 hX0 hE0 hb0 hb he hP hE hg hgi hgd hfits hx
    go_enter Tryd.func29, Tryd.ntmps29
    go_upto_region 1 with fail
    rw [← unhide HW0]
    go_wp2_with fail
    refine (unhide N1 _).mono ?_
    rintro e w1 ⟨rfl, hw1⟩
    subst hw1
    go_upto_region 4 with fail
    refine wp_region_below w1 (Below.refl _ _) (by kernel_rfl) (by kernel_rfl) ?_
    repeat (
      refine Quietly.step (fun K hK => ?_)
      go_simp
      first
        | (refine hK _ ?_; clear hK K)
        | (apply Exists.intro
           refine ⟨fun w1 hw1 => ?_, hK _ ?_⟩
           (first | rfl | (rw [unhide CN w1 hw1]; exact ⟨rfl, rfl⟩) | (go_at_call 14; exact calls_below hw1 (unhide NF _ hw1)) | (go_at_call 18; exact calls_below hw1 (unhide NN _ hw1)))
           clear hK K))
    refine Quietly.nil ?_
    intro w4 hw4
    have cn := unhide CN w4 hw4
    have HB4 := hide ((unhide HB0).trans (hw4.mono (unhide HB0).size))
    by_cases hneg : xn < 0
    · have hg : g = false := by rw [unhide HG]; exact decide_eq_false (by omega)
      subst hg
      obtain ⟨x0, x1, f0, f1⟩ := unhide X w4 hw4
      have hd : decide (xn < 0) = true := decide_eq_true hneg
      clear hw4
      go_wp2_with fail
      refine bodyPost_ret (v := .tuple #[.agg #[.int .i64 0, .string ⟨#[]⟩], .int .i64 3]) (by simp [results, Tryd.results29, go_sem, x0, x1]) rfl ⟨rfl, ?_⟩
      exact ((unhide HB4).setCell (p := ⟨w.heap.size, 0, none⟩) (Nat.le_refl _) _).setCell (p := ⟨w.heap.size, 1, none⟩) (Nat.le_refl _) _
    · have hd : decide (xn < 0) = false := decide_eq_false hneg
      have N5 := hide (unhide NF w4 hw4)
      have HW4 := hide hw4
      clear hw4
      go_wp2_with fail
      refine (unhide N5).mono ?_
      rintro e w5 ⟨rfl, hb5⟩
      have hw5 : Below w1.heap.size w1 w5 := (unhide HW4).trans (hb5.mono (unhide HW4).size)
      obtain ⟨x0, x1, f0, f1⟩ := unhide X w5 hw5
      have HB5 := hide ((unhide HB0).trans (hw5.mono (unhide HB0).size))
      clear hb5 hw5
      by_cases hs2 : ns.size ≤ fm
      · have hg : g = true := by rw [unhide HG]; exact decide_eq_true ⟨by omega, hs2⟩
        subst hg
        have hd2 : ¬ (fm : Int) < (ns.size : Int) := by omega
        go_wp2_with fail
        refine bodyPost_ret (v := .tuple #[.agg #[.int .i64 (f : Int), .string ns], .int .i64 0]) (by simp [results, Tryd.results29, go_sem, x0, x1]) rfl ⟨rfl, ?_⟩
        exact ((unhide HB5).setCell (p := ⟨w.heap.size, 0, none⟩) (Nat.le_refl _) _).setCell (p := ⟨w.heap.size, 1, none⟩) (Nat.le_refl _) _
      · have hg : g = false := by rw [unhide HG]; exact decide_eq_false (fun h => hs2 h.2)
        subst hg
        have hd2 : (fm : Int) < (ns.size : Int) := by omega
        go_wp2_with fail
        refine bodyPost_ret (v := .tuple #[.agg #[.int .i64 0, .string ⟨#[]⟩], .int .i64 3]) (by simp [results, Tryd.results29, go_sem, x0, x1]) rfl ⟨rfl, ?_⟩
        exact ((unhide HB5).setCell (p := ⟨w.heap.size, 0, none⟩) (Nat.le_refl _) _).setCell (p := ⟨w.heap.size, 1, none⟩) (Nat.le_refl _) _
end Go.Proofs.YtkmmgeoialdmlaaDoor
