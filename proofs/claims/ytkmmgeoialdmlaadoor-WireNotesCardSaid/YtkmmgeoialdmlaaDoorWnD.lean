/- wire's noteOf, and Read. -/
import Derived.Test.YtkmmgeoialdmlaaDoorWnC
import Derived.Laws.Tables
import Derived.Laws.Rows
import Derived.Deep.MidRow
namespace Go.Proofs.YtkmmgeoialdmlaaDoor
open Go.RowKit
set_option linter.unusedVariables false

theorem sheet_num {w : World} {b : Nat} {k : Int} {ps : List Prt} {cb : Bool} (h : SheetAt w b (ntP k ps) cb) (n : Nat) (h1 : 1 ≤ n) (h16 : n ≤ 16) (hn : isNum n = true) (t : ByteArray) :
    SheetAt (w.setCell ⟨b, offN n, none⟩ (.int .i64 (atoiN t.data.toList))) b (ntP k (ps ++ [((n : Int), t)])) cb := by
  unfold SheetAt at h ⊢
  rw [setCell_eq_setRow w b _ _ _ _ _ h, setRow_heap w b _ _ _ _ h]
  congr 2
  unfold ntP
  rw [rawP_snoc]
  rcases one_to_16 h1 h16 with rfl | rfl | rfl | rfl | rfl | rfl | rfl | rfl | rfl | rfl | rfl | rfl | rfl | rfl | rfl | rfl
  all_goals first | (cases hn; done) | rfl
theorem sheet_txt {w : World} {b : Nat} {k : Int} {ps : List Prt} {cb : Bool} (h : SheetAt w b (ntP k ps) cb) (n : Nat) (h1 : 1 ≤ n) (h16 : n ≤ 16) (hn : isNum n = false) (t : ByteArray) :
    SheetAt (w.setCell ⟨b, offT n, none⟩ (.string t)) b (ntP k (ps ++ [((n : Int), t)])) cb := by
  unfold SheetAt at h ⊢
  rw [setCell_eq_setRow w b _ _ _ _ _ h, setRow_heap w b _ _ _ _ h]
  congr 2
  unfold ntP
  rw [rawP_snoc]
  rcases one_to_16 h1 h16 with rfl | rfl | rfl | rfl | rfl | rfl | rfl | rfl | rfl | rfl | rfl | rfl | rfl | rfl | rfl | rfl
  all_goals first | (cases hn; done) | rfl
theorem SheetAt.frozenN {w : World} {b : Nat} {x : Nt} {cb : Bool} (h : SheetAt w b x cb) (i : Nat) : w.frozen? ⟨b, i, none⟩ = false := frozen_of_row _ _ i _ _ h
theorem good_mem {last : Int} {ps : List Prt} (h : goodP last ps = true) (h0 : 0 ≤ last) : ∀ p ∈ ps, 1 ≤ p.1.toNat ∧ p.1.toNat ≤ 16 ∧ 0 < p.1 ∧ p.2.size ≤ 9999 := by
  induction ps generalizing last with
  | nil => intro p hp; cases hp
  | cons x r ih =>
    obtain ⟨g1, g2, g3, g4⟩ := good_cons h
    intro p hp
    rcases List.mem_cons.1 hp with rfl | hp
    · exact ⟨by omega, by omega, by omega, takes_size p.1.toNat (by omega) (by omega) p.2 g3⟩
    · exact ih g4 (by omega) p hp
theorem unpL_good (s : ByteArray) : goodP 0 (unpL s) = true := by
  unfold unpL
  cases hb : unpB s with
  | false => rfl
  | true =>
    have h := of_decide_eq_true hb
    exact (good_of_packE h.1).2.2
theorem sizeNote : (Tryd.prog.info? 35).map (·.size) = some 17 := by kernel_rfl
/-- no note -/
def noteZ : List Value := noteC 0 (fun _ => 0) (fun _ => ⟨#[]⟩) false
/-- a note in a block of its own -/
def NoteAt (w : World) (b : Nat) (l : List Value) : Prop := w.heap[b]? = some (.cells l.toArray 35 (0, 0))
def noteOfL (k : Int) (l : List Prt) : List Value := noteC (nrm (ntP k l)).kind (nrm (ntP k l)).num (nrm (ntP k l)).txt (decide ((nrm (ntP k l)).num 3 = 1))
theorem cash_dec (n : Int) : decide (cashN n = 1) = decide (n = 1) := by
  unfold cashN
  by_cases h : n = 1
  · rw [if_pos h]; simp [h]
  · rw [if_neg h]; simp [h]
theorem noteOfL_as (k : Int) (l : List Prt) : noteOfL k l = noteC k (ntP k l).num (ntP k l).txt (decide ((ntP k l).num 3 = 1)) := by
  unfold noteOfL
  have e : decide ((nrm (ntP k l)).num 3 = 1) = decide ((ntP k l).num 3 = 1) := cash_dec _
  rw [e]
  rfl
def NInv (k : Int) (l : List Prt) (W2 : World) (sb : Nat) (iv : Value) (wx : World) : Prop :=
  ∃ q : Nat, q ≤ l.length ∧ iv = .int .i64 (q : Int) ∧ SheetAt wx sb (ntP k (l.take q)) false ∧ Below sb W2 wx
set_option maxRecDepth 100000 in
set_option maxHeartbeats 8000000 in
theorem noteOf_any (k : Int) (l : List Prt) (hg : goodP 0 l = true) (pa : Option Addr) (c : Nat) (w : World) (hr : PRow w pa l) (he : Env w) (h4 : 4 ≤ w.heap.size) :
    Calls Tryd.prog 32 #[.agg #[.int .i64 k, .slice pa l.length c]] w fun e w' => e = .returned (.agg (noteOfL k l).toArray) ∧ Below w.heap.size w w' := by
  obtain ⟨RV, hRV⟩ : ∃ RV, RV = Value.agg (noteOfL k l).toArray := ⟨_, rfl⟩
  rw [← hRV]
  have HRV := hide hRV
  clear hRV
  have hlen : l.length ≤ 16 := by have := good_len hg; have := last_le hg (by omega); omega
  obtain ⟨W2, hW2⟩ : ∃ W2, W2 = ((w.alloc (.cells #[.int .i64 k, .slice pa l.length c] 24)).alloc (.cells #[.int .i64 0, .int .i64 0, .int .i64 0, .int .i64 0, .string ⟨#[]⟩, .string ⟨#[]⟩, .string ⟨#[]⟩, .string ⟨#[]⟩, .string ⟨#[]⟩, .string ⟨#[]⟩, .int .i64 0, .int .i64 0, .int .i64 0, .bool false, .int .i64 0, .int .i64 0, .string ⟨#[]⟩] 35)).alloc (.cells #[.int .i64 k, .int .i64 0, .int .i64 0, .int .i64 0, .string ⟨#[]⟩, .string ⟨#[]⟩, .string ⟨#[]⟩, .string ⟨#[]⟩, .string ⟨#[]⟩, .string ⟨#[]⟩, .int .i64 0, .int .i64 0, .int .i64 0, .bool false, .int .i64 0, .int .i64 0, .string ⟨#[]⟩, .int .i64 0] 69) := ⟨_, rfl⟩
  have hB2 : Below w.heap.size w W2 := by rw [hW2]; exact (((Below.refl _ _).alloc (Nat.le_refl _) _).alloc (by simp) _).alloc (by simp; omega) _
  have hS2 : W2.heap.size = w.heap.size + 3 := by rw [hW2]; simp
  have e1 : (w.alloc (.cells #[.int .i64 k, .slice pa l.length c] 24)).heap.size = w.heap.size + 1 := by simp
  have e2 : ((w.alloc (.cells #[.int .i64 k, .slice pa l.length c] 24)).alloc (.cells #[.int .i64 0, .int .i64 0, .int .i64 0, .int .i64 0, .string ⟨#[]⟩, .string ⟨#[]⟩, .string ⟨#[]⟩, .string ⟨#[]⟩, .string ⟨#[]⟩, .string ⟨#[]⟩, .int .i64 0, .int .i64 0, .int .i64 0, .bool false, .int .i64 0, .int .i64 0, .string ⟨#[]⟩] 35)).heap.size = w.heap.size + 1 + 1 := by simp
  have hM2 : W2.heap[w.heap.size]? = some (.cells #[.int .i64 k, .slice pa l.length c] 24 (0, 0)) := by
    rw [hW2]; exact (Below.heap_alloc _ _ _ (by omega)).trans ((Below.heap_alloc _ _ _ (by omega)).trans (heap_alloc_new _ _))
  have hZ2 : NoteAt W2 (w.heap.size + 1) noteZ := by
    unfold NoteAt
    rw [hW2]; refine (Below.heap_alloc _ _ _ (by omega)).trans ?_
    rw [← e1]; exact heap_alloc_new _ _
  have hSh : SheetAt W2 (w.heap.size + 1 + 1) (ntP k []) false := by
    unfold SheetAt
    rw [hW2, ← e2]; exact heap_alloc_new _ _
  have m0 : W2.cell? ⟨w.heap.size, 0, none⟩ = some (.int .i64 k) := (cell_of_row _ _ 0 _ _ _ hM2).trans rfl
  have m1 : W2.cell? ⟨w.heap.size, 1, none⟩ = some (.slice pa l.length c) := (cell_of_row _ _ 1 _ _ _ hM2).trans rfl
  have hgm := good_mem hg (Int.le_refl 0)
  have HW2 := hide hW2; have HB2 := hide hB2; have HS2 := hide hS2; have HM2 := hide hM2; have HZ2 := hide hZ2; have HSH := hide hSh; have HR := hide hr; have HE := hide he; have HGM := hide hgm
  have hb0 : (w.alloc (.cells #[.int .i64 k, .slice pa l.length c] 24)).cell? ⟨w.heap.size, 0, none⟩ = some (.int .i64 k) := (cell_of_row _ _ 0 _ _ _ (heap_alloc_new _ _)).trans rfl
  clear hW2 hB2 hS2 hM2 hZ2 hSh hr he hgm hg e1 e2
  go_enter Tryd.func32, Tryd.ntmps32
  go_upto_region 2 with fail
  rw [← unhide HW2]
  obtain ⟨sb, hsb⟩ : ∃ sb, sb = w.heap.size + 1 + 1 := ⟨_, rfl⟩
  rw [← hsb]
  have hs2 := unhide HS2
  have hI0 : NInv k l W2 sb (.int .i64 0) W2 := ⟨0, Nat.zero_le _, rfl, by rw [hsb]; exact unhide HSH, Below.refl _ _⟩
  have HI0 := hide hI0
  have hleni : (l.length : Int) ≤ 16 := by omega
  have hsw : w.heap.size < sb := by omega
  have hsw1 : w.heap.size + 1 < sb := by omega
  have hsw2 : sb < W2.heap.size := by omega
  have HSB := hide hsb
  clear hI0 hb0 hs2 hsb
  go_wp2_with fail
  go_loopw [15] (fun iv wx => NInv k l W2 sb iv wx) (fun iv _ => l.length - (intOf iv).toNat)
  case atStart => exact unhide HI0
  case round =>
    obtain ⟨q, hq, rfl, hsh, hbw⟩ := hrel
    clear HI0
    have hslt := sheet_lt hsh
    have hbww : Below w.heap.size w wr := (unhide HB2).trans (hbw.mono (by omega))
    have hbwz := hbww.size
    by_cases hlt : q < l.length
    · obtain ⟨p, hpq⟩ : ∃ p, l[q]? = some p := ⟨_, List.getElem?_eq_getElem hlt⟩
      have htk : l.take (q + 1) = l.take q ++ [p] := by rw [List.take_add_one, hpq]; rfl
      obtain ⟨g1, g16, gp, gz⟩ := unhide HGM p (List.mem_of_getElem? hpq)
      rcases (unhide HR).below hbww (Nat.le_refl _) with hnil | ⟨b, off, rfl, hbl, hc⟩
      · rw [hnil] at hlt; simp at hlt
      obtain ⟨ck0, ck1⟩ := hc q p hpq
      obtain ⟨pn, ps⟩ := p
      simp only at ck0 ck1 g1 g16 gp gz
      obtain ⟨n, rfl⟩ : ∃ n : Nat, pn = (n : Int) := ⟨pn.toNat, by omega⟩
      rw [Int.toNat_natCast] at g1 g16
      obtain ⟨W3, hW3⟩ : ∃ W3, W3 = wr.alloc (.cells #[.int .i64 (n : Int), .string ps] 45) := ⟨_, rfl⟩
      have hB3 : Below wr.heap.size wr W3 := by rw [hW3]; exact (Below.refl _ _).alloc (Nat.le_refl _) _
      have hS3 : W3.heap.size = wr.heap.size + 1 := by rw [hW3]; simp
      have hX3 : W3.heap[wr.heap.size]? = some (.cells #[.int .i64 (n : Int), .string ps] 45 (0, 0)) := by rw [hW3]; exact heap_alloc_new _ _
      have p0 : W3.cell? ⟨wr.heap.size, 0, none⟩ = some (.int .i64 (n : Int)) := (cell_of_row _ _ 0 _ _ _ hX3).trans rfl
      have p1 : W3.cell? ⟨wr.heap.size, 1, none⟩ = some (.string ps) := (cell_of_row _ _ 1 _ _ _ hX3).trans rfl
      have hsh3 := hsh.below hB3 hslt
      have N1 := hide (fun w' => numPtr_any n g1 g16 sb w')
      have hE3 : Env W3 := ((unhide HE).below hbww h4).below hB3 (by have := hbww.size; omega)
      have hbw3 : Below sb W2 W3 := hbw.trans (hB3.mono (by omega))
      have HW3 := hide hW3; have HTK := hide htk; have HSH3 := hide hsh3; have HBW3 := hide hbw3
      have hsl3 : sb < W3.heap.size := by omega
      have hlti : (q : Int) < (l.length : Int) := by omega
      have hni : (n : Int) ≤ 16 := by omega
      unfold numPtr at N1
      clear hW3 hX3 htk hsh3 hsh hbw hpq hc hB3 hbw3 hS3
      cases hn : isNum n with
      | true =>
        rw [hn] at N1
        simp only [if_true] at N1
        have NA := hide (atoi_any ps (by omega) W3 hE3.errs)
        have STEP := hide (fun (w' : World) (h : SheetAt w' sb (ntP k (l.take q)) false) => sheet_num h n g1 g16 hn ps)
        have CN := hide (fun (w' : World) (h : SheetAt w' sb (ntP k (l.take q)) false) => h.num n g1 g16 hn)
        generalize atoiN ps.data.toList = av at *
        generalize offN n = on at *
        clear hE3 hn
        go_upto_region 5 with fail
        rw [← unhide HW3]
        go_wp2_with fail
        refine (unhide N1 _).mono ?_
        rintro e w4 ⟨rfl, hw4⟩
        subst hw4
        go_wp2_with fail
        refine (unhide NA).mono ?_
        rintro e w5 ⟨ev, rfl, hb5⟩
        have hsh5 := (unhide HSH3).below hb5 hsl3
        have cn := unhide CN w5 hsh5
        have fz := hsh5.frozenN on
        have HST := hide (unhide STEP w5 hsh5)
        have HB5 := hide hb5
        clear hb5 hsh5
        go_wp2
        go_roundw
        case rel =>
          refine ⟨q + 1, by omega, by go_num, ?_, ?_⟩
          · rw [unhide HTK]; exact unhide HST
          · have h1 := (unhide HBW3).trans ((unhide HB5).mono (by omega))
            exact h1.setCell (p := ⟨sb, on, none⟩) (Nat.le_refl sb) _
        case measure => simp [intOf]; omega
      | false =>
        rw [hn] at N1
        simp only [Bool.false_eq_true, if_false] at N1
        have NT := hide (fun w' => (txtPtr_any n g1 g16 hn sb w'))
        have STEP := hide (fun (w' : World) (h : SheetAt w' sb (ntP k (l.take q)) false) => sheet_txt h n g1 g16 hn ps)
        have ct := (unhide HSH3).text n g1 g16 hn
        have fz := (unhide HSH3).frozenN (offT n)
        generalize offT n = ot at *
        clear hE3 hn
        go_upto_region 5 with fail
        rw [← unhide HW3]
        go_wp2_with fail
        refine (unhide N1 _).mono ?_
        rintro e w4 ⟨rfl, hw4⟩
        subst hw4
        go_upto_region 8 with fail
        go_region_with ((go_at_call 43; refine (unhide NT _).mono ?_; rintro e v2 ⟨rfl, hv2⟩; subst hv2))
        all_goals
          go_wp2
          go_roundw
          case rel =>
            refine ⟨q + 1, by omega, by go_num, ?_, ?_⟩
            · rw [unhide HTK]; exact unhide STEP _ (unhide HSH3)
            · first
                | exact ((unhide HBW3).drew).setCell (p := ⟨sb, ot, none⟩) (Nat.le_refl sb) _
                | exact ((unhide HBW3).setCell (p := ⟨sb, ot, none⟩) (Nat.le_refl sb) _).drew
          case measure => simp [intOf]; omega
    · have hlti : ¬ (q : Int) < (l.length : Int) := by omega
      have htq : l.take q = l := List.take_of_length_le (by omega)
      rw [htq] at hsh
      have hrv : RV = .agg #[.int .i64 k, .int .i64 ((ntP k l).num 10), .int .i64 ((ntP k l).num 12), .int .i64 ((ntP k l).num 13), .string ((ntP k l).txt 1), .string ((ntP k l).txt 9), .string ((ntP k l).txt 11), .string ((ntP k l).txt 14), .string ((ntP k l).txt 15), .string ((ntP k l).txt 16), .int .i64 ((ntP k l).num 5), .int .i64 ((ntP k l).num 6), .int .i64 ((ntP k l).num 2), .bool (decide ((ntP k l).num 3 = 1)), .int .i64 ((ntP k l).num 4), .int .i64 ((ntP k l).num 7), .string ((ntP k l).txt 8)] := by rw [unhide HRV, noteOfL_as]; rfl
      have x0 : wr.cell? ⟨sb, 0, none⟩ = some (.int .i64 k) := (cell_of_row _ _ 0 _ _ _ hsh).trans rfl
      have x1 : wr.cell? ⟨sb, 1, none⟩ = some (.int .i64 ((ntP k l).num 10)) := (cell_of_row _ _ 1 _ _ _ hsh).trans rfl
      have x2 : wr.cell? ⟨sb, 2, none⟩ = some (.int .i64 ((ntP k l).num 12)) := (cell_of_row _ _ 2 _ _ _ hsh).trans rfl
      have x3 : wr.cell? ⟨sb, 3, none⟩ = some (.int .i64 ((ntP k l).num 13)) := (cell_of_row _ _ 3 _ _ _ hsh).trans rfl
      have x4 : wr.cell? ⟨sb, 4, none⟩ = some (.string ((ntP k l).txt 1)) := (cell_of_row _ _ 4 _ _ _ hsh).trans rfl
      have x5 : wr.cell? ⟨sb, 5, none⟩ = some (.string ((ntP k l).txt 9)) := (cell_of_row _ _ 5 _ _ _ hsh).trans rfl
      have x6 : wr.cell? ⟨sb, 6, none⟩ = some (.string ((ntP k l).txt 11)) := (cell_of_row _ _ 6 _ _ _ hsh).trans rfl
      have x7 : wr.cell? ⟨sb, 7, none⟩ = some (.string ((ntP k l).txt 14)) := (cell_of_row _ _ 7 _ _ _ hsh).trans rfl
      have x8 : wr.cell? ⟨sb, 8, none⟩ = some (.string ((ntP k l).txt 15)) := (cell_of_row _ _ 8 _ _ _ hsh).trans rfl
      have x9 : wr.cell? ⟨sb, 9, none⟩ = some (.string ((ntP k l).txt 16)) := (cell_of_row _ _ 9 _ _ _ hsh).trans rfl
      have x10 : wr.cell? ⟨sb, 10, none⟩ = some (.int .i64 ((ntP k l).num 5)) := (cell_of_row _ _ 10 _ _ _ hsh).trans rfl
      have x11 : wr.cell? ⟨sb, 11, none⟩ = some (.int .i64 ((ntP k l).num 6)) := (cell_of_row _ _ 11 _ _ _ hsh).trans rfl
      have x12 : wr.cell? ⟨sb, 12, none⟩ = some (.int .i64 ((ntP k l).num 2)) := (cell_of_row _ _ 12 _ _ _ hsh).trans rfl
      have x13 : wr.cell? ⟨sb, 13, none⟩ = some (.bool false) := (cell_of_row _ _ 13 _ _ _ hsh).trans rfl
      have x14 : wr.cell? ⟨sb, 14, none⟩ = some (.int .i64 ((ntP k l).num 4)) := (cell_of_row _ _ 14 _ _ _ hsh).trans rfl
      have x15 : wr.cell? ⟨sb, 15, none⟩ = some (.int .i64 ((ntP k l).num 7)) := (cell_of_row _ _ 15 _ _ _ hsh).trans rfl
      have x16 : wr.cell? ⟨sb, 16, none⟩ = some (.string ((ntP k l).txt 8)) := (cell_of_row _ _ 16 _ _ _ hsh).trans rfl
      have x17 : wr.cell? ⟨sb, 17, none⟩ = some (.int .i64 ((ntP k l).num 3)) := (cell_of_row _ _ 17 _ _ _ hsh).trans rfl
      have xf := hsh.frozenN 13
      have hz : NoteAt wr (w.heap.size + 1) noteZ := (hbw.block _ hsw1).trans (unhide HZ2)
      have HBWW := hide hbww; have HZR := hide hz
      have HSR : Hid (wr.heap[sb]? = some (.cells #[.int .i64 k, .int .i64 ((ntP k l).num 10), .int .i64 ((ntP k l).num 12), .int .i64 ((ntP k l).num 13), .string ((ntP k l).txt 1), .string ((ntP k l).txt 9), .string ((ntP k l).txt 11), .string ((ntP k l).txt 14), .string ((ntP k l).txt 15), .string ((ntP k l).txt 16), .int .i64 ((ntP k l).num 5), .int .i64 ((ntP k l).num 6), .int .i64 ((ntP k l).num 2), .bool false, .int .i64 ((ntP k l).num 4), .int .i64 ((ntP k l).num 7), .string ((ntP k l).txt 8), .int .i64 ((ntP k l).num 3)] 69 (0, 0))) := hide hsh
      clear htq hsh hz hbw hbww
      generalize (ntP k l).num 10 = n10 at *
      generalize (ntP k l).num 12 = n12 at *
      generalize (ntP k l).num 13 = n13 at *
      generalize (ntP k l).num 5 = n5 at *
      generalize (ntP k l).num 6 = n6 at *
      generalize (ntP k l).num 2 = n2 at *
      generalize (ntP k l).num 3 = n3 at *
      generalize (ntP k l).num 4 = n4 at *
      generalize (ntP k l).num 7 = n7 at *
      generalize (ntP k l).txt 1 = t1 at *
      generalize (ntP k l).txt 9 = t9 at *
      generalize (ntP k l).txt 11 = t11 at *
      generalize (ntP k l).txt 14 = t14 at *
      generalize (ntP k l).txt 15 = t15 at *
      generalize (ntP k l).txt 16 = t16 at *
      generalize (ntP k l).txt 8 = t8 at *
      obtain ⟨wS, hwS⟩ : ∃ wS, wS = wr.setCell ⟨sb, 13, none⟩ (.bool (n3 == 1)) := ⟨_, rfl⟩
      have hbS : Below w.heap.size w wS := by rw [hwS]; exact (unhide HBWW).setCell (p := ⟨sb, 13, none⟩) (by show w.heap.size ≤ sb; omega) _
      have hzS : wS.heap[w.heap.size + 1]? = some (.cells noteZ.toArray 35 (0, 0)) := by rw [hwS]; exact (set_otherW (by omega)).trans (unhide HZR)
      have hsS : wS.heap[sb]? = some (.cells #[.int .i64 k, .int .i64 n10, .int .i64 n12, .int .i64 n13, .string t1, .string t9, .string t11, .string t14, .string t15, .string t16, .int .i64 n5, .int .i64 n6, .int .i64 n2, .bool (n3 == 1), .int .i64 n4, .int .i64 n7, .string t8, .int .i64 n3] 69 (0, 0)) := by
        rw [hwS, setCell_eq_setRow wr sb 13 _ _ _ _ (unhide HSR), setRow_heap wr sb _ _ _ _ (unhide HSR)]; rfl
      obtain ⟨L, hL⟩ : ∃ L : List Value, L = [Value.int .i64 k, .int .i64 n10, .int .i64 n12, .int .i64 n13, .string t1, .string t9, .string t11, .string t14, .string t15, .string t16, .int .i64 n5, .int .i64 n6, .int .i64 n2, .bool (n3 == 1), .int .i64 n4, .int .i64 n7, .string t8] := ⟨_, rfl⟩
      have hl17 : L.length = 17 := by rw [hL]; rfl
      have hrg : wS.rangeAt sb 0 L := fun j v hv => by
        rw [Nat.zero_add, cell_of_row _ _ j _ _ _ hsS]
        have hj : j < 17 := by
          rcases Nat.lt_or_ge j 17 with h | h
          · exact h
          · rw [List.getElem?_eq_none (by omega)] at hv; cases hv
        rw [hL] at hv
        rw [← hv]
        match j, hj with
        | 0, _ => rfl | 1, _ => rfl | 2, _ => rfl | 3, _ => rfl | 4, _ => rfl | 5, _ => rfl | 6, _ => rfl | 7, _ => rfl | 8, _ => rfl | 9, _ => rfl | 10, _ => rfl | 11, _ => rfl | 12, _ => rfl | 13, _ => rfl | 14, _ => rfl | 15, _ => rfl | 16, _ => rfl
      have hone : L.toArray.all (·.oneCell') = true := all_oneCell_toArray (by rw [hL]; simp [Value.oneCell'])
      obtain ⟨wR, hwR⟩ : ∃ wR, wR = wS.setRow (w.heap.size + 1) L.toArray := ⟨_, rfl⟩
      have hzR : wR.heap[w.heap.size + 1]? = some (.cells L.toArray 35 (0, 0)) := by
        rw [hwR, setRow_heap wS _ _ _ _ _ hzS]
      have hi1 : (Tryd.prog.info? 35).map (·.size) = some L.length := by rw [hl17]; exact sizeNote
      have hi2 : (Tryd.prog.info? 35).map (·.size) = some L.toArray.size := by rw [List.size_toArray]; exact hi1
      have hold : noteZ.toArray.size = L.toArray.size := by rw [List.size_toArray, List.size_toArray, hl17]; rfl
      have HWS := hide hwS
      have hbR : Below w.heap.size w wR := by
        rw [hwR]
        exact ⟨hbS.os, hbS.tape, hbS.output, by simpa [World.setRow] using hbS.size, fun q hq => by
          rw [← hbS.block q hq]
          simp only [World.setRow]
          rw [Array.getElem?_modify, if_neg (by omega)]⟩
      have HBR := hide hbR; have HWR := hide hwR; have HZS := hide hzS; have HRG := hide hrg; have HI1 := hide hi1; have HI2 := hide hi2; have HOLD := hide hold; have HONE := hide hone; have HZR2 := hide hzR
      have HRL : Hid (RV = .agg L.toArray) := hide (by rw [hrv, hL]; rfl)
      clear hwS hbS hzS hsS hwR hzR hbR hL hl17 hrv hrg hi1 hi2 hold hone
      go_upto_region 11 with fail
      rw [← unhide HWS]
      clear x0 x1 x2 x3 x4 x5 x6 x7 x8 x9 x10 x11 x12 x13 x14 x15 x16 x17 xf
      go_wp2_with (first | (refine wpList_load_mid rfl _ _ rfl sb 0 rfl L _ (unhide HRG) Tryd.underlying35 rfl (unhide HI1) ?_) | (refine wpList_store_row rfl _ _ _ rfl (w.heap.size + 1) L.toArray rfl rfl 35 noteZ.toArray (unhide HZS) (unhide HI2) (unhide HOLD) (unhide HONE) ?_))
      rw [← unhide HWR]
      refine bodyPost_ret (v := .agg L.toArray) (results_cell_row rfl _ _ (w.heap.size + 1) 35 L.toArray (0, 0) _ rfl (unhide HZR2) Tryd.underlying35 rfl (unhide HI2)) rfl ⟨by rw [unhide HRL], unhide HBR⟩
end Go.Proofs.YtkmmgeoialdmlaaDoor
