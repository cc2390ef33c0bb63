/- wire's Write. -/
import Derived.Test.YtkmmgeoialdmlaaDoorWnB
namespace Go.Proofs.YtkmmgeoialdmlaaDoor
open Go.RowKit
set_option linter.unusedVariables false

/-- parts are appended to a message -/
theorem msg_app {w9 v1 w3 : World} {mb base : Nat} {kd : Int} {l : List Prt} {v v' : Value} {n : Int} {tx : ByteArray} (hbs : base ≤ w9.heap.size) (hb1 : Below w9.heap.size w9 v1)
    (hm5 : MsgAt w9 mb base kd v l) (hg3 : (v1.alloc (.cells #[.int .i64 n, .string tx] 45)).grownBy w3 v.ownBlock)
    (ho3 : w3.ownsRow base 45 2 v' (l.length + 1) (cellsPt l ++ [.int .i64 n, .string tx])) (hb3 : w3.heap[mb]? = some (.cells #[.int .i64 kd, v] 24 (0, 0))) :
    MsgAt (w3.setCell ⟨mb, 1, none⟩ v') mb base kd v' (l ++ [(n, tx)]) ∧
      Below mb w9 (w3.setCell ⟨mb, 1, none⟩ v') ∧ base ≤ (w3.setCell ⟨mb, 1, none⟩ v').heap.size ∧
      (∀ q, q < base → q ≠ mb → q < w9.heap.size → (w3.setCell ⟨mb, 1, none⟩ v').heap[q]? = w9.heap[q]?) := by
  have hs1 : w9.heap.size ≤ v1.heap.size := hb1.size
  have hmb := hm5.lt
  have hm2 : MsgAt v1 mb base kd v l := hm5.kept (hb1.block mb (by omega)) (fun q hq => hb1.block q (hm5.block q hq).2)
  have hKE : ∀ q, q < v1.heap.size → q ≠ mb → q < base → (w3.setCell ⟨mb, 1, none⟩ v').heap[q]? = v1.heap[q]? := fun q hq hqm hqb =>
    (set_otherW hqm).trans ((hg3.block q (by simp; omega) (fun e => by have := (hm2.block q e.symm).1; omega)).trans (Below.heap_alloc _ _ _ hq))
  refine ⟨⟨?_, ?_, hmb⟩, ?_, ?_, fun q h1 h2 h3 => (hKE q (by omega) h2 h1).trans (hb1.block q h3)⟩
  · rw [setCell_eq_setRow w3 mb 1 _ _ _ _ hb3, setRow_heap w3 mb _ _ _ _ hb3]
    rfl
  · rw [cellsPt_snoc, List.length_append]
    exact ownsRow_setCell_below ho3 hmb _
  · have hbm : Below mb w9 v1 := hb1.mono (by omega)
    have hba : Below mb w9 (v1.alloc (.cells #[.int .i64 n, .string tx] 45)) := hbm.alloc (by omega) _
    have hbg : Below mb w9 w3 := hba.grown hg3 (by simp; omega) (fun q hq => by have := (hm2.block q hq).1; omega)
    exact hbg.setCell (p := ⟨mb, 1, none⟩) (Nat.le_refl mb) _
  · have := hg3.size
    simp at this ⊢
    omega
theorem eqnil_none (wx : World) : (binOp .eql 65 (.slice none 0 0) (.slice none 0 0)).run Tryd.prog wx = .ok (.bool true) wx := by kernel_rfl
theorem eqnil_some (g n c : Nat) (wx : World) : (binOp .eql 65 (.slice (some ⟨g, 0, none⟩) n c) (.slice none 0 0)).run Tryd.prog wx = .ok (.bool false) wx := by kernel_rfl
def WInv (x : Nt) (W4 : World) (mb base : Nat) (iv : Value) (wx : World) : Prop :=
  ∃ (q : Nat) (v : Value), q ≤ (fieldsL x.kind).length ∧ iv = .int .i64 (q : Int) ∧ ((fieldsL x.kind).take q).all (goodF x) = true ∧ MsgAt wx mb base x.kind v (((fieldsL x.kind).take q).map (partN x)) ∧ Below mb W4 wx ∧ base ≤ wx.heap.size
theorem sheet_lt {w : World} {b : Nat} {x : Nt} {cb : Bool} (h : SheetAt w b x cb) : b < w.heap.size := World.block_lt_of_cell? w ⟨b, 0, none⟩ ((cell_of_row _ _ 0 _ _ _ h).trans rfl)
theorem textN_len (x : Nt) (hx : NtOk x) (f : Nat) : (textN x f).size ≤ maxLen := by
  unfold textN
  split
  · rename_i h
    have := isNum_most f h
    show (digs _ _).toArray.size ≤ _
    rw [List.size_toArray, digs_length]; unfold maxLen; omega
  · have := hx.2 f; unfold maxLen; omega
theorem partsN_ok (x : Nt) (hx : NtOk x) (fs : List Nat) (hf : ∀ f ∈ fs, f ≤ 16) : ∀ p ∈ fs.map (partN x), (-9223372036854775808 ≤ p.1 ∧ p.1 ≤ 9223372036854775807) ∧ p.2.size ≤ maxLen := by
  intro p hp
  obtain ⟨f, hfm, rfl⟩ := List.mem_map.1 hp
  have := hf f hfm
  exact ⟨⟨by show (-9223372036854775808 : Int) ≤ (f : Int); omega, by show (f : Int) ≤ 9223372036854775807; omega⟩, textN_len x hx f⟩
set_option maxRecDepth 100000 in
set_option maxHeartbeats 8000000 in
theorem write_any (x : Nt) (hx : NtOk x) (hc : Cashy x) (w : World) (he : Env w) (h4 : 4 ≤ w.heap.size) :
    Calls Tryd.prog 10 #[noteV x] w fun e w' => e = .returned (.tuple #[.string (wrS x), .int .i64 (wrE x)]) ∧ Below w.heap.size w w' := by
  obtain ⟨cb, hcb⟩ : ∃ cb, cb = decide (x.num 3 = 1) := ⟨_, rfl⟩
  have hv : noteV x = .agg (noteC x.kind x.num x.txt cb).toArray := by rw [hcb]; rfl
  rw [hv]
  obtain ⟨W1, hW1⟩ : ∃ W1, W1 = w.alloc (.cells (noteC x.kind x.num x.txt cb).toArray 35) := ⟨_, rfl⟩
  have hB1 : Below w.heap.size w W1 := by rw [hW1]; exact (Below.refl _ _).alloc (Nat.le_refl _) _
  have hS1 : W1.heap.size = w.heap.size + 1 := by rw [hW1]; simp
  have hX1 : W1.heap[w.heap.size]? = some (.cells (noteC x.kind x.num x.txt cb).toArray 35 (0, 0)) := by rw [hW1]; exact heap_alloc_new _ _
  have CELL := hide (fun (w' : World) (h : Below W1.heap.size W1 w') (i : Nat) (v : Value) (hi : (noteC x.kind x.num x.txt cb)[i]? = some v) => (show w'.cell? ⟨w.heap.size, i, none⟩ = some v from
    (cell_of_row _ _ i _ _ _ ((h.block _ (by omega)).trans hX1)).trans (by rw [List.getElem?_toArray]; exact hi)))
  have N1 := hide (fieldsOf_any x.kind W1)
  have k0 : W1.cell? ⟨w.heap.size, 0, none⟩ = some (.int .i64 x.kind) := unhide CELL W1 (Below.refl _ _) 0 _ rfl
  have HW1 := hide hW1; have HB1 := hide hB1; have HS1 := hide hS1; have HX1 := hide hX1
  have HWE : Hid (wrE x = if fieldsL x.kind = [] then 4 else if okN x then packE x.kind (partsN x) else 3) := hide rfl
  have HWS : Hid (wrS x = if fieldsL x.kind = [] then ⟨#[]⟩ else if okN x then packS x.kind (partsN x) else ⟨#[]⟩) := hide rfl
  generalize wrE x = we at *
  generalize wrS x = ws at *
  have HE1 := hide (he.below hB1 h4)
  have HCB := hide hcb
  have hx3 : x.num 3 = if cb then 1 else 0 := by
    rw [hcb]
    rcases hc with hc | hc <;> rw [hc] <;> rfl
  have HX3 := hide hx3
  clear hW1 hB1 hS1 hX1 hv he hcb hx3
  go_enter Tryd.func10, Tryd.ntmps10
  go_upto_region 1 with fail
  rw [← unhide HW1]
  go_wp2_with fail
  refine (unhide N1).mono ?_
  rintro e w2 ⟨fv, rfl, hF, hb2⟩
  clear k0
  have hB2 : Below w.heap.size w w2 := (unhide HB1).trans (hb2.mono (unhide HB1).size)
  rcases hF with ⟨hL, rfl⟩ | ⟨hL, g, cap, rfl, hg, hcl⟩
  · have h1 : we = 4 := by rw [unhide HWE, if_pos hL]
    have h2 : ws = ⟨#[]⟩ := by rw [unhide HWS, if_pos hL]
    have HB2 := hide hB2
    clear hB2 hb2 hL
    subst h1 h2
    have heq := eqnil_none
    go_wp2
    go_ret2
    exact ⟨rfl, unhide HB2⟩
  · have hl12 := fieldsL_len x.kind
    have hrg := fieldsL_range x.kind
    have HL := hide hL
    have hs1 := unhide HS1
    have hs2 := hb2.size
    have k0 := unhide CELL w2 hb2 0 (.int .i64 x.kind) rfl
    have k1 := unhide CELL w2 hb2 1 (.int .i64 (x.num 10)) rfl
    have k2 := unhide CELL w2 hb2 2 (.int .i64 (x.num 12)) rfl
    have k3 := unhide CELL w2 hb2 3 (.int .i64 (x.num 13)) rfl
    have k4 := unhide CELL w2 hb2 4 (.string (x.txt 1)) rfl
    have k5 := unhide CELL w2 hb2 5 (.string (x.txt 9)) rfl
    have k6 := unhide CELL w2 hb2 6 (.string (x.txt 11)) rfl
    have k7 := unhide CELL w2 hb2 7 (.string (x.txt 14)) rfl
    have k8 := unhide CELL w2 hb2 8 (.string (x.txt 15)) rfl
    have k9 := unhide CELL w2 hb2 9 (.string (x.txt 16)) rfl
    have k10 := unhide CELL w2 hb2 10 (.int .i64 (x.num 5)) rfl
    have k11 := unhide CELL w2 hb2 11 (.int .i64 (x.num 6)) rfl
    have k12 := unhide CELL w2 hb2 12 (.int .i64 (x.num 2)) rfl
    have k13 := unhide CELL w2 hb2 13 (.bool cb) rfl
    have k14 := unhide CELL w2 hb2 14 (.int .i64 (x.num 4)) rfl
    have k15 := unhide CELL w2 hb2 15 (.int .i64 (x.num 7)) rfl
    have k16 := unhide CELL w2 hb2 16 (.string (x.txt 8)) rfl
    obtain ⟨W3, hW3⟩ : ∃ W3, W3 = w2.alloc (.cells #[.int .i64 x.kind, .int .i64 (x.num 10), .int .i64 (x.num 12), .int .i64 (x.num 13), .string (x.txt 1), .string (x.txt 9), .string (x.txt 11), .string (x.txt 14), .string (x.txt 15), .string (x.txt 16), .int .i64 (x.num 5), .int .i64 (x.num 6), .int .i64 (x.num 2), .bool cb, .int .i64 (x.num 4), .int .i64 (x.num 7), .string (x.txt 8), .int .i64 0] 69) := ⟨_, rfl⟩
    have hB3 : Below w2.heap.size w2 W3 := by rw [hW3]; exact (Below.refl _ _).alloc (Nat.le_refl _) _
    have hS3 : W3.heap.size = w2.heap.size + 1 := by rw [hW3]; simp
    have hX3 : W3.heap[w2.heap.size]? = some (.cells #[.int .i64 x.kind, .int .i64 (x.num 10), .int .i64 (x.num 12), .int .i64 (x.num 13), .string (x.txt 1), .string (x.txt 9), .string (x.txt 11), .string (x.txt 14), .string (x.txt 15), .string (x.txt 16), .int .i64 (x.num 5), .int .i64 (x.num 6), .int .i64 (x.num 2), .bool cb, .int .i64 (x.num 4), .int .i64 (x.num 7), .string (x.txt 8), .int .i64 0] 69 (0, 0)) := by rw [hW3]; exact heap_alloc_new _ _
    have c13 : W3.cell? ⟨w.heap.size, 13, none⟩ = some (.bool cb) := (hB3.cell (p := ⟨w.heap.size, 13, none⟩) (by show w.heap.size < _; omega)).trans k13
    have z17 : W3.cell? ⟨w2.heap.size, 17, none⟩ = some (.int .i64 0) := (cell_of_row _ _ 17 _ _ _ hX3).trans rfl
    have f17 : W3.frozen? ⟨w2.heap.size, 17, none⟩ = false := frozen_of_row _ _ 17 _ _ hX3
    have HSH : Hid (SheetAt (if cb then W3.setCell ⟨w2.heap.size, 17, none⟩ (.int .i64 1) else W3) w2.heap.size x cb) := hide (by
      have h3 := unhide HX3
      cases hcb : cb with
      | false =>
        rw [hcb] at h3 hX3
        simp only [Bool.false_eq_true, if_false] at h3 ⊢
        unfold SheetAt sheetC
        rw [h3, hX3]; rfl
      | true =>
        rw [hcb] at h3 hX3
        simp only [if_true] at h3 ⊢
        unfold SheetAt sheetC
        rw [h3, setCell_eq_setRow W3 w2.heap.size 17 _ _ _ _ hX3, setRow_heap W3 w2.heap.size _ _ _ _ hX3]; rfl)
    have HW3 := hide hW3; have HB3 := hide hB3; have HS3 := hide hS3; have HB2 := hide hb2; have HBW := hide hB2; have HCL := hide hcl
    clear hW3 hX3 hb2 hB2 hcl
    have heq := eqnil_some g (fieldsL x.kind).length cap
    go_upto_region 5 with fail
    rw [← unhide HW3]
    clear heq
    clear k0 k1 k2 k3 k4 k5 k6 k7 k8 k9 k10 k11 k12 k13 k14 k15 k16
    go_upto_if 21 with fail
    go_cut [0, 16, 17, 21] (fun _ _ _ _ wx => SheetAt wx w2.heap.size x cb ∧ Below w2.heap.size w2 wx ∧ wx.heap.size = w2.heap.size + 1)
    case first =>
      cases hcb : cb with
      | false =>
        rw [hcb] at HSH c13
        simp only [Bool.false_eq_true, if_false] at HSH
        go_wp2_with fail
        go_meet
        exact ⟨by rw [hcb]; exact unhide HSH, unhide HB3, unhide HS3⟩
      | true =>
        rw [hcb] at HSH c13
        simp only [if_true] at HSH
        go_wp2_with fail
        go_meet
        exact ⟨by rw [hcb]; exact unhide HSH, (unhide HB3).setCell (p := ⟨w2.heap.size, 17, none⟩) (Nat.le_refl _) _, by simpa using unhide HS3⟩
    case rest =>
    obtain ⟨hsh, hbc, hsc⟩ := hcut
    clear c13 z17 f17 HSH hB3 hS3
    have hb1c : Below W1.heap.size W1 wc := (unhide HB2).trans (hbc.mono (unhide HB2).size)
    have k0 := unhide CELL wc hb1c 0 (.int .i64 x.kind) rfl
    obtain ⟨W4, hW4⟩ : ∃ W4, W4 = wc.alloc (.cells #[.int .i64 x.kind, .slice none 0 0] 24) := ⟨_, rfl⟩
    have hB4 : Below wc.heap.size wc W4 := by rw [hW4]; exact (Below.refl _ _).alloc (Nat.le_refl _) _
    have hS4 : W4.heap.size = wc.heap.size + 1 := by rw [hW4]; simp
    have hX4 : W4.heap[wc.heap.size]? = some (.cells #[.int .i64 x.kind, .slice none 0 0] 24 (0, 0)) := by rw [hW4]; exact heap_alloc_new _ _
    obtain ⟨mb, hmb⟩ : ∃ mb, mb = wc.heap.size := ⟨_, rfl⟩
    have HFC := hide (fun wx (h : Below mb W4 wx) (i n : Nat) (hi : (fieldsL x.kind)[i]? = some n) => (show wx.cell? ⟨g, i, none⟩ = some (.int .i64 (n : Int)) from
      (h.cell (p := ⟨g, i, none⟩) (by show g < mb; omega)).trans ((hB4.cell (p := ⟨g, i, none⟩) (by show g < _; omega)).trans ((hbc.cell (p := ⟨g, i, none⟩) hg).trans (unhide HCL i n hi)))))
    have HSC := hide (fun wx (h : Below mb W4 wx) => ((hsh.below hB4 (by omega)).below h (by omega) : SheetAt wx w2.heap.size x cb))
    have HEN := hide (fun wx (h : Below mb W4 wx) => (((unhide HE1).below hb1c (by omega)).below hB4 (by omega) : Env W4).below h (by omega))
    have HBF := hide (fun wx (h : Below mb W4 wx) => (show Below w.heap.size w wx from
      (((unhide HBW).trans (hbc.mono (by omega))).trans (hB4.mono (by omega))).trans (h.mono (by omega))))
    have hI0 : WInv x W4 mb (mb + 1) (.int .i64 0) W4 := ⟨0, .slice none 0 0, Nat.zero_le _, rfl, rfl, ⟨by rw [hmb]; exact hX4, World.ownsRow_nil _ _ _ _, by omega⟩, Below.refl _ _, by omega⟩
    have HI0 := hide hI0
    have HW4 := hide hW4
    have h4m : 4 ≤ mb := by omega
    obtain ⟨i0, hi0, hz0, hz1, hz2⟩ := info_partsY infoPart
    have HI := hide hi0; have Z0 := hide hz0; have Z1 := hide hz1; have Z2 := hide hz2
    clear hsh hbc hsc hb1c hB4 hS4 hX4 hI0 hW4 hi0 hz0 hz1 hz2
    go_upto_region 8 with fail
    rw [← unhide HW4, ← hmb]
    clear k0 hmb HW4
    have hlen : ((fieldsL x.kind).length : Int) ≤ 12 := by omega
    go_wp2_with fail
    go_loopw [30] (fun iv wx => WInv x W4 mb (mb + 1) iv wx) (fun iv _ => (fieldsL x.kind).length - (intOf iv).toNat)
    case atStart => exact unhide HI0
    case round =>
      obtain ⟨q, v, hq, rfl, hall, hm, hbw, hbs⟩ := hrel
      clear HI0
      have c1 : wr.cell? ⟨mb, 1, none⟩ = some v := (cell_of_row _ _ 1 _ _ _ hm.blk).trans rfl
      by_cases hlt : q < (fieldsL x.kind).length
      · obtain ⟨f, hf⟩ : ∃ f, (fieldsL x.kind)[q]? = some f := ⟨_, List.getElem?_eq_getElem hlt⟩
        obtain ⟨hf1, hf16⟩ := hrg f (List.mem_of_getElem? hf)
        have htk : (fieldsL x.kind).take (q + 1) = (fieldsL x.kind).take q ++ [f] := by rw [List.take_add_one, hf]; rfl
        have cf := unhide HFC wr hbw q f hf
        have NP := hide (part_any x cb hx f hf1 hf16 w2.heap.size wr (unhide HSC wr hbw) (unhide HEN wr hbw) (by omega))
        have hlti : (q : Int) < ((fieldsL x.kind).length : Int) := by omega
        have hmlt : mb < wr.heap.size := by omega
        obtain ⟨pl, hpl⟩ : ∃ pl, pl = ((fieldsL x.kind).take q).map (partN x) := ⟨_, rfl⟩
        have hll : pl.length = q := by rw [hpl, List.length_map, List.length_take]; omega
        rw [← hpl] at hm
        have HPL := hide hpl
        have hmem : f ∈ fieldsL x.kind := List.mem_of_getElem? hf
        have HM := hide hm; have HBW := hide hbw; have HALL := hide hall; have HTK := hide htk; have HLL := hide hll
        clear hm hbw hall htk hll hf hpl
        cases hgd : goodF x f with
        | false =>
          have h0 : okN x = false := by
            cases h : okN x with
            | false => rfl
            | true => rw [List.all_eq_true.1 h f hmem] at hgd; cases hgd
          have h1 : we = 3 := by rw [unhide HWE, if_neg (unhide HL), h0]; rfl
          have h2 : ws = ⟨#[]⟩ := by rw [unhide HWS, if_neg (unhide HL), h0]; rfl
          unfold partT partEr at NP
          rw [hgd] at NP
          simp only [Bool.false_eq_true, if_false] at NP
          subst h1 h2
          clear hgd h0
          go_wp2_with fail
          refine (unhide NP).mono ?_
          rintro e w5 ⟨rfl, hb5⟩
          have HB5 := hide hb5
          clear hb5
          go_wp2
          go_ret2
          refine ⟨rfl, ?_⟩
          have h1 := unhide HBF wr (unhide HBW)
          have h2 := h1.trans ((unhide HB5).mono h1.size)
          exact h2.alloc h2.size _
        | true =>
          unfold partT partEr at NP
          rw [hgd] at NP
          simp only [if_true] at NP
          go_wp2_with fail
          refine (unhide NP).mono ?_
          rintro e w5 ⟨rfl, hb5⟩
          obtain ⟨W6, hW6⟩ : ∃ W6, W6 = w5.alloc (.cells #[.int .i64 (f : Int), .string (textN x f)] 45) := ⟨_, rfl⟩
          have hB6 : Below wr.heap.size wr W6 := by rw [hW6]; exact hb5.alloc hb5.size _
          have hX6 : W6.heap[w5.heap.size]? = some (.cells #[.int .i64 (f : Int), .string (textN x f)] 45 (0, 0)) := by rw [hW6]; exact heap_alloc_new _ _
          have p0 : W6.cell? ⟨w5.heap.size, 0, none⟩ = some (.int .i64 (f : Int)) := (cell_of_row _ _ 0 _ _ _ hX6).trans rfl
          have p1 : W6.cell? ⟨w5.heap.size, 1, none⟩ = some (.string (textN x f)) := (cell_of_row _ _ 1 _ _ _ hX6).trans rfl
          have c6 : W6.cell? ⟨mb, 1, none⟩ = some v := (hB6.cell (p := ⟨mb, 1, none⟩) hmlt).trans c1
          have hm6 : MsgAt W6 mb (mb + 1) x.kind v pl := (unhide HM).kept (hB6.block mb hmlt) (fun r hr => hB6.block r ((unhide HM).block r hr).2)
          have hs6 := hB6.size
          have HM6 := hide hm6; have HB6 := hide hB6; have HW6 := hide hW6
          have HGD := hide hgd
          clear hW6 hX6 hm6 hb5 hB6 hgd
          go_upto_region 14 with fail
          rw [← unhide HW6]
          generalize htx : textN x f = tx at *
          have HTX := hide htx
          clear htx
          go_wp2_with (at_builtin; refine wpList_append_own _ rfl _ _ 22 rfl (mb + 1) 45 i0 (.agg #[.int .i64 0, .string ⟨#[]⟩]) 2 24 Tryd.underlying22 (unhide HI) (unhide Z0) (unhide Z1) (unhide Z2) rfl (by decide) _ _ _ rfl ((unhide HM6).own.alloc _) ⟨W6.heap.size, 0, none⟩ 1 1 [.int .i64 (f : Int), .string tx] rfl rfl (World.news_of_block (heap_alloc_new _ _)) ?c2 ?c3 ?c4 ?c5 ?_)
          case c2 => simp [Value.oneCell']
          case c3 => have := unhide HLL; unfold maxLen; omega
          case c4 => have := unhide HLL; omega
          case c5 => simp; omega
          intro v' w7 hown' hgrow _
          obtain ⟨g', cap', hv'⟩ : ∃ g' cap', v' = .slice (some ⟨g', 0, none⟩) (pl.length + 1) cap' := by
            rcases hown'.2 with ⟨_, h0⟩ | ⟨g', cap', cur, e, _⟩
            · exact absurd h0 (by omega)
            · exact ⟨g', cap', e⟩
          subst hv'
          have hb7 : w7.heap[mb]? = some (.cells #[.int .i64 x.kind, v] 24 (0, 0)) := ((hgrow.block mb (by simp; omega) (fun e' => by have := ((unhide HM6).block mb e'.symm).1; omega)).trans (Below.heap_alloc _ _ _ (by omega))).trans (unhide HM6).blk
          have d1 : w7.cell? ⟨mb, 1, none⟩ = some v := (cell_of_row _ _ 1 _ _ _ hb7).trans rfl
          have df : w7.frozen? ⟨mb, 1, none⟩ = false := frozen_of_row _ _ 1 _ _ hb7
          have hap := msg_app hbs (unhide HB6) (unhide HM) hgrow hown' hb7
          have HAP := hide hap
          clear hown' hgrow hb7 hap
          go_wp2
          go_roundw
          case rel =>
            obtain ⟨a1, a2, a3, _⟩ := unhide HAP
            refine ⟨q + 1, .slice (some ⟨g', 0, none⟩) (pl.length + 1) cap', by omega, by go_num, ?_, ?_, (unhide HBW).trans a2, a3⟩
            · rw [unhide HTK, List.all_append, unhide HALL, Bool.true_and, List.all_cons, unhide HGD]; rfl
            · rw [unhide HTK, List.map_append]
              have e : partN x f = ((f : Int), tx) := by unfold partN; rw [unhide HTX]
              rw [List.map_cons, List.map_nil, e, ← unhide HPL]
              exact a1
          case measure => simp [intOf]; omega
      · have hlti : ¬ (q : Int) < ((fieldsL x.kind).length : Int) := by omega
        have htq : (fieldsL x.kind).take q = fieldsL x.kind := List.take_of_length_le (by omega)
        rw [htq] at hall hm
        have hm' : MsgAt wr mb (mb + 1) x.kind v (partsN x) := hm
        have hwe : we = packE x.kind (partsN x) := by rw [unhide HWE, if_neg (unhide HL), show okN x = true from hall]; rfl
        have hws : ws = packS x.kind (partsN x) := by rw [unhide HWS, if_neg (unhide HL), show okN x = true from hall]; rfl
        have hpok : ∀ p ∈ partsN x, (-9223372036854775808 ≤ p.1 ∧ p.1 ≤ 9223372036854775807) ∧ p.2.size ≤ maxLen := partsN_ok x hx _ (fun f hf => (hrg f hf).2)
        have hpl : (partsN x).length ≤ 12 := by unfold partsN; rw [List.length_map]; omega
        obtain ⟨pa, c, rfl, hrow⟩ := PRow.of_own hm'.own
        have e0 : wr.cell? ⟨mb, 0, none⟩ = some (.int .i64 x.kind) := (cell_of_row _ _ 0 _ _ _ hm'.blk).trans rfl
        have NK := hide (pack_any x.kind (partsN x) pa c wr hrow (by omega) hpok (unhide HEN wr hbw) (by omega))
        rw [← hwe, ← hws] at NK
        have HBW := hide hbw
        clear hm hm' hwe hws hpok hpl hrow hall htq hbw
        generalize (partsN x).length = pn at *
        go_wp2_with fail
        refine (unhide NK).mono ?_
        rintro e w5 ⟨rfl, hb5⟩
        have HB5 := hide hb5
        clear hb5
        go_wp2
        go_ret2
        have h1 := unhide HBF wr (unhide HBW)
        exact ⟨rfl, h1.trans ((unhide HB5).mono h1.size)⟩
end Go.Proofs.YtkmmgeoialdmlaaDoor
