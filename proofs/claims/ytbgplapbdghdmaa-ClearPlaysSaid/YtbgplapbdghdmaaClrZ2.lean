/- clear, the document's own: Do, its walk. -/
import Derived.Test.YtbgplapbdghdmaaClrZ
namespace Go.Proofs.Ytbgplapbdghdmaa
open Go.RowKit
set_option linter.unusedVariables false
set_option linter.unusedSimpArgs false
set_option maxRecDepth 100000

variable {w w' : World} {G : Nat → Prop} {r : Nat} {S : Clr} {vL vO : Value} {ks : List (Kse × Value)} {os : List Ow}
/-- the beginning of Do -/
structure Bd (w W : World) (d : Ded) : Prop where
  bel : Below w.heap.size w W
  box : W.heap[w.heap.size]? = some (boxD d)
theorem Bd.start (w : World) (d : Ded) : Bd w (w.alloc (boxD d)) d := ⟨(Below.refl w.heap.size w).alloc (Nat.le_refl _) _, alloc_at w _⟩
theorem RIn.cin_boxD (h : RIn w G r S vL vO ks os) {W : World} {d : Ded} (hx : Bd w W d) : RIn W G r S vL vO ks os := h.keep hx.bel.size (fun x hx' => hx.bel.block x (h.glt x hx'))
/-- a day that may not be told -/
theorem rdo_day (h : RIn w G r S vL vO ks os) (shop trace : Int) (d : Ded) (hd : dayE S.last d.day ≠ 0) :
    Calls Try.prog 15 #[.pointer (some ⟨r, 0, none⟩), .int .i64 shop, .int .i64 trace, dedV d] w (rPost w G r (dayE S.last d.day, S)) := by
  have HX := hide (Bd.start w d)
  have hI := h.cin_boxD (unhide HX)
  have N1 := rday_any r S.D S.last d.day vL vO _ hI.blk
  have hne : (dayE S.last d.day != 0) = true := by simpa using hd
  obtain ⟨c0, c1, c2⟩ := boxDC (unhide HX).box
  have HN1 := hide N1; have HI := hide hI
  generalize dayE S.last d.day = er at *
  unfold dedV boxD at *
  clear N1 hI hd h
  go_enter Try.func15, Try.ntmps15
  go_wp2_with fail
  refine (unhide HN1).mono ?_
  rintro e w1 ⟨rfl, hw1⟩
  rw [hw1]
  clear hw1
  go_wp2
  go_ret
  exact ⟨rfl, G, ⟨_, _, _, _, unhide HI⟩, Chg.of_below G (unhide HX).bel, fun x hx => .inl hx⟩
/-- the world in which the day is told -/
structure Told (w W : World) (G : Nat → Prop) (r : Nat) (S : Clr) (d : Ded) (vL vO : Value) (ks : List (Kse × Value)) (os : List Ow) : Prop where
  rin : RIn W G r { S with last := d.day } vL vO ks os
  chg : Chg G w W
  box : W.heap[w.heap.size]? = some (boxD d)
theorem told_of (h : RIn w G r S vL vO ks os) (d : Ded) : Told w ((w.setCell ⟨r, 5, none⟩ (.int .i64 d.day)).alloc (.cells #[.int .i64 d.what, .int .i64 d.day, .int .i64 d.amt] 60)) G r S d vL vO ks os := by
  have hrl := h.blk.lt
  have hx := Bd.start w d
  have hI := h.cin_boxD hx
  unfold boxD at hx hI
  rw [← World.setCell_alloc_past _ _ _ _ hrl]
  refine ⟨hI.told d.day, (Chg.of_below G hx.bel).trans (Chg.setCell _ _ _) (fun x hx => .inl (by subst hx; exact h.gr)), ?_⟩
  rw [Below.heap_setCell _ _ _ _ (by show w.heap.size ≠ r; omega)]
  exact hx.box
theorem rdo_none (h : RIn w G r S vL vO ks os) (hok : okS S) (shop trace : Int) (d : Ded) (hd : dayE S.last d.day = 0) (hi : idxK S.L shop trace = none) :
    Calls Try.prog 15 #[.pointer (some ⟨r, 0, none⟩), .int .i64 shop, .int .i64 trace, dedV d] w (rPost w G r (5, { S with last := d.day })) := by
  have HX := hide (Bd.start w d)
  have hI := h.cin_boxD (unhide HX)
  have hrl := h.blk.lt
  have N1 := rday_any r S.D S.last d.day vL vO _ hI.blk
  rw [hd] at N1
  have hT := told_of h d
  have N2 := hide (kase_any hT.rin (hok.told hd) shop trace)
  rw [show idxK ({ S with last := d.day } : Clr).L shop trace = none from hi] at N2
  obtain ⟨c0, c1, c2⟩ := boxDC (unhide HX).box
  obtain ⟨_, _, _, _, _, x5, _⟩ := hI.blk.cells
  have xf := hI.blk.frozen 5
  have HN1 := hide N1; have HT := hide hT
  unfold dedV boxD kPtr at *
  clear N1 hI hd h hT hok hi
  go_enter Try.func15, Try.ntmps15
  go_wp2_with fail
  refine (unhide HN1).mono ?_
  rintro e w1 ⟨rfl, hw1⟩
  rw [hw1]
  clear hw1
  go_wp2_with fail
  refine (unhide N2).mono ?_
  rintro e w2 ⟨rfl, hw2⟩
  rw [hw2]
  clear hw2
  go_wp2
  go_ret
  exact ⟨rfl, G, ⟨_, _, _, _, (unhide HT).rin⟩, (unhide HT).chg, fun x hx => .inl hx⟩
/-- what lies behind the first On -/
structure Was (w W : World) (G : Nat → Prop) (r : Nat) (S : Clr) (d : Ded) (vL vO : Value) (ks : List (Kse × Value)) (os : List Ow) (c : Cse) (nb : Nat) : Prop where
  told : Told w W G r S d vL vO ks os
  was : XB W nb c
  new : w.heap.size < nb
theorem Told.step {w W W' : World} {d : Ded} (h : Told w W G r S d vL vO ks os) (hb : Below W.heap.size W W') : Told w W' G r S d vL vO ks os :=
  ⟨h.rin.keep hb.size (fun x hx => hb.block x (h.rin.glt x hx)), h.chg.trans (Chg.of_below G hb) (fun x hx => .inl hx), (hb.block _ (blk_lt h.box)).trans h.box⟩
theorem was_of {w W W' : World} {d : Ded} {c : Cse} (h : Told w W G r S d vL vO ks os) (hb : Below W.heap.size W W') : Was w (W'.alloc (.cells #[.int .i64 c.st, .int .i64 c.since, .int .i64 c.disp, .int .i64 c.paid] 49)) G r S d vL vO ks os c W'.heap.size := by
  refine ⟨h.step (hb.alloc hb.size _), alloc_at W' _, ?_⟩
  have := blk_lt h.box
  have := hb.size
  omega
/-- what region 13 leaves -/
def DMid (W wx : World) (gL i : Nat) (x : Kse × Value) (d : Ded) : Prop :=
  ∃ (V1 : World) (g cap : Nat), wx = V1.setCell ⟨gL, i * 7 + 6, none⟩ (.slice (some ⟨g, 0, none⟩) (x.1.ds.length + 1) cap) ∧ Below W.heap.size W V1 ∧ OwnR V1 0 60 3 cellsDd (.slice (some ⟨g, 0, none⟩) (x.1.ds.length + 1) cap) (x.1.ds ++ [d]) ∧ W.heap.size ≤ g
/-- the two new blocks of region 13: the empty row, the deed -/
def oA : Obj := .cells #[] 60
theorem ownE (W : World) : (W.alloc (.cells #[] 60)).ownsRow 0 60 3 (.slice (some ⟨W.heap.size, 0, none⟩) 0 0) 0 [] :=
  ⟨rfl, .inr ⟨W.heap.size, 0, #[], rfl, Nat.zero_le _, heap_alloc_new W _, Nat.le_refl _, Nat.zero_le _, rfl, rfl⟩⟩
theorem newsB {U : World} {g : Nat} {d : Ded} (h : U.heap[g]? = some (.cells #[.int .i64 d.what, .int .i64 d.day, .int .i64 d.amt] 60)) : ∀ j u, [Value.int .i64 d.what, .int .i64 d.day, .int .i64 d.amt][j]? = some u → U.cell? ((⟨g, 0, none⟩ : Addr).add j) = some u := World.news_of_block h
theorem newsD {U W : World} {g cap : Nat} {ds : List Ded} (h : OwnR W 0 60 3 cellsDd (.slice (some ⟨g, 0, none⟩) ds.length cap) ds) (hU : U.heap[g]? = W.heap[g]?) : ∀ j u, (rowC cellsDd ds)[j]? = some u → U.cell? ((⟨g, 0, none⟩ : Addr).add j) = some u := by
  intro j u hj
  have hlt : j < ds.length * 3 := by
    have := (List.getElem?_eq_some_iff.1 hj).1
    rwa [rowC_length cellsDd_len] at this
  have h1 := World.ownsRow.cellAt h j hlt
  rw [show ((⟨g, 0, none⟩ : Addr).add j) = ⟨g, j, none⟩ from by unfold Addr.add; split <;> simp_all]
  rw [hj] at h1
  unfold World.cell? at h1 ⊢
  rw [hU]
  exact h1
theorem ded_one (ds : List Ded) : ∀ u ∈ rowC cellsDd ds, u.oneCell' = true := rowC_cells (fun x u hu => by simp [cellsDd] at hu; rcases hu with rfl | rfl | rfl <;> rfl) ds
/-- behind the append of the deed -/
theorem dmid_of {W U V1 : World} {gL i g cap n m : Nat} {x : Kse × Value} {d : Ded} {row : Option Nat} {xs : List Value} (hb : Below W.heap.size W U) (hg : U.grownBy V1 row) (hrow : ∀ k, row = some k → W.heap.size ≤ k) (hn : n = x.1.ds.length + 1) (hxs : xs = rowC cellsDd x.1.ds)
    (own : V1.ownsRow 0 60 3 (.slice (some ⟨g, 0, none⟩) n cap) n (xs ++ [.int .i64 d.what, .int .i64 d.day, .int .i64 d.amt])) (hat : row = some g ∨ g = m) (hm : W.heap.size ≤ m) :
    DMid W (V1.setCell ⟨gL, i * 7 + 6, none⟩ (.slice (some ⟨g, 0, none⟩) n cap)) gL i x d := by
  subst hn hxs
  refine ⟨V1, g, cap, rfl, hb.grown hg hb.size hrow, OwnR.snoc d own, ?_⟩
  rcases hat with hat | hat
  · exact hrow g hat
  · omega


theorem row_cell {W : World} {vL : Value} {ks : List (Kse × Value)} {g i : Nat} {x : Kse × Value} (h : OwnR W 0 91 7 cellsK vL ks) (hg : vL.ownBlock = some g) (hx : ks[i]? = some x) (j : Nat) (hj : j < 7) : W.cell? ⟨g, i * 7 + j, none⟩ = (cellsK x)[j]? := by
  rcases h.form.2 with hn | ⟨g', cap, hv, _, _⟩
  · rw [hn] at hx; cases hx
  · subst hv
    obtain rfl : g' = g := Option.some.inj hg
    exact OwnR.cell cellsK_len h i x hx j hj
theorem budget_gap {D : Dys} {c : Cse} {d : Ded} (hw : 1 ≤ d.what ∧ d.what ≤ 5) (hc : c.st = needS d.what) (h : (deed1 D c d).paid - c.paid ≠ 0) : budget c.st + 1000000000000 ≤ budget (deed1 D c d).st := by
  have h3 : d.what ≠ 3 := by
    intro e
    apply h
    unfold deed1
    rw [if_neg (by omega), if_neg (by omega), if_pos e]
    show c.paid - c.paid = 0
    omega
  have hc5 : d.what = 1 ∨ d.what = 2 ∨ d.what = 4 ∨ d.what = 5 := by omega
  rw [hc]
  unfold deed1 needS
  rcases hc5 with e | e | e | e <;> rw [e] <;> simp [budget]
theorem need_min (what : Int) : needS what = min what 4 := by unfold needS; split <;> omega
set_option maxHeartbeats 4000000 in
theorem rdo_found (h : RIn w G r S vL vO ks os) (hok : okS S) (hokD : okDs S.L) (hcnt : os.length ≤ 500000) (shop trace : Int) (d : Ded) (hw : 1 ≤ d.what ∧ d.what ≤ 5) (ha : d.what ≠ 1 → d.amt = 0) (hd : dayE S.last d.day = 0) {i : Nat} (hi : idxK S.L shop trace = some i) :
    Calls Try.prog 15 #[.pointer (some ⟨r, 0, none⟩), .int .i64 shop, .int .i64 trace, dedV d] w (rPost w G r (doS S shop trace d)) := by
  have HX := hide (Bd.start w d)
  have hI := h.cin_boxD (unhide HX)
  have hrl := h.blk.lt
  have N1 := rday_any r S.D S.last d.day vL vO _ hI.blk
  rw [hd] at N1
  have hz := dayE_zero hd
  have hT := told_of h d
  have N2 := hide (kase_any hT.rin (hok.told hd) shop trace)
  rw [show idxK ({ S with last := d.day } : Clr).L shop trace = some i from hi] at N2
  obtain ⟨k0, hk0, e1, e2, hlt⟩ := idxK_some hi
  have hkl : ks.length = S.L.length := by rw [← h.lst, List.length_map]
  obtain ⟨x, hx⟩ : ∃ x, ks[i]? = some x := ⟨_, List.getElem?_eq_getElem (by omega)⟩
  have hxL : S.L[i]? = some x.1 := by rw [← h.lst, List.getElem?_map, hx]; rfl
  obtain ⟨gL, hgL, N3⟩ := rOnC hT.rin (hok.told hd) hokD hx d.day ⟨hz.1, hz.2.1⟩
  have hgd : S.L.getD i default = x.1 := by rw [List.getD_eq_getElem?_getD, hxL]; rfl
  obtain ⟨R, hR⟩ : ∃ R, R = doS S shop trace d := ⟨_, rfl⟩
  rw [← hR]
  have HR := hide hR
  have hres : R = if (onC S.D x.1.c d.day).st ≠ needS d.what then (7, { S with last := d.day }) else if d.what = 1 ∧ (d.amt < 1 ∨ x.1.p.amt < d.amt) then (3, { S with last := d.day }) else (0, { S with last := d.day, L := S.L.set i ⟨x.1.p, x.1.ds ++ [d], deed1 S.D x.1.c d⟩, ow := owU S.ow x.1.p ((deed1 S.D x.1.c d).paid - x.1.c.paid) }) := by
    rw [hR]; unfold doS; rw [if_neg (by simpa using hd), hi]; dsimp only; rw [hgd]
  have HRES := hide hres
  obtain ⟨c0, c1, c2⟩ := boxDC (unhide HX).box
  obtain ⟨_, _, _, _, _, x5, _⟩ := hI.blk.cells
  have xf := hI.blk.frozen 5
  have HN1 := hide N1; have HT := hide hT; have HN3 := hide N3; have HXX := hide hx; have HGL := hide hgL; have HZ := hide hz; have HOK := hide (hok.told hd); have HOD := hide hokD; have HCN := hide hcnt; have HXL := hide hxL; have HW := hide hw; have HA := hide ha
  have hp : kPtr vL (some i) = .pointer (some ⟨gL, i * 7, none⟩) := by unfold kPtr; rw [hgL]; rfl
  rw [hp] at N2
  unfold caseV at HN3
  have HOM : Hid (∀ R', doS S shop trace d = (0, R') → okS R') := hide (fun R' e => by have := do_ok hok shop trace d hw; rw [e] at this; exact this)
  have HOM2 : Hid (∀ R', doS S shop trace d = (0, R') → okDs R'.L) := hide (fun R' e => by have := do_okDs hokD shop trace d hw hok ha; rw [e] at this; exact this)
  have HOW := hide (And.intro hok.ow0 (And.intro hok.ow1 hok.ow2))
  have HOC : Hid (onC ({ S with last := d.day } : Clr).D x.1.c d.day = onC S.D x.1.c d.day) := hide rfl
  obtain ⟨oc, hoc⟩ : ∃ oc, oc = onC S.D x.1.c d.day := ⟨_, rfl⟩
  rw [unhide HOC, ← hoc] at HN3
  rw [← hoc] at HRES
  have HOCE := hide hoc
  unfold dedV boxD at *
  clear N1 hI hd h hT hok hi N3 hx hgL hz hokD hcnt hxL hw ha hR hres hgd hk0 e1 e2 hlt hp hoc HOC hkl
  go_enter Try.func15, Try.ntmps15
  go_wp2_with fail
  refine (unhide HN1).mono ?_
  rintro e w1 ⟨rfl, hw1⟩
  rw [hw1]
  clear hw1
  go_wp2_with fail
  refine (unhide N2).mono ?_
  rintro e w2 ⟨rfl, hw2⟩
  rw [hw2]
  clear hw2
  obtain ⟨t0, t1, t2⟩ := boxDC (unhide HT).box
  generalize (w.setCell ⟨r, 5, none⟩ (.int .i64 d.day)).alloc (.cells #[.int .i64 d.what, .int .i64 d.day, .int .i64 d.amt] 60) = W at *
  go_wp2_with fail
  refine (unhide HN3).mono ?_
  rintro e w3 ⟨rfl, hb3⟩
  have hWas := was_of (c := oc) (unhide HT) hb3
  have HWas := hide hWas
  obtain ⟨s0, s1, s2⟩ := boxDC ((unhide HT).step hb3).box
  have hwl : w.heap.size < w3.heap.size := blk_lt ((unhide HT).step hb3).box
  have hV := (unhide HWas).told.rin
  have k4 : (w3.alloc (.cells #[.int .i64 oc.st, .int .i64 oc.since, .int .i64 oc.disp, .int .i64 oc.paid] 49)).cell? ⟨gL, i * 7 + 4, none⟩ = some (.int .i64 x.1.p.amt) := by
    rcases hV.row.form.2 with hn | ⟨g, cap, hv, _, hgl⟩
    · rw [hn] at HXX; cases (unhide HXX)
    · subst hv; obtain rfl : g = gL := Option.some.inj (unhide HGL)
      rw [OwnR.cell cellsK_len hV.row i x (unhide HXX) 4 (by omega)]; rfl
  have hgl3 : gL < w3.heap.size := by
    have h1 := oR_lt (unhide HT).rin.row (unhide HGL)
    have h2 := hb3.size
    omega
  clear hb3 hWas t0 t1 t2 c0 c1 c2 x5 xf hV
  by_cases hst : oc.st = needS d.what
  · have hmn : (oc.st != min d.what 4) = false := by rw [← need_min]; simpa using hst
    have hres := unhide HRES
    rw [if_neg (by simpa using hst)] at hres
    have hns : needS d.what ≠ 6 := by have := unhide HW; unfold needS; split <;> omega
    obtain ⟨hsame, hcst⟩ := on_same (by rw [← unhide HOCE]; exact hst) hns
    by_cases ham : d.what = 1 ∧ (d.amt < 1 ∨ x.1.p.amt < d.amt)
    · rw [if_pos ham] at hres
      have HRS := hide hres
      have hw1 : (d.what == 1) = true := by simpa using ham.1
      clear hres hst hsame hcst
      by_cases hlo : d.amt < 1
      · clear ham
        go_wp2_with fail
        go_quiet (fail)
        go_wp2
        go_ret
        rw [unhide HRS]
        exact ⟨rfl, G, ⟨_, _, _, _, (unhide HWas).told.rin.keep (Nat.le_refl _) (fun x hx => rfl)⟩, (unhide HWas).told.chg.drewN _, fun x hx => .inl hx⟩
      · have hhi : x.1.p.amt < d.amt := by omega
        clear ham
        go_wp2_with fail
        go_quiet (fail)
        go_wp2
        go_ret
        rw [unhide HRS]
        exact ⟨rfl, G, ⟨_, _, _, _, (unhide HWas).told.rin.keep (Nat.le_refl _) (fun x hx => rfl)⟩, (unhide HWas).told.chg.drewN _, fun x hx => .inl hx⟩
    · rw [if_neg ham] at hres
      have HRS := hide hres
      have hor : (d.what == 1) = false ∨ ((d.what == 1) = true ∧ ¬ d.amt < 1 ∧ ¬ x.1.p.amt < d.amt) := by
        by_cases e : d.what = 1
        · exact .inr ⟨by simpa using e, by omega, by omega⟩
        · exact .inl (by simpa using e)
      have HSA := hide hsame; have HCS := hide hcst; have HAM : Hid (d.what = 1 → 1 ≤ d.amt ∧ d.amt ≤ x.1.p.amt) := hide (fun e => by omega)
      clear hres hst hsame hcst ham hns
      go_wp2_with fail
      go_cut [59] (fun v wx => (∃ q, wx = (w3.alloc (.cells #[.int .i64 oc.st, .int .i64 oc.since, .int .i64 oc.disp, .int .i64 oc.paid] 49)).drewN q) ∧ v = .bool false)
      case first =>
        rcases hor with hw1 | ⟨hw1, hlo, hhi⟩
        · go_quiet (fail)
          go_wp2_with fail
          go_meet
          case rel => exact ⟨⟨_, rfl⟩, rfl⟩
        · go_quiet (fail)
          go_wp2_with fail
          go_meet
          case rel => exact ⟨⟨_, rfl⟩, by first | rfl | (congr 1; simp; omega)⟩
      case rest =>
        obtain ⟨⟨q, hwc⟩, hu⟩ := hcut
        subst hu
        have hT2 : Was w wc G r S d vL vO ks os oc w3.heap.size := hwc ▸ ⟨⟨(unhide HWas).told.rin.keep (Nat.le_refl _) (fun x hx => rfl), (unhide HWas).told.chg.drewN _, (unhide HWas).told.box⟩, (unhide HWas).was, (unhide HWas).new⟩
        have HW2 := hide hT2
        have hm6 : wc.cell? ⟨gL, i * 7 + 6, none⟩ = some x.2 := by
          have hV := hT2.told.rin
          rcases hV.row.form.2 with hn | ⟨g, cap, hv, _, hgl⟩
          · rw [hn] at HXX; cases (unhide HXX)
          · subst hv; obtain rfl : g = gL := Option.some.inj (unhide HGL)
            rw [OwnR.cell cellsK_len hV.row i x (unhide HXX) 6 (by omega)]; rfl
        obtain ⟨t0, t1, t2⟩ := boxDC hT2.told.box
        have hgl4 : gL < wc.heap.size := oR_lt hT2.told.rin.row (unhide HGL)
        have hwl4 : w.heap.size < wc.heap.size := blk_lt hT2.told.box
        clear hT2 hwc HWas s0 s1 s2 k4 hgl3 hwl hmn hor
        obtain ⟨i0, hi0, hz0, hz1, hz2⟩ := info_parts infoD
        have HI := hide hi0; have Z0 := hide hz0; have Z1 := hide hz1; have Z2 := hide hz2
        clear hi0 hz0 hz1 hz2
        go_wp2_with fail
        go_cut [] (fun wx => DMid wc wx gL i x d)
        case first =>
          have hf6 : wc.frozen? ⟨gL, i * 7 + 6, none⟩ = false := by
            have hV := (unhide HW2).told.rin
            rcases hV.row.form.2 with hn | ⟨g, cap, hv, _, hgl⟩
            · rw [hn] at HXX; cases (unhide HXX)
            · subst hv; obtain rfl : g = gL := Option.some.inj (unhide HGL)
              exact OwnR.frozen hV.row rfl _
          have sA : (wc.alloc (.cells #[] 60)).heap.size = wc.heap.size + 1 := by simp
          have sB : (wc.alloc (.cells #[.int .i64 d.what, .int .i64 d.day, .int .i64 d.amt] 60)).heap.size = wc.heap.size + 1 := by simp
          have EA1 : ((wc.alloc (.cells #[] 60)).alloc (.cells #[.int .i64 d.what, .int .i64 d.day, .int .i64 d.amt] 60)).drew.ownsRow 0 60 3 (.slice (some ⟨wc.heap.size, 0, none⟩) 0 0) 0 [] := (ownE wc).alloc _
          have EA2 : ((wc.alloc (.cells #[.int .i64 d.what, .int .i64 d.day, .int .i64 d.amt] 60)).alloc (.cells #[] 60)).drew.ownsRow 0 60 3 (.slice (some ⟨wc.heap.size + 1, 0, none⟩) 0 0) 0 [] := by
            have := ownE (wc.alloc (.cells #[.int .i64 d.what, .int .i64 d.day, .int .i64 d.amt] 60)); rw [sB] at this; exact this
          have HB1 : ((wc.alloc (.cells #[] 60)).alloc (.cells #[.int .i64 d.what, .int .i64 d.day, .int .i64 d.amt] 60)).drew.heap[wc.heap.size + 1]? = some (.cells #[.int .i64 d.what, .int .i64 d.day, .int .i64 d.amt] 60) := by
            have := heap_alloc_new (wc.alloc (.cells #[] 60)) (.cells #[.int .i64 d.what, .int .i64 d.day, .int .i64 d.amt] 60); rw [sA] at this; exact this
          have HB2 : ((wc.alloc (.cells #[.int .i64 d.what, .int .i64 d.day, .int .i64 d.amt] 60)).alloc (.cells #[] 60)).drew.heap[wc.heap.size]? = some (.cells #[.int .i64 d.what, .int .i64 d.day, .int .i64 d.amt] 60) := (Below.heap_alloc (wc.alloc (.cells #[.int .i64 d.what, .int .i64 d.day, .int .i64 d.amt] 60)) (.cells #[] 60) wc.heap.size (by rw [sB]; omega)).trans (heap_alloc_new wc (.cells #[.int .i64 d.what, .int .i64 d.day, .int .i64 d.amt] 60))
          have BL1 : Below wc.heap.size wc ((wc.alloc (.cells #[] 60)).alloc (.cells #[.int .i64 d.what, .int .i64 d.day, .int .i64 d.amt] 60)).drew := (((Below.refl wc.heap.size wc).alloc (Nat.le_refl _) _).alloc (by rw [sA]; omega) _).drew
          have BL2 : Below wc.heap.size wc ((wc.alloc (.cells #[.int .i64 d.what, .int .i64 d.day, .int .i64 d.amt] 60)).alloc (.cells #[] 60)).drew := (((Below.refl wc.heap.size wc).alloc (Nat.le_refl _) _).alloc (by rw [sB]; omega) _).drew
          have HEA1 := hide EA1; have HEA2 := hide EA2; have HHB1 := hide HB1; have HHB2 := hide HB2; have HBL1 := hide BL1; have HBL2 := hide BL2
          clear EA1 EA2 HB1 HB2 BL1 BL2 sA sB
          by_cases hnil : x.1.ds = []
          · have hdv := (unhide HW2).told.rin.nod x (List.mem_of_getElem? (unhide HXX)) hnil
            rw [hdv] at hm6
            have HNIL := hide hnil
            clear hdv hnil
            go_region_law ((first
              | (refine step_append_lies _ (by rfl) (.tmp 66) (.tmp 68) _ (by rfl) 0 60 i0 _ 3 24 Try.underlying89 (unhide HI) (unhide Z0) (unhide Z1) (unhide Z2) rfl (by omega) _ 0 [] (by rfl) (unhide HEA1) ⟨wc.heap.size + 1, 0, none⟩ 1 1 [.int .i64 d.what, .int .i64 d.day, .int .i64 d.amt] (by rfl) (by rfl) (newsB (unhide HHB1)) (by simp [Value.oneCell']) (by omega) (by unfold maxLen; omega) (by omega) (Nat.zero_le _) (wc.heap.size + 2) (by simp) ?_; intro g5 cap5 w5 own5 hgrow5 hat5 hlt5; have hbb := unhide HBL1; have hb5 : Below wc.heap.size wc w5 := hbb.grown hgrow5 hbb.size (fun k hk => by have hk' : wc.heap.size = k := Option.some.inj hk; omega); have q6 := cell_far hb5 hgl4 hm6; have hrw : ∀ k, (Value.slice (some ⟨wc.heap.size, 0, none⟩) 0 0).ownBlock = some k → wc.heap.size ≤ k := (fun k hk => by have hk' : wc.heap.size = k := Option.some.inj hk; omega); have qf := froz_far hb5 hgl4 hf6)
              | (refine step_append_lies _ (by rfl) (.tmp 66) (.tmp 68) _ (by rfl) 0 60 i0 _ 3 24 Try.underlying89 (unhide HI) (unhide Z0) (unhide Z1) (unhide Z2) rfl (by omega) _ 0 [] (by rfl) (unhide HEA2) ⟨wc.heap.size, 0, none⟩ 1 1 [.int .i64 d.what, .int .i64 d.day, .int .i64 d.amt] (by rfl) (by rfl) (newsB (unhide HHB2)) (by simp [Value.oneCell']) (by omega) (by unfold maxLen; omega) (by omega) (Nat.zero_le _) (wc.heap.size + 2) (by simp) ?_; intro g5 cap5 w5 own5 hgrow5 hat5 hlt5; have hbb := unhide HBL2; have hb5 : Below wc.heap.size wc w5 := hbb.grown hgrow5 hbb.size (fun k hk => by have hk' : wc.heap.size + 1 = k := Option.some.inj hk; omega); have q6 := cell_far hb5 hgl4 hm6; have hrw : ∀ k, (Value.slice (some ⟨wc.heap.size + 1, 0, none⟩) 0 0).ownBlock = some k → wc.heap.size ≤ k := (fun k hk => by have hk' : wc.heap.size + 1 = k := Option.some.inj hk; omega); have qf := froz_far hb5 hgl4 hf6)
              | fail))
            all_goals
              have HFI := hide (dmid_of (gL := gL) (i := i) (x := x) (d := d) hbb hgrow5 hrw (by rw [unhide HNIL]; rfl) (by rw [unhide HNIL]; rfl) own5 hat5 (by omega))
              clear hbb own5 hgrow5 hat5 hb5
              go_wp2_with fail
              go_meet
              case rel => exact unhide HFI
          · have hrin := (unhide HW2).told.rin
            have hmx := List.mem_of_getElem? (unhide HXX)
            obtain ⟨gd, capd, hdv, hgd⟩ : ∃ gd capd, x.2 = .slice (some ⟨gd, 0, none⟩) x.1.ds.length capd ∧ gd < wc.heap.size := by
              rcases (hrin.deeds x hmx).form.2 with hn | ⟨g, cap, hv, _, hgl⟩
              · exact absurd hn hnil
              · exact ⟨g, cap, hv, hgl⟩
            have hdr := hrin.deeds x hmx
            rw [hdv] at hm6 hdr
            have HDV := hide hdr
            have HRL : Hid ((rowC cellsDd x.1.ds).length = x.1.ds.length * 3) := hide (rowC_length cellsDd_len _)
            have HPOS : Hid (0 < x.1.ds.length) := hide (List.length_pos_iff.2 hnil)
            have HLE : Hid (x.1.ds.length ≤ 4) := hide (unhide HOD x.1 (List.mem_of_getElem? (unhide HXL))).len
            have HE0 : Hid ((wc.alloc (.cells #[] 60)).drew.ownsRow 0 60 3 (.slice (some ⟨wc.heap.size, 0, none⟩) 0 0) 0 []) := hide (ownE wc)
            have HBL0 : Hid (Below wc.heap.size wc (wc.alloc (.cells #[] 60)).drew) := hide ((Below.refl wc.heap.size wc).alloc (Nat.le_refl _) _).drew
            have hl4 : (x.1.ds.length : Int) ≤ 4 := by have := unhide HLE; omega
            clear hrin hmx hdr hdv hnil
            go_region_law ((first
              | (refine step_append_lies _ (by rfl) (.tmp 61) (.tmp 65) _ (by rfl) 0 60 i0 _ 3 24 Try.underlying89 (unhide HI) (unhide Z0) (unhide Z1) (unhide Z2) rfl (by omega) _ 0 [] (by rfl) (unhide HE0) ⟨gd, 0, none⟩ x.1.ds.length capd (rowC cellsDd x.1.ds) (by rfl) (unhide HRL) (newsD (unhide HDV) ((unhide HBL0).block gd hgd)) (ded_one _) (unhide HPOS) (by have := unhide HLE; unfold maxLen; omega) (by have := unhide HLE; omega) (Nat.zero_le _) (wc.heap.size + 1) (by simp) ?_; intro g1 cap1 w4 own1 hgrow1 hat1 hlt1; rw [Nat.zero_add, List.nil_append] at own1; have hb4 : Below wc.heap.size wc w4 := (unhide HBL0).grown hgrow1 (unhide HBL0).size (fun k hk => by have hk' : wc.heap.size = k := Option.some.inj hk; omega); have v0 := cell_far hb4 hwl4 t0; have v1 := cell_far hb4 hwl4 t1; have v2 := cell_far hb4 hwl4 t2; have hg1 : wc.heap.size ≤ g1 := (by rcases hat1 with e | e; have e' : wc.heap.size = g1 := Option.some.inj e; omega; omega))
              | (refine step_append_lies _ (by rfl) (.tmp 61) (.tmp 65) _ (by rfl) 0 60 i0 _ 3 24 Try.underlying89 (unhide HI) (unhide Z0) (unhide Z1) (unhide Z2) rfl (by omega) _ 0 [] (by rfl) (unhide HEA1) ⟨gd, 0, none⟩ x.1.ds.length capd (rowC cellsDd x.1.ds) (by rfl) (unhide HRL) (newsD (unhide HDV) ((unhide HBL1).block gd hgd)) (ded_one _) (unhide HPOS) (by have := unhide HLE; unfold maxLen; omega) (by have := unhide HLE; omega) (Nat.zero_le _) (wc.heap.size + 2) (by simp) ?_; intro g1 cap1 w4 own1 hgrow1 hat1 hlt1; rw [Nat.zero_add, List.nil_append] at own1; have hb4 : Below wc.heap.size wc w4 := (unhide HBL1).grown hgrow1 (unhide HBL1).size (fun k hk => by have hk' : wc.heap.size = k := Option.some.inj hk; omega); have v0 := cell_far hb4 hwl4 t0; have v1 := cell_far hb4 hwl4 t1; have v2 := cell_far hb4 hwl4 t2; have hg1 : wc.heap.size ≤ g1 := (by rcases hat1 with e | e; have e' : wc.heap.size = g1 := Option.some.inj e; omega; omega); have hB4 : w4.heap[wc.heap.size + 1]? = some (.cells #[.int .i64 d.what, .int .i64 d.day, .int .i64 d.amt] 60) := ((hgrow1.block (wc.heap.size + 1) (blk_lt (unhide HHB1)) (fun e => by have e2 : wc.heap.size + 1 = wc.heap.size := Option.some.inj e; omega)).trans (unhide HHB1)))
              | (refine step_append_lies _ (by rfl) (.tmp 61) (.tmp 65) _ (by rfl) 0 60 i0 _ 3 24 Try.underlying89 (unhide HI) (unhide Z0) (unhide Z1) (unhide Z2) rfl (by omega) _ 0 [] (by rfl) (unhide HEA2) ⟨gd, 0, none⟩ x.1.ds.length capd (rowC cellsDd x.1.ds) (by rfl) (unhide HRL) (newsD (unhide HDV) ((unhide HBL2).block gd hgd)) (ded_one _) (unhide HPOS) (by have := unhide HLE; unfold maxLen; omega) (by have := unhide HLE; omega) (Nat.zero_le _) (wc.heap.size + 2) (by simp) ?_; intro g1 cap1 w4 own1 hgrow1 hat1 hlt1; rw [Nat.zero_add, List.nil_append] at own1; have hb4 : Below wc.heap.size wc w4 := (unhide HBL2).grown hgrow1 (unhide HBL2).size (fun k hk => by have hk' : wc.heap.size + 1 = k := Option.some.inj hk; omega); have v0 := cell_far hb4 hwl4 t0; have v1 := cell_far hb4 hwl4 t1; have v2 := cell_far hb4 hwl4 t2; have hg1 : wc.heap.size ≤ g1 := (by rcases hat1 with e | e; have e' : wc.heap.size + 1 = g1 := Option.some.inj e; omega; omega); have hB4 : w4.heap[wc.heap.size]? = some (.cells #[.int .i64 d.what, .int .i64 d.day, .int .i64 d.amt] 60) := ((hgrow1.block wc.heap.size (blk_lt (unhide HHB2)) (fun e => by have e2 : wc.heap.size = wc.heap.size + 1 := Option.some.inj e; omega)).trans (unhide HHB2)))
              | (refine step_append_lies _ (by rfl) (.tmp 66) (.tmp 68) _ (by rfl) 0 60 i0 _ 3 24 Try.underlying89 (unhide HI) (unhide Z0) (unhide Z1) (unhide Z2) rfl (by omega) _ x.1.ds.length (rowC cellsDd x.1.ds) (by rfl) (World.ownsRow.alloc own1 _) ⟨w4.heap.size, 0, none⟩ 1 1 [.int .i64 d.what, .int .i64 d.day, .int .i64 d.amt] (by rfl) (by rfl) (newsB (heap_alloc_new w4 _)) (by simp [Value.oneCell']) (by omega) (by have := unhide HLE; unfold maxLen; omega) (by have := unhide HLE; omega) (Nat.zero_le _) _ rfl ?_; intro g5 cap5 w5 own5 hgrow5 hat5 hlt5; have hbb := (hb4.alloc hb4.size (.cells #[.int .i64 d.what, .int .i64 d.day, .int .i64 d.amt] 60)); have hrw : ∀ k, (Value.slice (some ⟨g1, 0, none⟩) x.1.ds.length cap1).ownBlock = some k → wc.heap.size ≤ k := (fun k hk => by have hk' : g1 = k := Option.some.inj hk; omega); have hb5 : Below wc.heap.size wc w5 := hbb.grown hgrow5 hbb.size hrw; have q6 := cell_far hb5 hgl4 hm6; have qf := froz_far hb5 hgl4 hf6; have hH := hbb.size)
              | (refine step_append_lies _ (by rfl) (.tmp 66) (.tmp 68) _ (by rfl) 0 60 i0 _ 3 24 Try.underlying89 (unhide HI) (unhide Z0) (unhide Z1) (unhide Z2) rfl (by omega) _ x.1.ds.length (rowC cellsDd x.1.ds) (by rfl) own1 ⟨wc.heap.size + 1, 0, none⟩ 1 1 [.int .i64 d.what, .int .i64 d.day, .int .i64 d.amt] (by rfl) (by rfl) (newsB hB4) (by simp [Value.oneCell']) (by omega) (by have := unhide HLE; unfold maxLen; omega) (by have := unhide HLE; omega) (Nat.zero_le _) _ rfl ?_; intro g5 cap5 w5 own5 hgrow5 hat5 hlt5; have hbb := hb4; have hrw : ∀ k, (Value.slice (some ⟨g1, 0, none⟩) x.1.ds.length cap1).ownBlock = some k → wc.heap.size ≤ k := (fun k hk => by have hk' : g1 = k := Option.some.inj hk; omega); have hb5 : Below wc.heap.size wc w5 := hbb.grown hgrow5 hbb.size hrw; have q6 := cell_far hb5 hgl4 hm6; have qf := froz_far hb5 hgl4 hf6; have hH := hbb.size)
              | (refine step_append_lies _ (by rfl) (.tmp 66) (.tmp 68) _ (by rfl) 0 60 i0 _ 3 24 Try.underlying89 (unhide HI) (unhide Z0) (unhide Z1) (unhide Z2) rfl (by omega) _ x.1.ds.length (rowC cellsDd x.1.ds) (by rfl) own1 ⟨wc.heap.size, 0, none⟩ 1 1 [.int .i64 d.what, .int .i64 d.day, .int .i64 d.amt] (by rfl) (by rfl) (newsB hB4) (by simp [Value.oneCell']) (by omega) (by have := unhide HLE; unfold maxLen; omega) (by have := unhide HLE; omega) (Nat.zero_le _) _ rfl ?_; intro g5 cap5 w5 own5 hgrow5 hat5 hlt5; have hbb := hb4; have hrw : ∀ k, (Value.slice (some ⟨g1, 0, none⟩) x.1.ds.length cap1).ownBlock = some k → wc.heap.size ≤ k := (fun k hk => by have hk' : g1 = k := Option.some.inj hk; omega); have hb5 : Below wc.heap.size wc w5 := hbb.grown hgrow5 hbb.size hrw; have q6 := cell_far hb5 hgl4 hm6; have qf := froz_far hb5 hgl4 hf6; have hH := hbb.size)
              | fail))
            all_goals
              have HFI := hide (dmid_of (gL := gL) (i := i) (x := x) (d := d) hbb hgrow5 hrw rfl rfl own5 hat5 hH)
              clear hbb own5 hgrow5 hat5 hb5
              go_wp2_with fail
              go_meet
              case rel => exact unhide HFI
        case rest =>
          obtain ⟨V1, g, cap, hwx, hbV, hO, hg⟩ := hcut
          have HNW : Hid (w.heap.size ≤ g) := hide (Nat.le_trans (unhide HW2).told.chg.size hg)
          have hxm := List.mem_of_getElem? (unhide HXL)
          obtain ⟨o1, o2, o3⟩ := (unhide HOK).each x.1 hxm
          have hwd := unhide HW
          have hda := unhide HA
          have hpb := of_decide_eq_false o2
          obtain ⟨hz1, hz2, hz3⟩ := unhide HZ
          have hcs : x.1.c.st = needS d.what := unhide HCS
          obtain ⟨y1, y2, y3, y4⟩ := okC_deed (D := S.D) (unhide HOK).D o1 hwd hcs ⟨hz1, hz2⟩ (unhide HAM)
          have hset : sumB (S.L.set i ⟨x.1.p, x.1.ds ++ [d], deed1 S.D x.1.c d⟩) = sumB S.L - budget x.1.c.st + budget (deed1 S.D x.1.c d).st := sumB_set S.L i x.1 ⟨x.1.p, x.1.ds ++ [d], deed1 S.D x.1.c d⟩ (unhide HXL)
          have hbud : sumB S.L ≤ sumB (S.L.set i ⟨x.1.p, x.1.ds ++ [d], deed1 S.D x.1.c d⟩) := by
            rw [hset]; omega
          have hD := (unhide HW2).told.rin.deeded (c' := deed1 S.D x.1.c d) (unhide HXX) (unhide HGL) (fun b hb => hbV.block b hb) hbV.size hO hg hbud
          rw [← hwx] at hD
          have hfin := unhide HOM _ ((unhide HR).symm.trans (unhide HRS))
          have hodM := unhide HOM2 _ ((unhide HR).symm.trans (unhide HRS))
          obtain ⟨ow0, ow1, ow2⟩ := unhide HOW
          have hokM : okS { S with last := d.day, L := S.L.set i ⟨x.1.p, x.1.ds ++ [d], deed1 S.D x.1.c d⟩ } := ⟨hfin.D, hfin.last0, hfin.last1, hfin.len, hfin.each, hfin.once, ow0, fun a b => Int.le_trans (ow1 a b) hbud, ow2⟩
          have hix : i < ks.length := (List.getElem?_eq_some_iff.1 (unhide HXX)).1
          obtain ⟨g6, hg6, N6⟩ := rOnC hD hokM hodM (List.getElem?_set_self hix) d.day ⟨hz1, hz2⟩
          obtain rfl : g6 = gL := Option.some.inj (hg6.symm.trans (unhide HGL))
          have hon : onC S.D (deed1 S.D x.1.c d) d.day = deed1 S.D x.1.c d := by
            unfold onC
            rw [y2, if_neg]
            have := (wait_in (unhide HOK).D (deed1 S.D x.1.c d).st).1
            have h2 : 0 ≤ waitC S.D (deed1 S.D x.1.c d).st := this
            omega
          have hCW : Chg G w wc := (unhide HW2).told.chg.trans ((Chg.of_below G hbV).trans (hwx ▸ Chg.setCell V1 _ _) (fun y hy => .inl (by subst hy; exact (unhide HW2).told.rin.gL _ (unhide HGL)))) (fun y hy => .inl hy)
          have hXB : XB wc w3.heap.size oc := by
            have h1 := (unhide HW2).was.of_block (hbV.block _ (unhide HW2).was.lt)
            rw [hwx]
            refine h1.other (a := ⟨g6, i * 7 + 6, none⟩) (fun e => ?_) _
            obtain ⟨cur, hc⟩ := (unhide HW2).told.rin.row.tag (unhide HGL)
            have h2 := (unhide HW2).was
            unfold XB at h2
            have e' : w3.heap.size = g6 := e
            rw [e', hc] at h2
            injection h2 with h2
            injection h2 with _ h2 _
            exact absurd h2 (by decide)
          have hbx : wc.heap[w.heap.size]? = some (boxD d) := by
            rw [hwx, Below.heap_setCell _ _ _ _ ?_]
            · exact (hbV.block _ (blk_lt (unhide HW2).told.box)).trans (unhide HW2).told.box
            · intro e
              obtain ⟨cur, hc⟩ := (unhide HW2).told.rin.row.tag (unhide HGL)
              have h2 := (unhide HW2).told.box
              have e' : w.heap.size = g6 := e
              rw [e', hc] at h2
              unfold boxD at h2
              injection h2 with h2
              injection h2 with _ h2 _
              exact absurd h2 (by decide)
          obtain ⟨v0, v1, v2⟩ := boxDC hbx
          have hoc : oc = x.1.c := (unhide HOCE).trans (unhide HSA)
          obtain ⟨cn, hcn⟩ : ∃ cn, cn = deed1 S.D x.1.c d := ⟨_, rfl⟩
          have N6' : Calls Try.prog 37 #[.pointer (some ⟨r, 0, none⟩), .pointer (some ⟨g6, i * 7, none⟩), .int .i64 d.day] wc fun e w' => e = .returned (.agg #[.int .i64 cn.st, .int .i64 cn.since, .int .i64 cn.disp, .int .i64 cn.paid]) ∧ Below wc.heap.size wc w' :=
            N6.mono (fun e w' hh => ⟨hh.1.trans (congrArg (fun c => Ending.returned (caseV c)) (hon.trans hcn.symm)), hh.2⟩)
          have hRS := unhide HRS
          rw [← hcn, ← hoc] at hRS
          rw [← hcn] at hD y1 y3 y4
          have HRF := hide hRS
          have hDx := hD.row
          rw [← hoc] at y3 y4
          have hcb : 1000000000000 * (os.length : Int) ≤ sumB S.L := (unhide HW2).told.rin.cnt
          have hbgap : (cn.paid - oc.paid ≠ 0) → budget x.1.c.st + 1000000000000 ≤ budget cn.st := by
            rw [hcn, hoc]; exact budget_gap hwd hcs
          have HGAP := hide hbgap
          obtain ⟨_, _, _, _, _, _, _, yp1, yp2, _⟩ := y1
          obtain ⟨_, _, _, _, _, _, _, zp1, zp2, _⟩ := o1
          rw [← hoc] at zp1 zp2
          have HN6 := hide N6'; have HD := hide hD; have HCW := hide hCW; have HXB2 := hide hXB; have HBX2 := hide hbx; have HOC2 := hide hoc; have HCB := hide hcb; have HSET := hide hset; have HCN2 := hide hcn
          have u1 : IntKind.i64.wrap (cn.paid - oc.paid) = cn.paid - oc.paid := by rw [IntKind.wrap_i64]; omega
          have HIN : Hid (InR (-(cn.paid - oc.paid))) := hide (by unfold InR; omega)
          have hg6l : g6 < wc.heap.size := oR_lt hD.row (unhide HGL)
          have HGL2 := HGL
          clear hwx hbV hO hg hxm o2 o3 hwd hda hpb hz1 hz2 hz3 hcs y2 y3 y4 hset hbud hD hfin hodM ow0 ow1 ow2 hokM hix hg6 N6 hon hCW hXB hbx hoc hcn N6' hRS hDx hcb hbgap yp1 yp2 zp1 zp2 hm6 t0 t1 t2 hgl4 hwl4
          go_wp2_with fail
          refine (unhide HN6).mono ?_
          rintro e w6 ⟨rfl, hb6⟩
          have hD7 := (unhide HD).keep (w' := (w6.alloc (.cells #[.int .i64 cn.st, .int .i64 cn.since, .int .i64 cn.disp, .int .i64 cn.paid] 49))) (Nat.le_trans hb6.size (by simp)) (fun y hy => (hb6.alloc hb6.size _).block y ((unhide HD).glt y hy))
          have hC7 : Chg G w (w6.alloc (.cells #[.int .i64 cn.st, .int .i64 cn.since, .int .i64 cn.disp, .int .i64 cn.paid] 49)) := (unhide HCW).trans (Chg.of_below G (hb6.alloc hb6.size _)) (fun y hy => .inl hy)
          have hX6 := (unhide HXB2).of_block (hb6.block _ (unhide HXB2).lt)
          obtain ⟨_, _, _, xp, _⟩ := hX6.cells
          have hxl := hX6.lt
          have HD7 := hide hD7; have HC7 := hide hC7
          by_cases hpe : cn.paid = oc.paid
          · have hpb : (cn.paid != oc.paid) = false := by simpa using hpe
            have HPE := hide hpe
            clear hpe hD7 hC7 hX6 hb6
            go_wp2
            go_ret
            have hz0 : cn.paid - oc.paid = 0 := by have := unhide HPE; omega
            rw [unhide HRF, hz0, owU_zero]
            exact ⟨rfl, _, ⟨_, _, _, _, unhide HD7⟩, unhide HC7, fun y hy => by rcases hy with hy | rfl; exact .inl hy; exact .inr (unhide HNW)⟩
          · have hpb : (cn.paid != oc.paid) = true := by simpa using hpe
            have HPE := hide hpe
            have hP := row_cell hD7.row (unhide HGL) (List.getElem?_set_self (List.getElem?_eq_some_iff.1 (unhide HXX)).1)
            have p0 : (w6.alloc (.cells #[.int .i64 cn.st, .int .i64 cn.since, .int .i64 cn.disp, .int .i64 cn.paid] 49)).cell? ⟨g6, i * 7, none⟩ = some (.int .i64 x.1.p.frm) := hP 0 (by omega)
            have p1 : (w6.alloc (.cells #[.int .i64 cn.st, .int .i64 cn.since, .int .i64 cn.disp, .int .i64 cn.paid] 49)).cell? ⟨g6, i * 7 + 1, none⟩ = some (.int .i64 x.1.p.to) := hP 1 (by omega)
            have p2 : (w6.alloc (.cells #[.int .i64 cn.st, .int .i64 cn.since, .int .i64 cn.disp, .int .i64 cn.paid] 49)).cell? ⟨g6, i * 7 + 2, none⟩ = some (.int .i64 x.1.p.shop) := hP 2 (by omega)
            have p3 : (w6.alloc (.cells #[.int .i64 cn.st, .int .i64 cn.since, .int .i64 cn.disp, .int .i64 cn.paid] 49)).cell? ⟨g6, i * 7 + 3, none⟩ = some (.int .i64 x.1.p.trace) := hP 3 (by omega)
            have p4 : (w6.alloc (.cells #[.int .i64 cn.st, .int .i64 cn.since, .int .i64 cn.disp, .int .i64 cn.paid] 49)).cell? ⟨g6, i * 7 + 4, none⟩ = some (.int .i64 x.1.p.amt) := hP 4 (by omega)
            have p5 : (w6.alloc (.cells #[.int .i64 cn.st, .int .i64 cn.since, .int .i64 cn.disp, .int .i64 cn.paid] 49)).cell? ⟨g6, i * 7 + 5, none⟩ = some (.int .i64 x.1.p.day) := hP 5 (by omega)
            have n3 : (w6.alloc (.cells #[.int .i64 cn.st, .int .i64 cn.since, .int .i64 cn.disp, .int .i64 cn.paid] 49)).cell? ⟨w6.heap.size, 3, none⟩ = some (.int .i64 cn.paid) := newC w6 _ _ 3
            have xp' : (w6.alloc (.cells #[.int .i64 cn.st, .int .i64 cn.since, .int .i64 cn.disp, .int .i64 cn.paid] 49)).cell? ⟨w3.heap.size, 3, none⟩ = some (.int .i64 oc.paid) := ((hX6.alloc _).cells).2.2.2.1
            have HAL := hide (And.intro p0 (And.intro p1 (And.intro p2 (And.intro p3 (And.intro p4 (And.intro p5 (And.intro n3 xp')))))))
            clear p0 p1 p2 p3 p4 p5 n3 xp' hP hpe hD7 hC7 hX6 hb6
            go_wp2_with fail
            generalize (w6.alloc (.cells #[.int .i64 cn.st, .int .i64 cn.since, .int .i64 cn.disp, .int .i64 cn.paid] 49)) = V at *
            obtain ⟨p0, p1, p2, p3, p4, p5, n3, xp'⟩ := unhide HAL
            have N8 := hide (owe_any r S.D d.day (cn.paid - oc.paid) vL vO os x.1.p V.drew ((unhide HD7).blk.of_block rfl) (unhide HD7).owed (unhide HCN) (unhide HIN))
            unfold pstV at N8
            clear HAL xp hxl
            go_region_with (go_at_call 36; refine (unhide N8).mono ?_; rintro e w9 ⟨rfl, g9, cap9, z1, z2, z3, z4⟩; have HZZ := hide (And.intro z1 (And.intro z2 (And.intro z3 z4))); clear z1 z2 z3 z4)
            all_goals
              go_wp2
              go_ret
              rw [unhide HRF]
              obtain ⟨z1, z2, z3, z4⟩ := unhide HZZ
              have hgap := unhide HGAP (by have := unhide HPE; omega)
              have hD7' : RIn V.drew (fun y => G y ∨ y = g) r { S with last := d.day, L := S.L.set i ⟨x.1.p, x.1.ds ++ [d], cn⟩ } vL vO _ os := (unhide HD7).keep (Nat.le_refl _) (fun y hy => rfl)
              have hF := hD7'.oweded z1 z2 z3 z4 (by
                show _ ≤ sumB (S.L.set i ⟨x.1.p, x.1.ds ++ [d], cn⟩)
                have h1 := unhide HSET
                rw [← unhide HCN2] at h1
                rw [h1]
                have := unhide HCB
                omega)
              refine ⟨rfl, _, ⟨_, _, _, _, hF⟩, (unhide HC7).trans ((Chg.refl (fun y => y = r ∨ vO.ownBlock = some y) V).drew.trans z4 (fun y hy => .inl hy)) (fun y hy => by rcases hy with rfl | hy; exact .inl (unhide HW2).told.rin.gr; exact .inl ((unhide HW2).told.rin.gO y hy)), fun y hy => ?_⟩
              rcases hy with (hy | rfl) | rfl
              · exact .inl hy
              · exact .inr (unhide HNW)
              · rcases z3 with e | e
                · exact .inl ((unhide HW2).told.rin.gO _ e)
                · exact .inr (Nat.le_trans (unhide HC7).size e)
  · have hmn : (oc.st != min d.what 4) = true := by rw [← need_min]; simpa using hst
    have hres := unhide HRES
    rw [if_pos hst] at hres
    have HRS := hide hres
    clear hres hst
    go_wp2
    go_ret
    rw [unhide HRS]
    exact ⟨rfl, G, ⟨_, _, _, _, (unhide HWas).told.rin⟩, (unhide HWas).told.chg, fun x hx => .inl hx⟩
end Go.Proofs.Ytbgplapbdghdmaa
