/- A file's text. -/
import Derived.Test.YtfpglpefofcdeaaGreatDoorM03
import Derived.Test.YtfpglpefofcdeaaGreatDoorM26
import Derived.Test.YtfpglpefofcdeaaGreatDoorM12
import Derived.Test.YtfpglpefofcdeaaGreatDoorM23
import Derived.Test.YtfpglpefofcdeaaGreatDoorM28
import Derived.Deep.RegionLaw
namespace Go.Proofs.YtfpglpefofcdeaaGreatDoor
open Go.RowKit
set_option linter.unusedVariables false
set_option linter.unusedSimpArgs false
set_option maxRecDepth 100000

/-- a file -/
structure Fl where
  id : ByteArray
  apo : Option Addr
  apps : List XApp
  apc : Nat
  isig : ByteArray
  irest : ByteArray
  csig : ByteArray
  crest : ByteArray
  ways : XWays
  md : Int
  mo : Int
  mf : Int
  ro : Option Addr
  row : List (Int × Int)
  rc : Nat
def flC (f : Fl) : Array Value := #[.string f.id, .slice f.apo f.apps.length f.apc, .string f.isig, .string f.irest, .string f.csig, .string f.crest, .int .i64 f.ways.x, .int .i64 f.ways.y, .slice f.ways.listo f.ways.list.length f.ways.listc, .int .i64 f.md, .int .i64 f.mo, .int .i64 f.mf, .slice f.ro f.row.length f.rc]
structure FlOK (w : World) (f : Fl) : Prop where
  idz : f.id.size ≤ maxLen
  apps : RowApp w f.apo f.apps
  ways : RowWay w f.ways.listo f.ways.list
  row : FRow w f.ro f.row
  nums : FNums f.row
  len : (f.row.length : Int) ≤ 9000000000000
  md : f.md ≤ 9223372036854775807
  mo : f.mo ≤ 9223372036854775807
  mf : f.mf ≤ 9223372036854775807
theorem FlOK.below {w w' : World} {f : Fl} (h : FlOK w f) (hb : Below w.heap.size w w') : FlOK w' f := ⟨h.idz, h.apps.below hb, h.ways.below hb, h.row.below hb, h.nums, h.len, h.md, h.mo, h.mf⟩
def fileE (f : Fl) : Int := if idB f.id = false then 1 else if appsE f.apps ≠ 0 then appsE f.apps else if waysE f.ways ≠ 0 then waysE f.ways else if fieldsE f.row ≠ 0 then fieldsE f.row else masksE f.md f.mo f.mf
def fileL (f : Fl) : List ByteArray := [f.id, appsS f.apps, wayT f.ways, masksS f.md f.mo f.mf, printS f.row]
def fileS (f : Fl) : ByteArray := if fileE f = 0 then rowS (fileL f) else ⟨#[]⟩
theorem step_call1T {P : Program} {ops : Array Oper} {o : Oper} {a : Act} {w : World} {K : Act → World → Prop} {Q : Exit → Act → World → Prop} {E : Prop} (hw : Region.wanted o (yielded ops a.tmps) = true) (f : FuncId) (x : Operand) (ts : Array TypeId)
    (ho : o.op = .call { callee := .value (.func f), args := #[x], argTypes := ts }) (v : Value) (hx : a.eval x = v) (hf : ∀ args w, (callFunc f args).run P w = .ok (.enter f args) w)
    {S : Ending → World → Prop} (hc : Calls P f #[v] w S) (hv : ∀ e w', S e w' → ∃ v, e = .returned v ∧ K (a.put o.dst v) w') :
    if Region.wanted o (yielded ops a.tmps) = true then Oper.wp P o a w K Q else E := by
  rw [if_pos hw]
  obtain ⟨dst, op, ty, pos, after, guard⟩ := o
  cases ho
  have hrun : (execOp a.eval { dst, op := .call { callee := .value (.func f), args := #[x], argTypes := ts }, type := ty, pos, after, guard }).run P w = .ok (.enter f #[v]) w := by
    show (callFunc f (#[] ++ #[x].map a.eval ++ #[])).run P w = _
    have e : (#[] ++ #[x].map a.eval ++ #[]) = #[v] := by simp [hx]
    rw [e]; exact hf _ _
  unfold Oper.wp
  rw [hrun, Oper.upon_enter]
  refine hc.mono fun e w' hh => ?_
  obtain ⟨v, rfl, hk⟩ := hv e w' hh
  exact hk
theorem ent_waysText (args : Array Value) (w : World) : (callFunc 38 args).run Tryz.prog w = .ok (.enter 38 args) w := by kernel_rfl
theorem ent_row (args : Array Value) (w : World) : (callFunc 37 args).run Tryz.prog w = .ok (.enter 37 args) w := by kernel_rfl
theorem retPT {s t : ByteArray} {a b : Int} (h1 : s = t) (h2 : a = b) : Ending.returned (.tuple #[.string s, .int .i64 a]) = .returned (.tuple #[.string t, .int .i64 b]) := by rw [h1, h2]
theorem trow5 (w : World) (a b c d e : ByteArray) : TRow (w.alloc (.cells #[.string a, .string b, .string c, .string d, .string e] 9)) (some ⟨w.heap.size, 0, none⟩) [a, b, c, d, e] := by
  refine .inr ⟨w.heap.size, 0, rfl, by simp, fun i s hs => ?_⟩
  have hX := heap_alloc_new w (.cells #[.string a, .string b, .string c, .string d, .string e] 9)
  have hi := (List.getElem?_eq_some_iff.1 hs).1
  simp only [List.length_cons, List.length_nil] at hi
  have : i = 0 ∨ i = 1 ∨ i = 2 ∨ i = 3 ∨ i = 4 := by omega
  generalize w.alloc (.cells #[.string a, .string b, .string c, .string d, .string e] 9) = W at hX ⊢
  rcases this with rfl | rfl | rfl | rfl | rfl <;> simp at hs <;> subst hs <;> simp only [World.cell?, hX] <;> rfl
theorem fileE_id {f : Fl} (h : idB f.id = false) : fileE f = 1 := by unfold fileE; rw [if_pos h]
theorem fileL_bulk {f : Fl} (h1 : f.id.size ≤ 19) (h2 : (appsS f.apps).size ≤ 65535) (h3 : f.ways.list.length ≤ 20) (h4 : f.row.length ≤ 100) : bulkT (fileL f) ≤ 4194304 := by
  have e1 : (wayT f.ways).size ≤ 76 := by
    unfold wayT
    rw [ByteArray.size_append, ByteArray.size_append, strOfNums_size, wayL_len]
    have := numS_size f.ways.x 8; have := numS_size f.ways.y 8; omega
  have e2 : (masksS f.md f.mo f.mf).size ≤ 24 := by
    unfold masksS
    split
    · rw [ByteArray.size_append, ByteArray.size_append]
      have := numS_size f.md 2; have := numS_size f.mo 2; have := numS_size f.mf 2; omega
    · exact Nat.zero_le _
  have e3 : (printS f.row).size ≤ 400 := by
    unfold printS
    split
    · rw [strOfNums_size]; have := textL_length f.row; omega
    · exact Nat.zero_le _
  simp only [fileL, bulkT]
  omega
theorem appsS_size {l : List XApp} (h : appsE l = 0) : (appsS l).size ≤ 65535 := by
  have hE := printsE_apps h
  cases hm : measD 2 (l.map itemI) with
  | none => rw [hm] at hE; cases hE
  | some sp =>
    obtain ⟨s, p⟩ := sp
    have hE2 := hE
    rw [hm] at hE
    have h1 : (if 8 < p ∨ 65535 < s then (2 : Int) else 0) = 0 := hE
    by_cases hc : 8 < p ∨ 65535 < s
    · rw [if_pos hc] at h1; cases h1
    · have e : appsS l = strOfNums (textD 2 (l.map itemI)) := by
        unfold appsS
        rw [if_pos h]
        unfold appsT printsS
        rw [printsE_apps h, if_pos rfl]
      rw [e, strOfNums_size, meas_text 2 _ _ _ hm]
      omega
set_option maxHeartbeats 8000000 in
theorem fileText_any (f : Fl) (w : World) (hf : FlOK w f) : Calls Tryz.prog 9 #[.agg (flC f)] w fun e w' => e = .returned (.tuple #[.string (fileS f), .int .i64 (fileE f)]) ∧ Below w.heap.size w w' := by
  obtain ⟨W1, hW1⟩ : ∃ W1, W1 = w.alloc (.cells (flC f) 33) := ⟨_, rfl⟩
  have hB1 : Below w.heap.size w W1 := by rw [hW1]; exact (Below.refl _ _).alloc (Nat.le_refl _) _
  have hX1 : W1.heap[w.heap.size]? = some (.cells (flC f) 33) := by rw [hW1]; exact heap_alloc_new _ _
  have hf1 := hf.below hB1
  have hC : ∀ wx, Below W1.heap.size W1 wx → wx.cell? ⟨w.heap.size, 0, none⟩ = some (.string f.id) ∧ wx.cell? ⟨w.heap.size, 1, none⟩ = some (.slice f.apo f.apps.length f.apc) ∧ wx.cell? ⟨w.heap.size, 6, none⟩ = some (.int .i64 f.ways.x) ∧ wx.cell? ⟨w.heap.size, 7, none⟩ = some (.int .i64 f.ways.y) ∧ wx.cell? ⟨w.heap.size, 8, none⟩ = some (.slice f.ways.listo f.ways.list.length f.ways.listc) ∧ wx.cell? ⟨w.heap.size, 9, none⟩ = some (.int .i64 f.md) ∧ wx.cell? ⟨w.heap.size, 10, none⟩ = some (.int .i64 f.mo) ∧ wx.cell? ⟨w.heap.size, 11, none⟩ = some (.int .i64 f.mf) ∧ wx.cell? ⟨w.heap.size, 12, none⟩ = some (.slice f.ro f.row.length f.rc) := fun wx hb => by
    have x1 := (hb.block _ (Array.getElem?_eq_some_iff.1 hX1).1).trans hX1
    unfold flC at x1
    refine ⟨?_, ?_, ?_, ?_, ?_, ?_, ?_, ?_, ?_⟩ <;> simp [World.cell?, x1]
  have NI := hide (fun W => isId_any f.id W hf.idz)
  have NA := hide (fun (W : World) (hb : Below W1.heap.size W1 W) => pprint_any f.apps f.apo f.apc W (hf1.apps.below hb))
  have NW := hide (fun (W : World) (hb : Below W1.heap.size W1 W) => checkWays_any f.ways W (hf1.ways.below hb))
  have NF := hide (fun (W : World) (hb : Below W1.heap.size W1 W) => printF_all f.row f.ro f.rc W (hf1.row.below hb) hf.nums hf.len)
  have NM := hide (fun (W : World) => masksText_any f.md f.mo f.mf W hf.md hf.mo hf.mf)
  have NT := hide (fun (W : World) (hb : Below W1.heap.size W1 W) (he : waysE f.ways = 0) => waysText_any f.ways W (hf1.ways.below hb) he)
  obtain ⟨E, hE⟩ : ∃ E, E = fileE f := ⟨_, rfl⟩
  obtain ⟨S, hS⟩ : ∃ S, S = fileS f := ⟨_, rfl⟩
  have HE := hide hE; have HS := hide hS; have HC := hide hC; have HB1 := hide hB1; have HW1 := hide hW1
  obtain ⟨c0, c1, c6, c7, c8, c9, c10, c11, c12⟩ := hC W1 (Below.refl _ _)
  unfold valWays at NW NT
  rw [← hE, ← hS]
  unfold flC
  unfold flC at HW1
  clear hf hf1 hX1 hB1 hC hE hS hW1
  go_enter Tryz.func9, Tryz.ntmps9
  go_upto_region 1 with fail
  rw [← unhide HW1]
  go_wp2_with fail
  refine (unhide NI _).mono ?_
  rintro e y1 ⟨rfl, k1⟩
  have HK1 := hide k1
  obtain ⟨c0, c1, c6, c7, c8, c9, c10, c11, c12⟩ := unhide HC y1 k1
  clear k1
  cases hid : idB f.id with
  | false =>
    have HQ := hide (And.intro ((unhide HE).trans (fileE_id hid)) ((unhide HS).trans (by unfold fileS; rw [fileE_id hid, if_neg (by decide)])))
    have HBZ := hide ((unhide HB1).trans ((unhide HK1).mono (unhide HB1).size))
    clear hid
    go_wp2
    go_ret2
    exact ⟨retPT (unhide HQ).2.symm (unhide HQ).1.symm, unhide HBZ⟩
  | true =>
  have HID := hide hid
  clear hid
  go_wp2_with fail
  refine (unhide NA _ (unhide HK1)).mono ?_
  rintro e y2 ⟨rfl, k2⟩
  have k2' := (unhide HK1).trans (k2.mono (unhide HK1).size)
  have HK2 := hide k2'
  obtain ⟨c0, c1, c6, c7, c8, c9, c10, c11, c12⟩ := unhide HC y2 k2'
  clear k2 k2'
  by_cases ha : appsE f.apps = 0
  case neg =>
    have hE1 : fileE f = appsE f.apps := by unfold fileE; rw [if_neg (by rw [unhide HID]; decide), if_pos ha]
    have HQ := hide (And.intro ((unhide HE).trans hE1) ((unhide HS).trans (by unfold fileS; rw [hE1, if_neg ha])))
    have HBZ := hide ((unhide HB1).trans ((unhide HK2).mono (unhide HB1).size))
    have hab : (appsE f.apps == 0) = false := by simpa using ha
    have hab' : (appsE f.apps != 0) = true := by simpa using ha
    generalize appsE f.apps = ae at *
    clear ha hE1
    go_wp2
    go_ret2
    exact ⟨retPT (unhide HQ).2.symm (unhide HQ).1.symm, unhide HBZ⟩
  have HA := hide ha
  rw [ha]
  clear ha
  go_wp2_with fail
  refine (unhide NW _ (unhide HK2)).mono ?_
  rintro e y3 ⟨rfl, k3⟩
  have k3' := (unhide HK2).trans (k3.mono (unhide HK2).size)
  have HK3 := hide k3'
  obtain ⟨c0, c1, c6, c7, c8, c9, c10, c11, c12⟩ := unhide HC y3 k3'
  clear k3 k3'
  by_cases hw : waysE f.ways = 0
  case neg =>
    have hE1 : fileE f = waysE f.ways := by unfold fileE; rw [if_neg (by rw [unhide HID]; decide), if_neg (by rw [unhide HA]; decide), if_pos hw]
    have HQ := hide (And.intro ((unhide HE).trans hE1) ((unhide HS).trans (by unfold fileS; rw [hE1, if_neg hw])))
    have HBZ := hide ((unhide HB1).trans ((unhide HK3).mono (unhide HB1).size))
    have hab : (waysE f.ways == 0) = false := by simpa using hw
    have hab' : (waysE f.ways != 0) = true := by simpa using hw
    generalize waysE f.ways = ae at *
    clear hw hE1
    go_wp2
    go_ret2
    exact ⟨retPT (unhide HQ).2.symm (unhide HQ).1.symm, unhide HBZ⟩
  have HWY := hide hw
  rw [hw]
  clear hw
  go_wp2_with fail
  refine (unhide NF _ (unhide HK3)).mono ?_
  rintro e y4 ⟨rfl, k4⟩
  have k4' := (unhide HK3).trans (k4.mono (unhide HK3).size)
  have HK4 := hide k4'
  obtain ⟨c0, c1, c6, c7, c8, c9, c10, c11, c12⟩ := unhide HC y4 k4'
  clear k4 k4'
  by_cases hr : fieldsE f.row = 0
  case neg =>
    have hE1 : fileE f = fieldsE f.row := by unfold fileE; rw [if_neg (by rw [unhide HID]; decide), if_neg (by rw [unhide HA]; decide), if_neg (by rw [unhide HWY]; decide), if_pos hr]
    have HQ := hide (And.intro ((unhide HE).trans hE1) ((unhide HS).trans (by unfold fileS; rw [hE1, if_neg hr])))
    have HBZ := hide ((unhide HB1).trans ((unhide HK4).mono (unhide HB1).size))
    have hab : (fieldsE f.row == 0) = false := by simpa using hr
    have hab' : (fieldsE f.row != 0) = true := by simpa using hr
    generalize fieldsE f.row = ae at *
    clear hr hE1
    go_wp2
    go_ret2
    exact ⟨retPT (unhide HQ).2.symm (unhide HQ).1.symm, unhide HBZ⟩
  have HFR := hide hr
  rw [hr]
  clear hr
  go_wp2_with fail
  refine (unhide NM _).mono ?_
  rintro e y5 ⟨rfl, k5⟩
  have k5' := (unhide HK4).trans (k5.mono (unhide HK4).size)
  have HK5 := hide k5'
  obtain ⟨c0, c1, c6, c7, c8, c9, c10, c11, c12⟩ := unhide HC y5 k5'
  clear k5 k5'
  have hE9 : fileE f = masksE f.md f.mo f.mf := by unfold fileE; rw [if_neg (by rw [unhide HID]; decide), if_neg (by rw [unhide HA]; decide), if_neg (by rw [unhide HWY]; decide), if_neg (by rw [unhide HFR]; decide)]
  by_cases hm : masksE f.md f.mo f.mf = 0
  case neg =>
    have HQ := hide (And.intro ((unhide HE).trans hE9) ((unhide HS).trans (by unfold fileS; rw [hE9, if_neg hm])))
    have HBZ := hide ((unhide HB1).trans ((unhide HK5).mono (unhide HB1).size))
    have hab : (masksE f.md f.mo f.mf == 0) = false := by simpa using hm
    have hab' : (masksE f.md f.mo f.mf != 0) = true := by simpa using hm
    generalize masksE f.md f.mo f.mf = ae at *
    clear hm hE9
    go_wp2
    go_ret2
    exact ⟨retPT (unhide HQ).2.symm (unhide HQ).1.symm, unhide HBZ⟩
  have HQ := hide (And.intro ((unhide HE).trans (hE9.trans hm)) ((unhide HS).trans (by unfold fileS; rw [hE9, if_pos hm])))
  rw [hm]
  clear hm hE9
  have hidz : f.id.size ≤ 19 := by
    have h1 := unhide HID
    unfold idB at h1
    have h2 := inT_true.1 (Bool.and_eq_true_iff.1 h1).1
    omega
  have hbk := fileL_bulk hidz (appsS_size (unhide HA)) (waysE_zero (unhide HWY)).1 (fieldsE_zero (unhide HFR)).2
  have NRW := hide (fun (W : World) => row_any (fileL f) (some ⟨W.heap.size, 0, none⟩) 5 (W.alloc (.cells #[.string f.id, .string (appsS f.apps), .string (wayT f.ways), .string (masksS f.md f.mo f.mf), .string (printS f.row)] 9)) (trow5 W _ _ _ _ _) hbk)
  have NT2 := hide (fun (W : World) (hb : Below W1.heap.size W1 W) => unhide NT W hb (unhide HWY))
  generalize rowS (fileL f) = R9 at *
  have hln : (fileL f).length = 5 := rfl
  rw [hln] at NRW
  generalize appsS f.apps = t1 at *
  generalize wayT f.ways = t2 at *
  generalize masksS f.md f.mo f.mf = t3 at *
  generalize printS f.row = t4 at *
  clear hidz hbk hln NT NM NF NW NA NI
  go_upto_region 15 with fail
  go_wp2_with fail
  go_region_law ((first
    | (refine step_call1T (by rfl) 37 _ _ (by rfl) (.slice (some ⟨z1.heap.size, 0, none⟩) 5 5) (by rfl) ent_row (unhide NRW z1) ?_; rintro ev z2 ⟨rfl, j2⟩; refine ⟨_, rfl, ?_⟩)
    | (refine step_call1T (by rfl) 38 _ _ (by rfl) (.agg #[.int .i64 f.ways.x, .int .i64 f.ways.y, .slice f.ways.listo f.ways.list.length f.ways.listc]) (by rfl) ent_waysText (unhide NT2 _ (unhide HK5).drew) ?_; rintro ev z1 ⟨rfl, j1⟩; refine ⟨_, rfl, ?_⟩; have j1' : Below W1.heap.size W1 z1 := ((unhide HK5).drew).trans (j1.mono (unhide HK5).size); have e0 := (unhide HC z1 j1').1)
    | fail))
  all_goals
    have jz : Below w.heap.size w z2 := (unhide HB1).trans (((j1'.alloc j1'.size _).trans (j2.mono (j1'.alloc j1'.size _).size)).mono (unhide HB1).size)
    have HJZ := hide jz
    clear j1 j1' j2 jz e0
    go_wp2
    go_ret2
    exact ⟨retPT (unhide HQ).2.symm (unhide HQ).1.symm, unhide HJZ⟩
end Go.Proofs.YtfpglpefofcdeaaGreatDoor
