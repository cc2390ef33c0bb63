/- Row of the program: the library's Builder. -/
import Derived.Test.YtfpglpefofcdeaaGreatDoorM10
import Derived.Laws.AppendOwn
import Derived.Test.YtfpglpefofcdeaaGreatDoorM01
import Derived.Test.YtfpglpefofcdeaaGreatDoorM03
import Derived.Test.YtfpglpefofcdeaaGreatDoorM07
import Derived.Deep.RegionLaw
import Derived.Test.YtfpglpefofcdeaaGreatDoorM06
import Derived.Deep.QuietTactic
import Derived.BigQuiet
import Derived.Deep.DeepCutAuto
import Derived.Deep.CutBlock
namespace Go.Proofs.YtfpglpefofcdeaaGreatDoor
open Go.RowKit Go.Shelf
set_option linter.unusedVariables false

theorem infoByteW : (Tryz.prog.info? 5).map (fun i => (i.zero, i.size, i.bytes)) = some (some (.int .u8 0), 1, 1) := by kernel_rfl
theorem copyCheck_any (B b : Nat) (bs : List Value) (w : World) (h : Lib.IsBuilder 126 5 B b bs w) :
    Calls Tryz.prog 115 #[.pointer (some ⟨b, 0, none⟩)] w fun e w' => e = .returned (.tuple #[]) ∧ (Lib.BuilderAt 126 5 B b (.pointer (some ⟨b, 0, none⟩)) bs w' ∧ Below B w w') ∧ ∀ g, g ≠ b → w'.heap[g]? = w.heap[g]? := by
  rcases h with h | h
  · refine (Any.Builder_copyCheck_fresh { Tryz.laysB166 with } Tryz.Builder_ExtraB.toX72 b w h.cell0 h.shape h.frozen0).mono ?_
    rintro e w' ⟨rfl, rfl⟩
    exact ⟨rfl, ⟨h.used _, (Below.refl B w).setCell (p := ⟨b, 0, none⟩) h.1 _⟩, fun g hg => by simp [World.setCell, Array.getElem?_modify, Ne.symm hg]⟩
  · refine (Any.Builder_copyCheck_used { Tryz.laysB166 with } Tryz.Builder_ExtraB.toX72 b w h.cell0).mono ?_
    rintro e w' ⟨rfl, rfl⟩
    exact ⟨rfl, ⟨h, Below.refl B _⟩, fun g hg => rfl⟩
theorem cell_heap {w w' : World} {a : Addr} {v : Value} (h : w.cell? a = some v) (hh : w'.heap[a.block]? = w.heap[a.block]?) : w'.cell? a = some v := by
  unfold World.cell? at *
  rw [hh]
  exact h

set_option maxHeartbeats 2000000 in
set_option maxRecDepth 100000 in
theorem writeB_any (B b : Nat) (bs : List Value) (g m c : Nat) (news : List Value) (w : World) (h : Lib.IsBuilder 126 5 B b bs w)
    (hl : news.length = m) (hnews : ∀ j u, news[j]? = some u → w.cell? ((⟨g, 0, none⟩ : Addr).add j) = some u) (hgb : g ≠ b) (h1 : ∀ u ∈ news, u.oneCell' = true)
    (hlen : bs.length + m ≤ 140737488355328) (hBw : B ≤ w.heap.size) :
    Calls Tryz.prog 74 #[.pointer (some ⟨b, 0, none⟩), .slice (some ⟨g, 0, none⟩) m c] w fun e w' => e = .returned (.tuple #[.int .i64 m, .nilIface]) ∧ (Lib.BuilderAt 126 5 B b (.pointer (some ⟨b, 0, none⟩)) (bs ++ news) w' ∧ Below B w w') := by
  obtain ⟨i0, hi, hz0, hz1, hz2⟩ := info_parts infoByteW
  go_enter Tryz.func74, Tryz.ntmps74
  go_wp2_with (go_at_call 115; refine (copyCheck_any B b bs _ h).mono ?_)
  rintro e w1 ⟨rfl, ⟨h1', hb1⟩, hoth⟩
  obtain ⟨hB, v, hbk, hown, hne⟩ := h1'
  have c0 : w1.cell? ⟨b, 0, none⟩ = some (.pointer (some ⟨b, 0, none⟩)) := by rw [Lib.cell_of_heap hbk]; rfl
  have c1 : w1.cell? ⟨b, 1, none⟩ = some v := by rw [Lib.cell_of_heap hbk]; rfl
  have hnews1 : ∀ j u, news[j]? = some u → w1.cell? ((⟨g, 0, none⟩ : Addr).add j) = some u := fun j u hj => cell_heap (hnews j u hj) (by
    rw [show ((⟨g, 0, none⟩ : Addr).add j).block = g by unfold Addr.add; split <;> rfl]
    exact hoth g hgb)
  have HO := hide hoth
  have HN := hide hnews1
  clear hoth hnews hnews1
  go_wp2_with (at_builtin; refine wpList_append_own _ rfl _ _ 104 rfl B 5 i0 (.int .u8 0) 1 1 Tryz.underlying104 hi hz0 hz1 hz2 rfl (by decide) _ _ _ rfl hown ⟨g, 0, none⟩ m c news rfl (by omega) (unhide HN) h1 ?c3 ?c4 ?c5 ?_)
  case c3 => unfold maxLen; omega
  case c4 => omega
  case c5 => have := hb1.size; omega
  intro v' w2 hown' hgrow _
  have hlt : b < w1.heap.size := by
    rcases Nat.lt_or_ge b w1.heap.size with h' | h'
    · exact h'
    · simp [Array.getElem?_eq_none h'] at hbk
  have hb2 : w2.heap[b]? = some (.cells #[.pointer (some ⟨b, 0, none⟩), v] 126 (0, 0)) := by
    rw [hgrow.block b hlt (fun e => hne e.symm)]
    exact hbk
  have d0 : w2.cell? ⟨b, 0, none⟩ = some (.pointer (some ⟨b, 0, none⟩)) := by rw [Lib.cell_of_heap hb2]; rfl
  have d1 : w2.cell? ⟨b, 1, none⟩ = some v := by rw [Lib.cell_of_heap hb2]; rfl
  have f1 : w2.frozen? ⟨b, 1, none⟩ = false := Lib.frozen_of_heap hb2 1
  obtain ⟨ao, n', cap, rfl⟩ : ∃ ao n' cap, v' = .slice ao n' cap := by
    rcases hown'.2 with ⟨hv, _⟩ | ⟨g, cap, cur, hv, _⟩
    · exact ⟨_, _, _, hv⟩
    · exact ⟨_, _, _, hv⟩
  go_wp2
  go_ret2
  refine ⟨rfl, ?_, ?_⟩
  · exact Lib.BuilderAt.put (T := 126) (e := 5) hB hb2 (bs' := bs ++ news) (by simpa [hl] using hown') Tryz.Builder_ExtraB.neB5
  · exact (hb1.grown hgrow (by have := hb1.size; omega) (fun k hk => (hown.lt k hk).1)).setCell (p := ⟨b, 1, none⟩) hB _

theorem writeS_any (B b : Nat) (bs : List Value) (s : ByteArray) (w : World) (h : Lib.IsBuilder 126 5 B b bs w) (hlen : bs.length + s.size ≤ 140737488355328) (hBw : B ≤ w.heap.size) :
    Calls Tryz.prog 75 #[.pointer (some ⟨b, 0, none⟩), .string s] w fun e w' => e = .returned (.tuple #[.int .i64 s.size, .nilIface]) ∧ (Lib.BuilderAt 126 5 B b (.pointer (some ⟨b, 0, none⟩)) (bs ++ Lib.strCells s) w' ∧ Below B w w') :=
  Any.Builder_WriteString { Tryz.laysB166 with } Tryz.Builder_ExtraB B b bs s w h hlen hBw
theorem builderS_any (B b : Nat) (l : List UInt8) (w : World) (h : Lib.IsBuilder 126 5 B b (Lib.byteCells l) w) (hBw : B ≤ w.heap.size) :
    Calls Tryz.prog 76 #[.pointer (some ⟨b, 0, none⟩)] w fun e w' => e = .returned (.string ⟨l.toArray⟩) ∧ Below B w w' :=
  Any.Builder_String_any { Tryz.laysB169 with } Tryz.Builder_ExtraB B b l w h hBw
end Go.Proofs.YtfpglpefofcdeaaGreatDoor
namespace Go.Proofs.YtfpglpefofcdeaaGreatDoor
open Go.RowKit Go.Shelf
set_option linter.unusedVariables false

theorem rowL_take (fs : List ByteArray) (k : Nat) (s : ByteArray) (h : fs[k]? = some s) : rowL (fs.take (k + 1)) = rowL (fs.take k) ++ partL s := by
  rw [List.take_add_one, h, rowL_append]
  simp [rowL]
theorem rowN_take (fs : List ByteArray) (k : Nat) : rowN (fs.take k) ≤ rowN fs := by
  rw [← rowL_length, ← rowL_length]
  conv => rhs; rw [← List.take_append_drop k fs]
  rw [rowL_append, List.length_append]
  omega
theorem rowN_bulk (fs : List ByteArray) : rowN fs ≤ 4 * bulkT fs := by
  induction fs with
  | nil => simp [rowN]
  | cons p r ih => simp only [rowN, bulkT]; omega
def bigCells (n : Nat) : List Value := (bigL n 4).map (Value.int .u8)
theorem byteCells_append (a b : List UInt8) : Lib.byteCells (a ++ b) = Lib.byteCells a ++ Lib.byteCells b := by simp [Lib.byteCells]
theorem byteCells_big (n : Nat) : Lib.byteCells (bytesOf (bigL n 4)) = bigCells n := by
  unfold Lib.byteCells bytesOf bigCells
  rw [List.map_map]
  apply List.map_congr_left
  intro z hz
  obtain ⟨h0, h1⟩ := bigL_bytes n 4 z hz
  simp only [Function.comp]
  rw [UInt8.toNat_ofNat']
  congr 1
  omega
theorem byteCells_part (l : List UInt8) (s : ByteArray) : Lib.byteCells (l ++ partL s) = Lib.byteCells l ++ bigCells s.size ++ Lib.strCells s := by
  rw [partL, byteCells_append, byteCells_append, byteCells_big, List.append_assoc]
  rfl

theorem bigCells_small (n : Nat) (h : (n : Int) ≤ 4194304) : bigCells n = [.int .u8 ((n : Int) / 16777216), .int .u8 ((n : Int) / 65536), .int .u8 ((n : Int) / 256 % 256), .int .u8 ((n : Int) % 256)] := by
  have e3 : ((n / 256 ^ 3 % 256 : Nat) : Int) = (n : Int) / 16777216 := by omega
  have e2 : ((n / 256 ^ 2 % 256 : Nat) : Int) = (n : Int) / 65536 := by omega
  have e1 : ((n / 256 ^ 1 % 256 : Nat) : Int) = (n : Int) / 256 % 256 := by omega
  have e0 : ((n / 256 ^ 0 % 256 : Nat) : Int) = (n : Int) % 256 := by omega
  simp only [bigCells, bigL, List.map_cons, List.map_nil, e3, e2, e1, e0]
theorem news_new (w : World) (xs : List Value) (e : TypeId) : ∀ j u, xs[j]? = some u → (w.alloc (.cells xs.toArray e)).cell? ((⟨w.heap.size, 0, none⟩ : Addr).add j) = some u := by
  intro j u hj
  have hg := heap_alloc_new w (.cells xs.toArray e)
  rw [show (⟨w.heap.size, 0, none⟩ : Addr).add j = ⟨w.heap.size, 0 + j, none⟩ from by unfold Addr.add; split <;> simp_all, Nat.zero_add, cell_of_row _ _ j _ e _ hg]
  simpa using hj
theorem builderAt_alloc {T e : TypeId} {B b : Nat} {p : Value} {bs : List Value} {w : World} (h : Lib.BuilderAt T e B b p bs w) (o : Obj) : Lib.BuilderAt T e B b p bs (w.alloc o) := by
  obtain ⟨hB, v, hbk, hown, hne⟩ := h
  have hlt : b < w.heap.size := by
    rcases Nat.lt_or_ge b w.heap.size with h' | h'
    · exact h'
    · simp [Array.getElem?_eq_none h'] at hbk
  exact ⟨hB, v, by rw [Lib.alloc_old w o b hlt]; exact hbk, hown.alloc _, hne⟩
theorem isBuilder_alloc {T e : TypeId} {B b : Nat} {bs : List Value} {w : World} (h : Lib.IsBuilder T e B b bs w) (o : Obj) : Lib.IsBuilder T e B b bs (w.alloc o) := by
  rcases h with h | h
  · exact .inl (builderAt_alloc h o)
  · exact .inr (builderAt_alloc h o)
theorem bigCells_one (n : Nat) : ∀ u ∈ bigCells n, u.oneCell' = true := by
  intro u hu
  obtain ⟨z, _, rfl⟩ := List.mem_map.1 hu
  rfl
theorem bigCells_length (n : Nat) : (bigCells n).length = 4 := by simp [bigCells, bigL_length]

set_option maxHeartbeats 4000000 in
set_option maxRecDepth 100000 in
theorem row_any (fs : List ByteArray) (ao : Option Addr) (cap : Nat) (w : World) (hr : TRow w ao fs) (hb : bulkT fs ≤ 4194304) :
    Calls Tryz.prog 37 #[.slice ao fs.length cap] w fun e w' => e = .returned (.string (rowS fs)) ∧ Below w.heap.size w w' := by
  have hN := rowN_bulk fs
  have hfl : (fs.length : Int) ≤ 4194304 := by have := bulkT_length fs; omega
  have hmem : ∀ s ∈ fs, (s.size : Int) ≤ 4194304 := fun s hs => by have := bulkT_mem hs; omega
  have HM := hide hmem
  have HN := hide (show rowN fs ≤ 16777216 by omega)
  have HR := hide hr
  clear hmem hb hN hr
  go_enter Tryz.func37, Tryz.ntmps37
  go_wp2
  have hfr := Lib.fresh_isBuilder 126 5 w
  obtain ⟨hbel, q0, hsz⟩ : Below w.heap.size w (w.alloc (.cells #[.pointer none, .slice none 0 0] 126)) ∧ True ∧ (w.alloc (.cells #[.pointer none, .slice none 0 0] 126)).heap.size = w.heap.size + 1 := ⟨(Below.refl _ _).alloc (Nat.le_refl _) _, trivial, by simp⟩
  generalize w.alloc _ = W at hfr hbel hsz ⊢
  go_loopw [9] (fun i wr => ∃ k : Nat, k ≤ fs.length ∧ i = .int .i64 k ∧ Lib.IsBuilder 126 5 w.heap.size w.heap.size (Lib.byteCells (rowL (fs.take k))) wr ∧ w.heap.size < wr.heap.size ∧ Below w.heap.size w wr) (fun i _ => fs.length - (intOf i).toNat)
  case atStart => exact ⟨0, Nat.zero_le _, rfl, hfr, by omega, hbel⟩
  case round =>
    obtain ⟨k, hk, rfl, hB, hlt0, hbel⟩ := hrel
    by_cases hlt : k < fs.length
    · obtain ⟨s, hs⟩ : ∃ s, fs[k]? = some s := ⟨fs[k], List.getElem?_eq_getElem hlt⟩
      rcases (unhide HR) with hnil | ⟨b, off, rfl, hb, hc⟩
      · rw [hnil] at hlt; simp at hlt
      have c0 : wr.cell? ⟨b, off + k, none⟩ = some (.string s) := (hbel.cell (p := ⟨b, off + k, none⟩) hb).trans (hc k s hs)
      have hsz1 := (unhide HM) s (List.mem_of_getElem? hs)
      have hstep := rowL_take fs k s hs
      have hki : (k : Int) < (fs.length : Int) := by omega
      have HST := hide hstep
      have HIB := hide hB
      have HW := hide hbel
      clear hstep hB hbel hc hs hfr
      have hsl : s.size ≤ 4194304 := by omega
      have hRL : (Lib.byteCells (rowL (fs.take k))).length ≤ 16777216 := by
        rw [Lib.byteCells_length, rowL_length]
        exact Nat.le_trans (rowN_take fs k) (unhide HN)
      generalize rowL (fs.take k) = RL at *
      have hbc := byteCells_part RL s
      rw [← unhide HST] at hbc
      have hne : wr.heap.size ≠ w.heap.size := by omega
      have H1 := hide (writeB_any w.heap.size w.heap.size (Lib.byteCells RL) wr.heap.size 4 4 (bigCells s.size) (wr.alloc (.cells (bigCells s.size).toArray 5)) (isBuilder_alloc (unhide HIB) _) (bigCells_length _) (news_new _ _ _) hne (bigCells_one _) (by omega) (by simp; omega))
      have H2 := hide (fun w' (h : Lib.IsBuilder 126 5 w.heap.size w.heap.size (Lib.byteCells RL ++ bigCells s.size) w') hw => writeS_any w.heap.size w.heap.size (Lib.byteCells RL ++ bigCells s.size) s w' h (by rw [List.length_append, bigCells_length]; omega) hw)
      rw [← hbc] at H2
      rw [bigCells_small s.size hsz1] at H1
      have HA := hide (Below.alloc (unhide HW) (Nat.le_of_lt hlt0) (.cells [.int .u8 ((s.size : Int) / 16777216), .int .u8 ((s.size : Int) / 65536), .int .u8 ((s.size : Int) / 256 % 256), .int .u8 ((s.size : Int) % 256)].toArray 5))
      have HBC := hide (bigCells_small s.size hsz1)
      clear hbc hRL HST HIB HW hsl
      go_wp2_with fail
      refine (unhide H1).mono ?_
      rintro e w1 ⟨rfl, hB1, b1⟩
      rw [← unhide HBC] at hB1
      have hs1 : w.heap.size < w1.heap.size := by have := b1.size; simp at this; omega
      have B1 := hide hB1
      have W1 := hide ((unhide HA).trans b1)
      clear H1 HA hB1 b1 HBC c0
      go_wp2_with fail
      refine (unhide H2 _ (.inr (unhide B1)) (Nat.le_of_lt hs1)).mono ?_
      rintro e w2 ⟨rfl, hB2, b2⟩
      have hs2 : w.heap.size < w2.heap.size := Nat.lt_of_lt_of_le hs1 b2.size
      have B2 := hide hB2
      have W2 := hide ((unhide W1).trans b2)
      clear hB2 b2 W1 B1 H2
      go_wp2
      go_roundw
      case rel => exact ⟨k + 1, by omega, by go_num, .inr (unhide B2), hs2, unhide W2⟩
      case measure => simp [intOf]; omega
    · rw [List.take_of_length_le (by omega)] at hB
      have H3 := hide (builderS_any w.heap.size w.heap.size (rowL fs) wr hB (Nat.le_of_lt hlt0))
      have HW := hide hbel
      clear hB hbel hfr
      go_wp2_with fail
      refine (unhide H3).mono ?_
      rintro e w1 ⟨rfl, b1⟩
      go_wp2
      go_ret
      exact ⟨rfl, (unhide HW).trans b1⟩
end Go.Proofs.YtfpglpefofcdeaaGreatDoor
namespace Go.Proofs.YtfpglpefofcdeaaGreatDoor
open Go.RowKit
set_option linter.unusedVariables false
set_option linter.unusedSimpArgs false
set_option maxRecDepth 100000

/-- a file -/
structure Fl where
  id : ByteArray
  apo : Option Addr
  apps : List XApp
  apc : Nat
  isig : ByteArray
  irest : ByteArray
  csig : ByteArray
  crest : ByteArray
  ways : XWays
  md : Int
  mo : Int
  mf : Int
  ro : Option Addr
  row : List (Int × Int)
  rc : Nat
def flC (f : Fl) : Array Value := #[.string f.id, .slice f.apo f.apps.length f.apc, .string f.isig, .string f.irest, .string f.csig, .string f.crest, .int .i64 f.ways.x, .int .i64 f.ways.y, .slice f.ways.listo f.ways.list.length f.ways.listc, .int .i64 f.md, .int .i64 f.mo, .int .i64 f.mf, .slice f.ro f.row.length f.rc]
structure FlOK (w : World) (f : Fl) : Prop where
  idz : f.id.size ≤ maxLen
  apps : RowApp w f.apo f.apps
  ways : RowWay w f.ways.listo f.ways.list
  row : FRow w f.ro f.row
  nums : FNums f.row
  len : (f.row.length : Int) ≤ 9000000000000
  md : f.md ≤ 9223372036854775807
  mo : f.mo ≤ 9223372036854775807
  mf : f.mf ≤ 9223372036854775807
theorem FlOK.below {w w' : World} {f : Fl} (h : FlOK w f) (hb : Below w.heap.size w w') : FlOK w' f := ⟨h.idz, h.apps.below hb, h.ways.below hb, h.row.below hb, h.nums, h.len, h.md, h.mo, h.mf⟩
def fileE (f : Fl) : Int := if idB f.id = false then 1 else if appsE f.apps ≠ 0 then appsE f.apps else if waysE f.ways ≠ 0 then waysE f.ways else if fieldsE f.row ≠ 0 then fieldsE f.row else masksE f.md f.mo f.mf
def fileL (f : Fl) : List ByteArray := [f.id, appsS f.apps, wayT f.ways, masksS f.md f.mo f.mf, printS f.row]
def fileS (f : Fl) : ByteArray := if fileE f = 0 then rowS (fileL f) else ⟨#[]⟩
theorem step_call1T {P : Program} {ops : Array Oper} {o : Oper} {a : Act} {w : World} {K : Act → World → Prop} {Q : Exit → Act → World → Prop} {E : Prop} (hw : Region.wanted o (yielded ops a.tmps) = true) (f : FuncId) (x : Operand) (ts : Array TypeId)
    (ho : o.op = .call { callee := .value (.func f), args := #[x], argTypes := ts }) (v : Value) (hx : a.eval x = v) (hf : ∀ args w, (callFunc f args).run P w = .ok (.enter f args) w)
    {S : Ending → World → Prop} (hc : Calls P f #[v] w S) (hv : ∀ e w', S e w' → ∃ v, e = .returned v ∧ K (a.put o.dst v) w') :
    if Region.wanted o (yielded ops a.tmps) = true then Oper.wp P o a w K Q else E := by
  rw [if_pos hw]
  obtain ⟨dst, op, ty, pos, after, guard⟩ := o
  cases ho
  have hrun : (execOp a.eval { dst, op := .call { callee := .value (.func f), args := #[x], argTypes := ts }, type := ty, pos, after, guard }).run P w = .ok (.enter f #[v]) w := by
    show (callFunc f (#[] ++ #[x].map a.eval ++ #[])).run P w = _
    have e : (#[] ++ #[x].map a.eval ++ #[]) = #[v] := by simp [hx]
    rw [e]; exact hf _ _
  unfold Oper.wp
  rw [hrun, Oper.upon_enter]
  refine hc.mono fun e w' hh => ?_
  obtain ⟨v, rfl, hk⟩ := hv e w' hh
  exact hk
theorem ent_waysText (args : Array Value) (w : World) : (callFunc 38 args).run Tryz.prog w = .ok (.enter 38 args) w := by kernel_rfl
theorem ent_row (args : Array Value) (w : World) : (callFunc 37 args).run Tryz.prog w = .ok (.enter 37 args) w := by kernel_rfl
theorem retPT {s t : ByteArray} {a b : Int} (h1 : s = t) (h2 : a = b) : Ending.returned (.tuple #[.string s, .int .i64 a]) = .returned (.tuple #[.string t, .int .i64 b]) := by rw [h1, h2]
theorem trow5 (w : World) (a b c d e : ByteArray) : TRow (w.alloc (.cells #[.string a, .string b, .string c, .string d, .string e] 9)) (some ⟨w.heap.size, 0, none⟩) [a, b, c, d, e] := by
  refine .inr ⟨w.heap.size, 0, rfl, by simp, fun i s hs => ?_⟩
  have hX := heap_alloc_new w (.cells #[.string a, .string b, .string c, .string d, .string e] 9)
  have hi := (List.getElem?_eq_some_iff.1 hs).1
  simp only [List.length_cons, List.length_nil] at hi
  have : i = 0 ∨ i = 1 ∨ i = 2 ∨ i = 3 ∨ i = 4 := by omega
  generalize w.alloc (.cells #[.string a, .string b, .string c, .string d, .string e] 9) = W at hX ⊢
  rcases this with rfl | rfl | rfl | rfl | rfl <;> simp at hs <;> subst hs <;> simp only [World.cell?, hX] <;> rfl
theorem fileE_id {f : Fl} (h : idB f.id = false) : fileE f = 1 := by unfold fileE; rw [if_pos h]
theorem fileL_bulk {f : Fl} (h1 : f.id.size ≤ 19) (h2 : (appsS f.apps).size ≤ 65535) (h3 : f.ways.list.length ≤ 20) (h4 : f.row.length ≤ 100) : bulkT (fileL f) ≤ 4194304 := by
  have e1 : (wayT f.ways).size ≤ 76 := by
    unfold wayT
    rw [ByteArray.size_append, ByteArray.size_append, strOfNums_size, wayL_len]
    have := numS_size f.ways.x 8; have := numS_size f.ways.y 8; omega
  have e2 : (masksS f.md f.mo f.mf).size ≤ 24 := by
    unfold masksS
    split
    · rw [ByteArray.size_append, ByteArray.size_append]
      have := numS_size f.md 2; have := numS_size f.mo 2; have := numS_size f.mf 2; omega
    · exact Nat.zero_le _
  have e3 : (printS f.row).size ≤ 400 := by
    unfold printS
    split
    · rw [strOfNums_size]; have := textL_length f.row; omega
    · exact Nat.zero_le _
  simp only [fileL, bulkT]
  omega
theorem appsS_size {l : List XApp} (h : appsE l = 0) : (appsS l).size ≤ 65535 := by
  have hE := printsE_apps h
  cases hm : measD 2 (l.map itemI) with
  | none => rw [hm] at hE; cases hE
  | some sp =>
    obtain ⟨s, p⟩ := sp
    have hE2 := hE
    rw [hm] at hE
    have h1 : (if 8 < p ∨ 65535 < s then (2 : Int) else 0) = 0 := hE
    by_cases hc : 8 < p ∨ 65535 < s
    · rw [if_pos hc] at h1; cases h1
    · have e : appsS l = strOfNums (textD 2 (l.map itemI)) := by
        unfold appsS
        rw [if_pos h]
        unfold appsT printsS
        rw [printsE_apps h, if_pos rfl]
      rw [e, strOfNums_size, meas_text 2 _ _ _ hm]
      omega
set_option maxHeartbeats 8000000 in
theorem fileText_any (f : Fl) (w : World) (hf : FlOK w f) : Calls Tryz.prog 9 #[.agg (flC f)] w fun e w' => e = .returned (.tuple #[.string (fileS f), .int .i64 (fileE f)]) ∧ Below w.heap.size w w' := by
  obtain ⟨W1, hW1⟩ : ∃ W1, W1 = w.alloc (.cells (flC f) 33) := ⟨_, rfl⟩
  have hB1 : Below w.heap.size w W1 := by rw [hW1]; exact (Below.refl _ _).alloc (Nat.le_refl _) _
  have hX1 : W1.heap[w.heap.size]? = some (.cells (flC f) 33) := by rw [hW1]; exact heap_alloc_new _ _
  have hf1 := hf.below hB1
  have hC : ∀ wx, Below W1.heap.size W1 wx → wx.cell? ⟨w.heap.size, 0, none⟩ = some (.string f.id) ∧ wx.cell? ⟨w.heap.size, 1, none⟩ = some (.slice f.apo f.apps.length f.apc) ∧ wx.cell? ⟨w.heap.size, 6, none⟩ = some (.int .i64 f.ways.x) ∧ wx.cell? ⟨w.heap.size, 7, none⟩ = some (.int .i64 f.ways.y) ∧ wx.cell? ⟨w.heap.size, 8, none⟩ = some (.slice f.ways.listo f.ways.list.length f.ways.listc) ∧ wx.cell? ⟨w.heap.size, 9, none⟩ = some (.int .i64 f.md) ∧ wx.cell? ⟨w.heap.size, 10, none⟩ = some (.int .i64 f.mo) ∧ wx.cell? ⟨w.heap.size, 11, none⟩ = some (.int .i64 f.mf) ∧ wx.cell? ⟨w.heap.size, 12, none⟩ = some (.slice f.ro f.row.length f.rc) := fun wx hb => by
    have x1 := (hb.block _ (Array.getElem?_eq_some_iff.1 hX1).1).trans hX1
    unfold flC at x1
    refine ⟨?_, ?_, ?_, ?_, ?_, ?_, ?_, ?_, ?_⟩ <;> simp [World.cell?, x1]
  have NI := hide (fun W => isId_any f.id W hf.idz)
  have NA := hide (fun (W : World) (hb : Below W1.heap.size W1 W) => pprint_any f.apps f.apo f.apc W (hf1.apps.below hb))
  have NW := hide (fun (W : World) (hb : Below W1.heap.size W1 W) => checkWays_any f.ways W (hf1.ways.below hb))
  have NF := hide (fun (W : World) (hb : Below W1.heap.size W1 W) => printF_all f.row f.ro f.rc W (hf1.row.below hb) hf.nums hf.len)
  have NM := hide (fun (W : World) => masksText_any f.md f.mo f.mf W hf.md hf.mo hf.mf)
  have NT := hide (fun (W : World) (hb : Below W1.heap.size W1 W) (he : waysE f.ways = 0) => waysText_any f.ways W (hf1.ways.below hb) he)
  obtain ⟨E, hE⟩ : ∃ E, E = fileE f := ⟨_, rfl⟩
  obtain ⟨S, hS⟩ : ∃ S, S = fileS f := ⟨_, rfl⟩
  have HE := hide hE; have HS := hide hS; have HC := hide hC; have HB1 := hide hB1; have HW1 := hide hW1
  obtain ⟨c0, c1, c6, c7, c8, c9, c10, c11, c12⟩ := hC W1 (Below.refl _ _)
  unfold valWays at NW NT
  rw [← hE, ← hS]
  unfold flC
  unfold flC at HW1
  clear hf hf1 hX1 hB1 hC hE hS hW1
  go_enter Tryz.func9, Tryz.ntmps9
  go_upto_region 1 with fail
  rw [← unhide HW1]
  go_wp2_with fail
  refine (unhide NI _).mono ?_
  rintro e y1 ⟨rfl, k1⟩
  have HK1 := hide k1
  obtain ⟨c0, c1, c6, c7, c8, c9, c10, c11, c12⟩ := unhide HC y1 k1
  clear k1
  cases hid : idB f.id with
  | false =>
    have HQ := hide (And.intro ((unhide HE).trans (fileE_id hid)) ((unhide HS).trans (by unfold fileS; rw [fileE_id hid, if_neg (by decide)])))
    have HBZ := hide ((unhide HB1).trans ((unhide HK1).mono (unhide HB1).size))
    clear hid
    go_wp2
    go_ret2
    exact ⟨retPT (unhide HQ).2.symm (unhide HQ).1.symm, unhide HBZ⟩
  | true =>
  have HID := hide hid
  clear hid
  go_wp2_with fail
  refine (unhide NA _ (unhide HK1)).mono ?_
  rintro e y2 ⟨rfl, k2⟩
  have k2' := (unhide HK1).trans (k2.mono (unhide HK1).size)
  have HK2 := hide k2'
  obtain ⟨c0, c1, c6, c7, c8, c9, c10, c11, c12⟩ := unhide HC y2 k2'
  clear k2 k2'
  by_cases ha : appsE f.apps = 0
  case neg =>
    have hE1 : fileE f = appsE f.apps := by unfold fileE; rw [if_neg (by rw [unhide HID]; decide), if_pos ha]
    have HQ := hide (And.intro ((unhide HE).trans hE1) ((unhide HS).trans (by unfold fileS; rw [hE1, if_neg ha])))
    have HBZ := hide ((unhide HB1).trans ((unhide HK2).mono (unhide HB1).size))
    have hab : (appsE f.apps == 0) = false := by simpa using ha
    have hab' : (appsE f.apps != 0) = true := by simpa using ha
    generalize appsE f.apps = ae at *
    clear ha hE1
    go_wp2
    go_ret2
    exact ⟨retPT (unhide HQ).2.symm (unhide HQ).1.symm, unhide HBZ⟩
  have HA := hide ha
  rw [ha]
  clear ha
  go_wp2_with fail
  refine (unhide NW _ (unhide HK2)).mono ?_
  rintro e y3 ⟨rfl, k3⟩
  have k3' := (unhide HK2).trans (k3.mono (unhide HK2).size)
  have HK3 := hide k3'
  obtain ⟨c0, c1, c6, c7, c8, c9, c10, c11, c12⟩ := unhide HC y3 k3'
  clear k3 k3'
  by_cases hw : waysE f.ways = 0
  case neg =>
    have hE1 : fileE f = waysE f.ways := by unfold fileE; rw [if_neg (by rw [unhide HID]; decide), if_neg (by rw [unhide HA]; decide), if_pos hw]
    have HQ := hide (And.intro ((unhide HE).trans hE1) ((unhide HS).trans (by unfold fileS; rw [hE1, if_neg hw])))
    have HBZ := hide ((unhide HB1).trans ((unhide HK3).mono (unhide HB1).size))
    have hab : (waysE f.ways == 0) = false := by simpa using hw
    have hab' : (waysE f.ways != 0) = true := by simpa using hw
    generalize waysE f.ways = ae at *
    clear hw hE1
    go_wp2
    go_ret2
    exact ⟨retPT (unhide HQ).2.symm (unhide HQ).1.symm, unhide HBZ⟩
  have HWY := hide hw
  rw [hw]
  clear hw
  go_wp2_with fail
  refine (unhide NF _ (unhide HK3)).mono ?_
  rintro e y4 ⟨rfl, k4⟩
  have k4' := (unhide HK3).trans (k4.mono (unhide HK3).size)
  have HK4 := hide k4'
  obtain ⟨c0, c1, c6, c7, c8, c9, c10, c11, c12⟩ := unhide HC y4 k4'
  clear k4 k4'
  by_cases hr : fieldsE f.row = 0
  case neg =>
    have hE1 : fileE f = fieldsE f.row := by unfold fileE; rw [if_neg (by rw [unhide HID]; decide), if_neg (by rw [unhide HA]; decide), if_neg (by rw [unhide HWY]; decide), if_pos hr]
    have HQ := hide (And.intro ((unhide HE).trans hE1) ((unhide HS).trans (by unfold fileS; rw [hE1, if_neg hr])))
    have HBZ := hide ((unhide HB1).trans ((unhide HK4).mono (unhide HB1).size))
    have hab : (fieldsE f.row == 0) = false := by simpa using hr
    have hab' : (fieldsE f.row != 0) = true := by simpa using hr
    generalize fieldsE f.row = ae at *
    clear hr hE1
    go_wp2
    go_ret2
    exact ⟨retPT (unhide HQ).2.symm (unhide HQ).1.symm, unhide HBZ⟩
  have HFR := hide hr
  rw [hr]
  clear hr
  go_wp2_with fail
  refine (unhide NM _).mono ?_
  rintro e y5 ⟨rfl, k5⟩
  have k5' := (unhide HK4).trans (k5.mono (unhide HK4).size)
  have HK5 := hide k5'
  obtain ⟨c0, c1, c6, c7, c8, c9, c10, c11, c12⟩ := unhide HC y5 k5'
  clear k5 k5'
  have hE9 : fileE f = masksE f.md f.mo f.mf := by unfold fileE; rw [if_neg (by rw [unhide HID]; decide), if_neg (by rw [unhide HA]; decide), if_neg (by rw [unhide HWY]; decide), if_neg (by rw [unhide HFR]; decide)]
  by_cases hm : masksE f.md f.mo f.mf = 0
  case neg =>
    have HQ := hide (And.intro ((unhide HE).trans hE9) ((unhide HS).trans (by unfold fileS; rw [hE9, if_neg hm])))
    have HBZ := hide ((unhide HB1).trans ((unhide HK5).mono (unhide HB1).size))
    have hab : (masksE f.md f.mo f.mf == 0) = false := by simpa using hm
    have hab' : (masksE f.md f.mo f.mf != 0) = true := by simpa using hm
    generalize masksE f.md f.mo f.mf = ae at *
    clear hm hE9
    go_wp2
    go_ret2
    exact ⟨retPT (unhide HQ).2.symm (unhide HQ).1.symm, unhide HBZ⟩
  have HQ := hide (And.intro ((unhide HE).trans (hE9.trans hm)) ((unhide HS).trans (by unfold fileS; rw [hE9, if_pos hm])))
  rw [hm]
  clear hm hE9
  have hidz : f.id.size ≤ 19 := by
    have h1 := unhide HID
    unfold idB at h1
    have h2 := inT_true.1 (Bool.and_eq_true_iff.1 h1).1
    omega
  have hbk := fileL_bulk hidz (appsS_size (unhide HA)) (waysE_zero (unhide HWY)).1 (fieldsE_zero (unhide HFR)).2
  have NRW := hide (fun (W : World) => row_any (fileL f) (some ⟨W.heap.size, 0, none⟩) 5 (W.alloc (.cells #[.string f.id, .string (appsS f.apps), .string (wayT f.ways), .string (masksS f.md f.mo f.mf), .string (printS f.row)] 9)) (trow5 W _ _ _ _ _) hbk)
  have NT2 := hide (fun (W : World) (hb : Below W1.heap.size W1 W) => unhide NT W hb (unhide HWY))
  generalize rowS (fileL f) = R9 at *
  have hln : (fileL f).length = 5 := rfl
  rw [hln] at NRW
  generalize appsS f.apps = t1 at *
  generalize wayT f.ways = t2 at *
  generalize masksS f.md f.mo f.mf = t3 at *
  generalize printS f.row = t4 at *
  clear hidz hbk hln NT NM NF NW NA NI
  go_upto_region 15 with fail
  go_wp2_with fail
  go_region_law ((first
    | (refine step_call1T (by rfl) 37 _ _ (by rfl) (.slice (some ⟨z1.heap.size, 0, none⟩) 5 5) (by rfl) ent_row (unhide NRW z1) ?_; rintro ev z2 ⟨rfl, j2⟩; refine ⟨_, rfl, ?_⟩)
    | (refine step_call1T (by rfl) 38 _ _ (by rfl) (.agg #[.int .i64 f.ways.x, .int .i64 f.ways.y, .slice f.ways.listo f.ways.list.length f.ways.listc]) (by rfl) ent_waysText (unhide NT2 _ (unhide HK5).drew) ?_; rintro ev z1 ⟨rfl, j1⟩; refine ⟨_, rfl, ?_⟩; have j1' : Below W1.heap.size W1 z1 := ((unhide HK5).drew).trans (j1.mono (unhide HK5).size); have e0 := (unhide HC z1 j1').1)
    | fail))
  all_goals
    have jz : Below w.heap.size w z2 := (unhide HB1).trans (((j1'.alloc j1'.size _).trans (j2.mono (j1'.alloc j1'.size _).size)).mono (unhide HB1).size)
    have HJZ := hide jz
    clear j1 j1' j2 jz e0
    go_wp2
    go_ret2
    exact ⟨retPT (unhide HQ).2.symm (unhide HQ).1.symm, unhide HJZ⟩
end Go.Proofs.YtfpglpefofcdeaaGreatDoor
namespace Go.Proofs.YtfpglpefofcdeaaGreatDoor
open Go.RowKit
set_option linter.unusedVariables false

theorem dupTo_mono (ns : List (List UInt8)) (k n : Nat) (h : dupTo ns k = true) (hkn : k ≤ n) : dupTo ns n = true := by
  induction n with
  | zero => rw [show k = 0 by omega] at h; exact h
  | succ n ih =>
    by_cases hk : k = n + 1
    · rw [← hk]; exact h
    · rw [dupTo, ih (by omega), Bool.true_or]

set_option maxRecDepth 100000 in
set_option maxHeartbeats 4000000 in
theorem rapps_any (l : List XApp) (ao : Option Addr) (cap : Nat) (w : World) (hr : RowApp w ao l) :
    Calls Tryz.prog 56 #[.slice ao l.length cap] w fun e w' => e = .returned (.int .i64 (appsE l)) ∧ Below w.heap.size w w' := by
  by_cases hl : 20 < l.length
  · have HE : Hid (appsE l = 2) := hide (by rw [appsE, if_pos hl])
    clear hr
    go_enter Tryz.func56, Tryz.ntmps56
    go_wp2
    go_ret
    exact ⟨ret_int (unhide HE).symm, Below.refl _ _⟩
  · have hl' : l.length ≤ 20 := by omega
    have HE : Hid (appsE l = bif l.any misB then 1 else bif l.any prioB then 3 else bif dupTo (namesL l) l.length then 6 else 0) := hide (by rw [appsE, if_neg hl])
    have HR := hide hr
    clear hr hl
    go_enter Tryz.func56, Tryz.ntmps56
    go_wp2
    go_loopw [14] (fun i wr => ∃ k : Nat, k ≤ l.length ∧ i = .int .i64 k ∧ Hid ((l.take k).any misB = false) ∧ Below w.heap.size w wr) (fun i _ => l.length - (intOf i).toNat)
    case atStart => exact ⟨0, Nat.zero_le _, rfl, hide (by simp), Below.refl _ _⟩
    case round =>
      obtain ⟨k, hk, rfl, HA, hbw⟩ := hrel
      by_cases hlt : k < l.length
      · obtain ⟨x, hx⟩ : ∃ x, l[k]? = some x := ⟨_, List.getElem?_eq_getElem hlt⟩
        obtain ⟨hrr, _, _⟩ := (unhide HR).below hbw
        rcases hrr with hnil | ⟨b, off, rfl, hb, hc⟩
        · rw [hnil] at hlt; simp at hlt
        obtain ⟨d0, d1, d2, d3⟩ := hc k x hx
        have hs := anyP_take_succ l misB k x hx
        rw [unhide HA, Bool.false_or] at hs
        have HAL := hide (fun o : Obj => hbw.alloc hbw.size o)
        have he := empty_iff x.label
        have hyes : misB x = true → appsE l = 1 := fun h => by rw [unhide HE, anyP_of_take l misB (k + 1) (hs.trans h)]; rfl
        have HY := hide hyes; have HS := hide hs
        clear hc hx hyes hs hbw
        have hcase : x.name.size < 5 ∨ (5 ≤ x.name.size ∧ 16 < x.name.size) ∨ (5 ≤ x.name.size ∧ x.name.size ≤ 16 ∧ x.label.size = 0) ∨ (5 ≤ x.name.size ∧ x.name.size ≤ 16 ∧ x.label.size ≠ 0 ∧ 64 < x.label.size) ∨ (5 ≤ x.name.size ∧ x.name.size ≤ 16 ∧ x.label.size ≠ 0 ∧ x.label.size ≤ 64) := by omega
        rcases hcase with h1 | ⟨h1, h2⟩ | ⟨h1, h2, h3⟩ | ⟨h1, h2, h3, h4⟩ | ⟨h1, h2, h3, h4⟩
        · have HM := hide (unhide HY (decide_eq_true (.inl h1)))
          clear he
          go_wp2
          go_ret
          exact ⟨ret_int (unhide HM).symm, unhide HAL _⟩
        · have HM := hide (unhide HY (decide_eq_true (.inr (.inl h2))))
          clear he
          go_wp2
          go_ret
          exact ⟨ret_int (unhide HM).symm, unhide HAL _⟩
        · have HM := hide (unhide HY (decide_eq_true (.inr (.inr (.inl h3)))))
          rw [decide_eq_true h3] at he
          have H3 := hide h3
          clear h3
          go_wp2
          go_ret
          exact ⟨ret_int (unhide HM).symm, unhide HAL _⟩
        · have HM := hide (unhide HY (decide_eq_true (.inr (.inr (.inr h4)))))
          rw [decide_eq_false h3] at he
          clear h3
          go_wp2
          go_ret
          exact ⟨ret_int (unhide HM).symm, unhide HAL _⟩
        · have HS2 := hide ((unhide HS).trans (show misB x = false from decide_eq_false (by omega)))
          rw [decide_eq_false h3] at he
          clear h3
          go_wp2
          go_roundw
          case rel => exact ⟨k + 1, by omega, by go_num, HS2, unhide HAL _⟩
          case measure => simp [intOf]; omega
      · have hF : l.any misB = false := by have := unhide HA; rw [List.take_of_length_le (by omega)] at this; exact this
        have HE2 : Hid (appsE l = bif l.any prioB then 3 else bif dupTo (namesL l) l.length then 6 else 0) := hide (by rw [unhide HE, hF]; rfl)
        have hkl : k = l.length := by omega
        clear hF HA HE
        subst hkl
        clear hlt hk
        go_wp2
        go_loopw [42] (fun i wr => ∃ k : Nat, k ≤ l.length ∧ i = .int .i64 k ∧ Hid ((l.take k).any prioB = false) ∧ Below w.heap.size w wr) (fun i _ => l.length - (intOf i).toNat)
        case atStart => exact ⟨0, Nat.zero_le _, rfl, hide (by simp), hbw⟩
        case round =>
          clear hbw
          obtain ⟨k, hk, rfl, HA, hbw⟩ := hrel
          by_cases hlt : k < l.length
          · obtain ⟨x, hx⟩ : ∃ x, l[k]? = some x := ⟨_, List.getElem?_eq_getElem hlt⟩
            obtain ⟨hrr, _, _⟩ := (unhide HR).below hbw
            rcases hrr with hnil | ⟨b, off, rfl, hb, hc⟩
            · rw [hnil] at hlt; simp at hlt
            obtain ⟨d0, d1, d2, d3⟩ := hc k x hx
            have hs := anyP_take_succ l prioB k x hx
            rw [unhide HA, Bool.false_or] at hs
            have HAL := hide (fun o : Obj => hbw.alloc hbw.size o)
            have hyes : prioB x = true → appsE l = 3 := fun h => by rw [unhide HE2, anyP_of_take l prioB (k + 1) (hs.trans h)]; rfl
            have HY := hide hyes; have HS := hide hs
            clear hc hx hyes hs hbw
            have hcase : x.prio < 0 ∨ (0 ≤ x.prio ∧ 15 < x.prio) ∨ (0 ≤ x.prio ∧ x.prio ≤ 15) := by omega
            rcases hcase with h1 | ⟨h1, h2⟩ | ⟨h1, h2⟩
            · have HM := hide (unhide HY (decide_eq_true (.inl h1)))
              go_wp2
              go_ret
              exact ⟨ret_int (unhide HM).symm, unhide HAL _⟩
            · have HM := hide (unhide HY (decide_eq_true (.inr h2)))
              go_wp2
              go_ret
              exact ⟨ret_int (unhide HM).symm, unhide HAL _⟩
            · have HS2 := hide ((unhide HS).trans (show prioB x = false from decide_eq_false (by omega)))
              go_wp2
              go_roundw
              case rel => exact ⟨k + 1, by omega, by go_num, HS2, unhide HAL _⟩
              case measure => simp [intOf]; omega
          · have hF : l.any prioB = false := by have := unhide HA; rw [List.take_of_length_le (by omega)] at this; exact this
            have HE3 : Hid (appsE l = bif dupTo (namesL l) l.length then 6 else 0) := hide (by rw [unhide HE2, hF]; rfl)
            have hkl : k = l.length := by omega
            clear hF HA HE2
            subst hkl
            clear hlt hk
            go_wp2
            go_loopw [57] (fun i wr => ∃ k : Nat, k ≤ l.length ∧ i = .int .i64 k ∧ Hid (dupTo (namesL l) k = false) ∧ Below w.heap.size w wr) (fun i _ => l.length - (intOf i).toNat)
            case atStart => exact ⟨0, Nat.zero_le _, rfl, hide rfl, hbw⟩
            case round =>
              clear hbw
              obtain ⟨k, hk, rfl, HA, hbw⟩ := hrel
              by_cases hlt : k < l.length
              · obtain ⟨x, hx⟩ : ∃ x, l[k]? = some x := ⟨_, List.getElem?_eq_getElem hlt⟩
                have hgd : (namesL l).getD k [] = x.name.data.toList := by simp [namesL, hx]
                have hdup : dupTo (namesL l) (k + 1) = ((namesL l).take k).contains x.name.data.toList := by rw [dupTo, unhide HA, Bool.false_or, hgd]
                have HDU := hide hdup; have HX := hide hx
                have HBO := hide hbw
                have HR2 := hide ((unhide HR).below hbw)
                clear hgd hdup hx HA hbw
                go_wp2
                go_loopw [8] (fun jv wi => ∃ j : Nat, j ≤ k ∧ jv = .int .i64 j ∧ Hid (((namesL l).take j).contains x.name.data.toList = false) ∧ Below w.heap.size w wi) (fun i _ => k - (intOf i).toNat)
                case atStart => exact ⟨0, Nat.zero_le _, rfl, hide (by simp), unhide HBO⟩
                case round =>
                  obtain ⟨j, hj, rfl, HC, hbi⟩ := hrel
                  by_cases hjk : j < k
                  · obtain ⟨y, hy⟩ : ∃ y, l[j]? = some y := ⟨_, List.getElem?_eq_getElem (by omega)⟩
                    obtain ⟨hrr, _, _⟩ := (unhide HR).below hbi
                    rcases hrr with hnil | ⟨b, off, rfl, hb, hc⟩
                    · rw [hnil] at hlt; simp at hlt
                    have e0 := (hc k x (unhide HX)).1
                    have e1 := (hc j y hy).1
                    have htk : (namesL l).take (j + 1) = (namesL l).take j ++ [y.name.data.toList] := by
                      have hjl : j < (namesL l).length := by simp [namesL]; omega
                      rw [List.take_succ_eq_append_getElem hjl]
                      congr 2
                      simp [namesL]
                      have := List.getElem?_eq_getElem (l := l) (show j < l.length by omega)
                      rw [hy] at this
                      rw [← Option.some.inj this]
                    have hk0 : (k : Int) < (l.length : Int) := by omega
                    have hj0 : (j : Int) < (l.length : Int) := by omega
                    have g0 : (0 : Int) ≤ (k : Int) := by omega
                    have g1 : (0 : Int) ≤ (j : Int) := by omega
                    have HB2 := hide hbi
                    have hbd := fun q => hide (show Below w.heap.size w (wr.drewN q) from ⟨hbi.os, hbi.tape, hbi.output, hbi.size, hbi.block⟩)
                    have HBD := hide hbd
                    have HTK := hide htk
                    clear hc hy htk hbi hbd
                    cases he : (x.name.toList == y.name.toList) with
                    | true =>
                      have hd : dupTo (namesL l) (k + 1) = true := by
                        rw [unhide HDU]
                        have h1 : x.name.data.toList = y.name.data.toList := by rw [beq_iff_eq, Lib.toList_data, Lib.toList_data] at he; exact he
                        have h2 : y.name.data.toList ∈ (namesL l).take (j + 1) := by rw [unhide HTK]; simp
                        have h3 : x.name.data.toList ∈ (namesL l).take k := by rw [h1]; exact List.take_subset_take_left _ (by omega) h2
                        simpa using h3
                      have HM := hide (show appsE l = 6 by rw [unhide HE3, dupTo_mono _ (k + 1) l.length hd (by omega)]; rfl)
                      clear hd
                      go_wp2
                      go_quiet (fail)
                      go_wp2
                      go_ret
                      exact ⟨ret_int (unhide HM).symm, unhide (unhide HBD _)⟩
                    | false =>
                      have HC2 : Hid (((namesL l).take (j + 1)).contains x.name.data.toList = false) := hide (by
                        have h1 : ¬ x.name.data.toList = y.name.data.toList := by rw [beq_eq_false_iff_ne, Lib.toList_data, Lib.toList_data] at he; exact he
                        have h2 := unhide HC
                        rw [unhide HTK]
                        simp at h2 ⊢
                        exact ⟨h2, fun h => h1 (by rw [h])⟩)
                      clear HC
                      go_wp2
                      go_quiet (fail)
                      go_wp2
                      go_roundw
                      case rel => exact ⟨j + 1, by omega, by go_num, HC2, unhide (unhide HBD _)⟩
                      case measure => simp [intOf]; omega
                  · have hjl : j = k := by omega
                    have HN := hide (show dupTo (namesL l) (k + 1) = false by rw [unhide HDU, ← hjl]; exact unhide HC)
                    go_wp2
                    go_roundw
                    case rel => exact ⟨k + 1, by omega, by go_num, HN, hbi⟩
                    case measure => simp [intOf]; omega
              · have hkl : k = l.length := by omega
                have HF := hide (show appsE l = 0 by rw [unhide HE3, ← hkl, unhide HA]; rfl)
                go_wp2
                go_ret
                exact ⟨ret_int (unhide HF).symm, hbw⟩
end Go.Proofs.YtfpglpefofcdeaaGreatDoor
