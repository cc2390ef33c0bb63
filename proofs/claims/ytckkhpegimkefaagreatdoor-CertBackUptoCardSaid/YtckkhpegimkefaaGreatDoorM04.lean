/- Row of the program: the library's Builder. -/
import Derived.Test.YtckkhpegimkefaaGreatDoorM00
import Derived.Test.YtckkhpegimkefaaGreatDoorM03
import Derived.Laws.AppendOwn
import Derived.Deep.QuietTactic
import Derived.Below
namespace Go.Proofs.YtckkhpegimkefaaGreatDoor
open Go.RowKit Go.Shelf
set_option linter.unusedVariables false

theorem infoByteW : (Tryz.prog.info? 5).map (fun i => (i.zero, i.size, i.bytes)) = some (some (.int .u8 0), 1, 1) := by kernel_rfl
theorem copyCheck_any (B b : Nat) (bs : List Value) (w : World) (h : Lib.IsBuilder 112 5 B b bs w) :
    Calls Tryz.prog 103 #[.pointer (some ⟨b, 0, none⟩)] w fun e w' => e = .returned (.tuple #[]) ∧ (Lib.BuilderAt 112 5 B b (.pointer (some ⟨b, 0, none⟩)) bs w' ∧ Below B w w') ∧ ∀ g, g ≠ b → w'.heap[g]? = w.heap[g]? := by
  rcases h with h | h
  · refine (Any.Builder_copyCheck_fresh { Tryz.laysB166 with } Tryz.Builder_ExtraB.toX72 b w h.cell0 h.shape h.frozen0).mono ?_
    rintro e w' ⟨rfl, rfl⟩
    exact ⟨rfl, ⟨h.used _, (Below.refl B w).setCell (p := ⟨b, 0, none⟩) h.1 _⟩, fun g hg => by simp [World.setCell, Array.getElem?_modify, Ne.symm hg]⟩
  · refine (Any.Builder_copyCheck_used { Tryz.laysB166 with } Tryz.Builder_ExtraB.toX72 b w h.cell0).mono ?_
    rintro e w' ⟨rfl, rfl⟩
    exact ⟨rfl, ⟨h, Below.refl B _⟩, fun g hg => rfl⟩
theorem cell_heap {w w' : World} {a : Addr} {v : Value} (h : w.cell? a = some v) (hh : w'.heap[a.block]? = w.heap[a.block]?) : w'.cell? a = some v := by
  unfold World.cell? at *
  rw [hh]
  exact h

set_option maxHeartbeats 2000000 in
set_option maxRecDepth 100000 in
theorem writeB_any (B b : Nat) (bs : List Value) (g m c : Nat) (news : List Value) (w : World) (h : Lib.IsBuilder 112 5 B b bs w)
    (hl : news.length = m) (hnews : ∀ j u, news[j]? = some u → w.cell? ((⟨g, 0, none⟩ : Addr).add j) = some u) (hgb : g ≠ b) (h1 : ∀ u ∈ news, u.oneCell' = true)
    (hlen : bs.length + m ≤ 140737488355328) (hBw : B ≤ w.heap.size) :
    Calls Tryz.prog 84 #[.pointer (some ⟨b, 0, none⟩), .slice (some ⟨g, 0, none⟩) m c] w fun e w' => e = .returned (.tuple #[.int .i64 m, .nilIface]) ∧ (Lib.BuilderAt 112 5 B b (.pointer (some ⟨b, 0, none⟩)) (bs ++ news) w' ∧ Below B w w') := by
  obtain ⟨i0, hi, hz0, hz1, hz2⟩ := info_parts infoByteW
  go_enter Tryz.func84, Tryz.ntmps84
  go_wp2_with (go_at_call 103; refine (copyCheck_any B b bs _ h).mono ?_)
  rintro e w1 ⟨rfl, ⟨h1', hb1⟩, hoth⟩
  obtain ⟨hB, v, hbk, hown, hne⟩ := h1'
  have c0 : w1.cell? ⟨b, 0, none⟩ = some (.pointer (some ⟨b, 0, none⟩)) := by rw [Lib.cell_of_heap hbk]; rfl
  have c1 : w1.cell? ⟨b, 1, none⟩ = some v := by rw [Lib.cell_of_heap hbk]; rfl
  have hnews1 : ∀ j u, news[j]? = some u → w1.cell? ((⟨g, 0, none⟩ : Addr).add j) = some u := fun j u hj => cell_heap (hnews j u hj) (by
    rw [show ((⟨g, 0, none⟩ : Addr).add j).block = g by unfold Addr.add; split <;> rfl]
    exact hoth g hgb)
  have HO := hide hoth
  have HN := hide hnews1
  clear hoth hnews hnews1
  go_wp2_with (at_builtin; refine wpList_append_own _ rfl _ _ 43 rfl B 5 i0 (.int .u8 0) 1 1 Tryz.underlying43 hi hz0 hz1 hz2 rfl (by decide) _ _ _ rfl hown ⟨g, 0, none⟩ m c news rfl (by omega) (unhide HN) h1 ?c3 ?c4 ?c5 ?_)
  case c3 => unfold maxLen; omega
  case c4 => omega
  case c5 => have := hb1.size; omega
  intro v' w2 hown' hgrow _
  have hlt : b < w1.heap.size := by
    rcases Nat.lt_or_ge b w1.heap.size with h' | h'
    · exact h'
    · simp [Array.getElem?_eq_none h'] at hbk
  have hb2 : w2.heap[b]? = some (.cells #[.pointer (some ⟨b, 0, none⟩), v] 112 (0, 0)) := by
    rw [hgrow.block b hlt (fun e => hne e.symm)]
    exact hbk
  have d0 : w2.cell? ⟨b, 0, none⟩ = some (.pointer (some ⟨b, 0, none⟩)) := by rw [Lib.cell_of_heap hb2]; rfl
  have d1 : w2.cell? ⟨b, 1, none⟩ = some v := by rw [Lib.cell_of_heap hb2]; rfl
  have f1 : w2.frozen? ⟨b, 1, none⟩ = false := Lib.frozen_of_heap hb2 1
  obtain ⟨ao, n', cap, rfl⟩ : ∃ ao n' cap, v' = .slice ao n' cap := by
    rcases hown'.2 with ⟨hv, _⟩ | ⟨g, cap, cur, hv, _⟩
    · exact ⟨_, _, _, hv⟩
    · exact ⟨_, _, _, hv⟩
  go_wp2
  go_ret2
  refine ⟨rfl, ?_, ?_⟩
  · exact Lib.BuilderAt.put (T := 112) (e := 5) hB hb2 (bs' := bs ++ news) (by simpa [hl] using hown') Tryz.Builder_ExtraB.neB5
  · exact (hb1.grown hgrow (by have := hb1.size; omega) (fun k hk => (hown.lt k hk).1)).setCell (p := ⟨b, 1, none⟩) hB _

theorem writeS_any (B b : Nat) (bs : List Value) (s : ByteArray) (w : World) (h : Lib.IsBuilder 112 5 B b bs w) (hlen : bs.length + s.size ≤ 140737488355328) (hBw : B ≤ w.heap.size) :
    Calls Tryz.prog 76 #[.pointer (some ⟨b, 0, none⟩), .string s] w fun e w' => e = .returned (.tuple #[.int .i64 s.size, .nilIface]) ∧ (Lib.BuilderAt 112 5 B b (.pointer (some ⟨b, 0, none⟩)) (bs ++ Lib.strCells s) w' ∧ Below B w w') :=
  Any.Builder_WriteString { Tryz.laysB166 with } Tryz.Builder_ExtraB B b bs s w h hlen hBw
theorem builderS_any (B b : Nat) (l : List UInt8) (w : World) (h : Lib.IsBuilder 112 5 B b (Lib.byteCells l) w) (hBw : B ≤ w.heap.size) :
    Calls Tryz.prog 78 #[.pointer (some ⟨b, 0, none⟩)] w fun e w' => e = .returned (.string ⟨l.toArray⟩) ∧ Below B w w' :=
  Any.Builder_String_any { Tryz.laysB169 with } Tryz.Builder_ExtraB B b l w h hBw
end Go.Proofs.YtckkhpegimkefaaGreatDoor
namespace Go.Proofs.YtckkhpegimkefaaGreatDoor
open Go.RowKit Go.Shelf
set_option linter.unusedVariables false

theorem rowL_take (fs : List ByteArray) (k : Nat) (s : ByteArray) (h : fs[k]? = some s) : rowL (fs.take (k + 1)) = rowL (fs.take k) ++ partL s := by
  rw [List.take_add_one, h, rowL_append]
  simp [rowL]
theorem rowN_take (fs : List ByteArray) (k : Nat) : rowN (fs.take k) ≤ rowN fs := by
  rw [← rowL_length, ← rowL_length]
  conv => rhs; rw [← List.take_append_drop k fs]
  rw [rowL_append, List.length_append]
  omega
theorem rowN_bulk (fs : List ByteArray) : rowN fs ≤ 4 * bulkT fs := by
  induction fs with
  | nil => simp [rowN]
  | cons p r ih => simp only [rowN, bulkT]; omega
def bigCells (n : Nat) : List Value := (bigL n 4).map (Value.int .u8)
theorem byteCells_append (a b : List UInt8) : Lib.byteCells (a ++ b) = Lib.byteCells a ++ Lib.byteCells b := by simp [Lib.byteCells]
theorem byteCells_big (n : Nat) : Lib.byteCells (bytesOf (bigL n 4)) = bigCells n := by
  unfold Lib.byteCells bytesOf bigCells
  rw [List.map_map]
  apply List.map_congr_left
  intro z hz
  obtain ⟨h0, h1⟩ := bigL_bytes n 4 z hz
  simp only [Function.comp]
  rw [UInt8.toNat_ofNat']
  congr 1
  omega
theorem byteCells_part (l : List UInt8) (s : ByteArray) : Lib.byteCells (l ++ partL s) = Lib.byteCells l ++ bigCells s.size ++ Lib.strCells s := by
  rw [partL, byteCells_append, byteCells_append, byteCells_big, List.append_assoc]
  rfl

theorem bigCells_small (n : Nat) (h : (n : Int) ≤ 4194304) : bigCells n = [.int .u8 ((n : Int) / 16777216), .int .u8 ((n : Int) / 65536), .int .u8 ((n : Int) / 256 % 256), .int .u8 ((n : Int) % 256)] := by
  have e3 : ((n / 256 ^ 3 % 256 : Nat) : Int) = (n : Int) / 16777216 := by omega
  have e2 : ((n / 256 ^ 2 % 256 : Nat) : Int) = (n : Int) / 65536 := by omega
  have e1 : ((n / 256 ^ 1 % 256 : Nat) : Int) = (n : Int) / 256 % 256 := by omega
  have e0 : ((n / 256 ^ 0 % 256 : Nat) : Int) = (n : Int) % 256 := by omega
  simp only [bigCells, bigL, List.map_cons, List.map_nil, e3, e2, e1, e0]
theorem news_new (w : World) (xs : List Value) (e : TypeId) : ∀ j u, xs[j]? = some u → (w.alloc (.cells xs.toArray e)).cell? ((⟨w.heap.size, 0, none⟩ : Addr).add j) = some u := by
  intro j u hj
  have hg := heap_alloc_new w (.cells xs.toArray e)
  rw [show (⟨w.heap.size, 0, none⟩ : Addr).add j = ⟨w.heap.size, 0 + j, none⟩ from by unfold Addr.add; split <;> simp_all, Nat.zero_add, cell_of_row _ _ j _ e _ hg]
  simpa using hj
theorem builderAt_alloc {T e : TypeId} {B b : Nat} {p : Value} {bs : List Value} {w : World} (h : Lib.BuilderAt T e B b p bs w) (o : Obj) : Lib.BuilderAt T e B b p bs (w.alloc o) := by
  obtain ⟨hB, v, hbk, hown, hne⟩ := h
  have hlt : b < w.heap.size := by
    rcases Nat.lt_or_ge b w.heap.size with h' | h'
    · exact h'
    · simp [Array.getElem?_eq_none h'] at hbk
  exact ⟨hB, v, by rw [Lib.alloc_old w o b hlt]; exact hbk, hown.alloc _, hne⟩
theorem isBuilder_alloc {T e : TypeId} {B b : Nat} {bs : List Value} {w : World} (h : Lib.IsBuilder T e B b bs w) (o : Obj) : Lib.IsBuilder T e B b bs (w.alloc o) := by
  rcases h with h | h
  · exact .inl (builderAt_alloc h o)
  · exact .inr (builderAt_alloc h o)
theorem bigCells_one (n : Nat) : ∀ u ∈ bigCells n, u.oneCell' = true := by
  intro u hu
  obtain ⟨z, _, rfl⟩ := List.mem_map.1 hu
  rfl
theorem bigCells_length (n : Nat) : (bigCells n).length = 4 := by simp [bigCells, bigL_length]

set_option maxHeartbeats 4000000 in
set_option maxRecDepth 100000 in
theorem row_any (fs : List ByteArray) (ao : Option Addr) (cap : Nat) (w : World) (hr : TRow w ao fs) (hb : bulkT fs ≤ 4194304) :
    Calls Tryz.prog 54 #[.slice ao fs.length cap] w fun e w' => e = .returned (.string (rowS fs)) ∧ Below w.heap.size w w' := by
  have hN := rowN_bulk fs
  have hfl : (fs.length : Int) ≤ 4194304 := by have := bulkT_length fs; omega
  have hmem : ∀ s ∈ fs, (s.size : Int) ≤ 4194304 := fun s hs => by have := bulkT_mem hs; omega
  have HM := hide hmem
  have HN := hide (show rowN fs ≤ 16777216 by omega)
  have HR := hide hr
  clear hmem hb hN hr
  go_enter Tryz.func54, Tryz.ntmps54
  go_wp2
  have hfr := Lib.fresh_isBuilder 112 5 w
  obtain ⟨hbel, q0, hsz⟩ : Below w.heap.size w (w.alloc (.cells #[.pointer none, .slice none 0 0] 112)) ∧ True ∧ (w.alloc (.cells #[.pointer none, .slice none 0 0] 112)).heap.size = w.heap.size + 1 := ⟨(Below.refl _ _).alloc (Nat.le_refl _) _, trivial, by simp⟩
  generalize w.alloc _ = W at hfr hbel hsz ⊢
  go_loopw [9] (fun i wr => ∃ k : Nat, k ≤ fs.length ∧ i = .int .i64 k ∧ Lib.IsBuilder 112 5 w.heap.size w.heap.size (Lib.byteCells (rowL (fs.take k))) wr ∧ w.heap.size < wr.heap.size ∧ Below w.heap.size w wr) (fun i _ => fs.length - (intOf i).toNat)
  case atStart => exact ⟨0, Nat.zero_le _, rfl, hfr, by omega, hbel⟩
  case round =>
    obtain ⟨k, hk, rfl, hB, hlt0, hbel⟩ := hrel
    by_cases hlt : k < fs.length
    · obtain ⟨s, hs⟩ : ∃ s, fs[k]? = some s := ⟨fs[k], List.getElem?_eq_getElem hlt⟩
      rcases (unhide HR) with hnil | ⟨b, off, rfl, hb, hc⟩
      · rw [hnil] at hlt; simp at hlt
      have c0 : wr.cell? ⟨b, off + k, none⟩ = some (.string s) := (hbel.cell (p := ⟨b, off + k, none⟩) hb).trans (hc k s hs)
      have hsz1 := (unhide HM) s (List.mem_of_getElem? hs)
      have hstep := rowL_take fs k s hs
      have hki : (k : Int) < (fs.length : Int) := by omega
      have HST := hide hstep
      have HIB := hide hB
      have HW := hide hbel
      clear hstep hB hbel hc hs hfr
      have hsl : s.size ≤ 4194304 := by omega
      have hRL : (Lib.byteCells (rowL (fs.take k))).length ≤ 16777216 := by
        rw [Lib.byteCells_length, rowL_length]
        exact Nat.le_trans (rowN_take fs k) (unhide HN)
      generalize rowL (fs.take k) = RL at *
      have hbc := byteCells_part RL s
      rw [← unhide HST] at hbc
      have hne : wr.heap.size ≠ w.heap.size := by omega
      have H1 := hide (writeB_any w.heap.size w.heap.size (Lib.byteCells RL) wr.heap.size 4 4 (bigCells s.size) (wr.alloc (.cells (bigCells s.size).toArray 5)) (isBuilder_alloc (unhide HIB) _) (bigCells_length _) (news_new _ _ _) hne (bigCells_one _) (by omega) (by simp; omega))
      have H2 := hide (fun w' (h : Lib.IsBuilder 112 5 w.heap.size w.heap.size (Lib.byteCells RL ++ bigCells s.size) w') hw => writeS_any w.heap.size w.heap.size (Lib.byteCells RL ++ bigCells s.size) s w' h (by rw [List.length_append, bigCells_length]; omega) hw)
      rw [← hbc] at H2
      rw [bigCells_small s.size hsz1] at H1
      have HA := hide (Below.alloc (unhide HW) (Nat.le_of_lt hlt0) (.cells [.int .u8 ((s.size : Int) / 16777216), .int .u8 ((s.size : Int) / 65536), .int .u8 ((s.size : Int) / 256 % 256), .int .u8 ((s.size : Int) % 256)].toArray 5))
      have HBC := hide (bigCells_small s.size hsz1)
      clear hbc hRL HST HIB HW hsl
      go_wp2_with fail
      refine (unhide H1).mono ?_
      rintro e w1 ⟨rfl, hB1, b1⟩
      rw [← unhide HBC] at hB1
      have hs1 : w.heap.size < w1.heap.size := by have := b1.size; simp at this; omega
      have B1 := hide hB1
      have W1 := hide ((unhide HA).trans b1)
      clear H1 HA hB1 b1 HBC c0
      go_wp2_with fail
      refine (unhide H2 _ (.inr (unhide B1)) (Nat.le_of_lt hs1)).mono ?_
      rintro e w2 ⟨rfl, hB2, b2⟩
      have hs2 : w.heap.size < w2.heap.size := Nat.lt_of_lt_of_le hs1 b2.size
      have B2 := hide hB2
      have W2 := hide ((unhide W1).trans b2)
      clear hB2 b2 W1 B1 H2
      go_wp2
      go_roundw
      case rel => exact ⟨k + 1, by omega, by go_num, .inr (unhide B2), hs2, unhide W2⟩
      case measure => simp [intOf]; omega
    · rw [List.take_of_length_le (by omega)] at hB
      have H3 := hide (builderS_any w.heap.size w.heap.size (rowL fs) wr hB (Nat.le_of_lt hlt0))
      have HW := hide hbel
      clear hB hbel hfr
      go_wp2_with fail
      refine (unhide H3).mono ?_
      rintro e w1 ⟨rfl, b1⟩
      go_wp2
      go_ret
      exact ⟨rfl, (unhide HW).trans b1⟩
end Go.Proofs.YtckkhpegimkefaaGreatDoor
namespace Go.Proofs.YtckkhpegimkefaaGreatDoor
open Go.RowKit
set_option linter.unusedVariables false

/-- the walk in the order of the text, shut: so that nothing lays it open but a step -/
structure Quietly (P : Program) (ops : Array Oper) (C : World → Prop) (Q : Act → Prop) (l : List Oper) (a : Act) : Prop where
  out : wpQuiet P ops C Q l a
theorem Quietly.nil {P : Program} {ops : Array Oper} {C : World → Prop} {Q : Act → Prop} {a : Act} (h : Q a) : Quietly P ops C Q [] a := ⟨h⟩
theorem Quietly.step {P : Program} {ops : Array Oper} {C : World → Prop} {Q : Act → Prop} {a : Act} {o : Oper} {rest : List Oper}
    (h : ∀ K : Act → Prop, (∀ a, Quietly P ops C Q rest a → K a) → if Region.wanted o (yielded ops a.tmps) then o.quiet P a C K else K (a.put o.dst undef)) : Quietly P ops C Q (o :: rest) a :=
  ⟨wpQuiet_step fun K hK => h K fun a ha => hK a ha.out⟩
theorem wp_region_below {P : Program} {id : Nat} {Q : Exit → Act → World → Prop} {a : Act} {w : World} {l : List Oper} (w0 : World) (hb : Below w0.heap.size w0 w)
    (hm : P.follows .mixedOrders = true) (hB : Region.lexB .any l.toArray = true)
    (h : Quietly P l.toArray (fun w' => Below w0.heap.size w0 w') (fun a' => ∀ w', Below w0.heap.size w0 w' → Q .normal a' w') l a) : (Code.region id l.toArray true).wp P Q a w :=
  wp_region_quiet (C := fun w' => Below w0.heap.size w0 w') hm hB hb.drew (by simpa using h.out)
theorem calls_below {P : Program} {f : FuncId} {args : Array Value} {w0 w : World} {v : Value} (hb : Below w0.heap.size w0 w)
    (h : Calls P f args w fun e w' => e = .returned v ∧ Below w.heap.size w w') : Calls P f args w fun e w' => e = .returned v ∧ Below w0.heap.size w0 w' :=
  h.mono fun _ _ ⟨he, hk⟩ => ⟨he, hb.trans (hk.mono hb.size)⟩
theorem calls_same {P : Program} {f : FuncId} {args : Array Value} {w0 w : World} {v : Value} (hb : Below w0.heap.size w0 w)
    (h : Calls P f args w fun e w' => e = .returned v ∧ w' = w) : Calls P f args w fun e w' => e = .returned v ∧ Below w0.heap.size w0 w' :=
  h.mono fun _ _ ⟨he, hk⟩ => ⟨he, hk ▸ hb⟩
/-- Below, once more behind -/
theorem below_more {a b c : World} {B : Nat} (h : Below B a b) (hB : B ≤ b.heap.size) (k : Below b.heap.size b c) : Below B a c := h.trans (k.mono hB)
end Go.Proofs.YtckkhpegimkefaaGreatDoor
namespace Go.Proofs.YtckkhpegimkefaaGreatDoor
end Go.Proofs.YtckkhpegimkefaaGreatDoor
