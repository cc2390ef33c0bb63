/- The library's strings.Builder at this program, for seats that do not hold strings.Repeat: the table of numbers, and that the library's texts lie there. -/
import Derived.Shelf.Strings.Builder1
import Derived.Shelf.Strings.Builder2
import Derived.Test.YtajkbkljonejnaaGreatDoorProg
import Derived.Test.YtajkbkljonejnaaGreatDoorRows
import Derived.Test.YtajkbkljonejnaaGreatDoorM00
import Derived.ProofKit
import Derived.SliceStrings
import Derived.OpenShut
import Derived.Test.YtajkbkljonejnaaGreatDoorM03
import Derived.Laws.AppendOwn
import Derived.Lib.AppendStr
import Derived.Test.YtajkbkljonejnaaGreatDoorM02
import Derived.RegionTactic
namespace Go.Proofs
open Go.Shelf
def Tryz.laysB_ren : Go.Shelf.Ren := ⟨fun | 166 => 72 | 169 => 75 | 240 => 107 | 276 => 143 | n => n, fun | 9 => 9 | 3 => 3 | 4 => 4 | 20 => 20 | 0 => 0 | 5 => 5 | 72 => 122 | 70 => 120 | 37 => 55 | 75 => 124 | 127 => 169 | 164 => 196 | 80 => 128 | n => n, fun | n => n⟩
theorem Tryz.laysB166 : Go.Proofs.Lays.n166 Tryz.prog Tryz.laysB_ren := {
  mixed := by kernel_rfl
  f166 := Tryz.func72.trans (congrArg some (by kernel_rfl))
  f240 := Tryz.func107.trans (congrArg some (by kernel_rfl))
  f276 := Tryz.func143.trans (congrArg some (by kernel_rfl))
  t0 := Tryz.underlying0
  a0 := Tryz.isAgg0
  z0 := Tryz.sizeOf0
  v0 := Tryz.zeroValue0
  t3 := Tryz.underlying3
  a3 := Tryz.isAgg3
  z3 := Tryz.sizeOf3
  v3 := Tryz.zeroValue3
  t4 := Tryz.underlying4
  a4 := Tryz.isAgg4
  z4 := Tryz.sizeOf4
  v4 := Tryz.zeroValue4
  t9 := Tryz.underlying9
  a9 := Tryz.isAgg9
  z9 := Tryz.sizeOf9
  v9 := Tryz.zeroValue9
  t20 := Tryz.underlying20
  a20 := Tryz.isAgg20
  z20 := Tryz.sizeOf20
  v20 := Tryz.zeroValue20
  t37 := Tryz.underlying55
  a37 := Tryz.isAgg55
  z37 := Tryz.sizeOf55
  v37 := Tryz.zeroValue55
  t70 := Tryz.underlying120
  a70 := Tryz.isAgg120
  z70 := Tryz.sizeOf120
  v70 := Tryz.zeroValue120
  t72 := Tryz.underlying122
  a72 := Tryz.isAgg122
  z72 := Tryz.sizeOf122
  v72 := Tryz.zeroValue122
  t75 := Tryz.underlying124
  a75 := Tryz.isAgg124
  z75 := Tryz.sizeOf124
  v75 := Tryz.zeroValue124
  t164 := Tryz.underlying196
  a164 := Tryz.isAgg196
  z164 := Tryz.sizeOf196
  v164 := Tryz.zeroValue196 }
theorem Tryz.laysB169 : Go.Proofs.Lays.n169 Tryz.prog Tryz.laysB_ren := {
  mixed := by kernel_rfl
  f169 := Tryz.func75.trans (congrArg some (by kernel_rfl))
  t0 := Tryz.underlying0
  a0 := Tryz.isAgg0
  z0 := Tryz.sizeOf0
  v0 := Tryz.zeroValue0
  t3 := Tryz.underlying3
  a3 := Tryz.isAgg3
  z3 := Tryz.sizeOf3
  v3 := Tryz.zeroValue3
  t9 := Tryz.underlying9
  a9 := Tryz.isAgg9
  z9 := Tryz.sizeOf9
  v9 := Tryz.zeroValue9
  t37 := Tryz.underlying55
  a37 := Tryz.isAgg55
  z37 := Tryz.sizeOf55
  v37 := Tryz.zeroValue55
  t70 := Tryz.underlying120
  a70 := Tryz.isAgg120
  z70 := Tryz.sizeOf120
  v70 := Tryz.zeroValue120
  t72 := Tryz.underlying122
  a72 := Tryz.isAgg122
  z72 := Tryz.sizeOf122
  v72 := Tryz.zeroValue122
  t127 := Tryz.underlying169
  a127 := Tryz.isAgg169
  z127 := Tryz.sizeOf169
  v127 := Tryz.zeroValue169 }
theorem Tryz.Builder_ExtraB : Builder.Extra Tryz.prog Tryz.laysB_ren := {
  sizeBuilder := by kernel_rfl
  liesBuilder := by kernel_rfl
  t5 := Tryz.underlying5
  a5 := Tryz.isAgg5
  z5 := Tryz.sizeOf5
  v5 := Tryz.zeroValue5
  infoByte := by kernel_rfl
  cellsByte := by kernel_rfl
  sizeByte := by kernel_rfl
  neB5 := by decide }
end Go.Proofs
namespace Go.Proofs.YtajkbkljonejnaaGreatDoor
open Go.ChangeShapes Go.WideShapes Go.ChangeAt Go.RowKit
set_option linter.unusedVariables false
def TRow (w : World) (ao : Option Addr) (l : List ByteArray) : Prop :=
  l = [] ∨ ∃ b off, ao = some ⟨b, off, none⟩ ∧ b < w.heap.size ∧ ∀ i s, l[i]? = some s → w.cell? ⟨b, off + i, none⟩ = some (.string s)
theorem TRow.below {w w' : World} {ao : Option Addr} {l : List ByteArray} (h : TRow w ao l) (hb : Below w.heap.size w w') : TRow w' ao l := by
  rcases h with h | ⟨b, off, e, hlt, hc⟩
  · exact .inl h
  · exact .inr ⟨b, off, e, Nat.lt_of_lt_of_le hlt hb.size, fun i s hi => (hb.cell (p := ⟨b, off + i, none⟩) hlt).trans (hc i s hi)⟩
def bulkT : List ByteArray → Nat
  | [] => 0
  | s :: r => s.size + 1 + bulkT r
theorem bulkT_mem {l : List ByteArray} {s : ByteArray} (h : s ∈ l) : s.size < bulkT l := by
  induction l with
  | nil => cases h
  | cons x r ih =>
    rcases List.mem_cons.1 h with rfl | h
    · simp only [bulkT]; omega
    · have := ih h
      simp only [bulkT]; omega
theorem bulkT_length (l : List ByteArray) : l.length ≤ bulkT l := by
  induction l with
  | nil => simp
  | cons x r ih => simp only [bulkT, List.length_cons]; omega
end Go.Proofs.YtajkbkljonejnaaGreatDoor
namespace Go.Proofs.YtajkbkljonejnaaGreatDoor
open Go.RowKit Go.Shelf
set_option linter.unusedVariables false
theorem infoByteW : (Tryz.prog.info? 5).map (fun i => (i.zero, i.size, i.bytes)) = some (some (.int .u8 0), 1, 1) := by kernel_rfl
theorem copyCheck_any (B b : Nat) (bs : List Value) (w : World) (h : Lib.IsBuilder 122 5 B b bs w) :
    Calls Tryz.prog 107 #[.pointer (some ⟨b, 0, none⟩)] w fun e w' => e = .returned (.tuple #[]) ∧ (Lib.BuilderAt 122 5 B b (.pointer (some ⟨b, 0, none⟩)) bs w' ∧ Below B w w') ∧ ∀ g, g ≠ b → w'.heap[g]? = w.heap[g]? := by
  rcases h with h | h
  · refine (Any.Builder_copyCheck_fresh { Tryz.laysB166 with } Tryz.Builder_ExtraB.toX72 b w h.cell0 h.shape h.frozen0).mono ?_
    rintro e w' ⟨rfl, rfl⟩
    exact ⟨rfl, ⟨h.used _, (Below.refl B w).setCell (p := ⟨b, 0, none⟩) h.1 _⟩, fun g hg => by simp [World.setCell, Array.getElem?_modify, Ne.symm hg]⟩
  · refine (Any.Builder_copyCheck_used { Tryz.laysB166 with } Tryz.Builder_ExtraB.toX72 b w h.cell0).mono ?_
    rintro e w' ⟨rfl, rfl⟩
    exact ⟨rfl, ⟨h, Below.refl B _⟩, fun g hg => rfl⟩
theorem cell_heap {w w' : World} {a : Addr} {v : Value} (h : w.cell? a = some v) (hh : w'.heap[a.block]? = w.heap[a.block]?) : w'.cell? a = some v := by
  unfold World.cell? at *
  rw [hh]
  exact h
set_option maxHeartbeats 2000000 in
set_option maxRecDepth 100000 in
theorem writeB_any (B b : Nat) (bs : List Value) (g m c : Nat) (news : List Value) (w : World) (h : Lib.IsBuilder 122 5 B b bs w)
    (hl : news.length = m) (hnews : ∀ j u, news[j]? = some u → w.cell? ((⟨g, 0, none⟩ : Addr).add j) = some u) (hgb : g ≠ b) (h1 : ∀ u ∈ news, u.oneCell' = true)
    (hlen : bs.length + m ≤ 140737488355328) (hBw : B ≤ w.heap.size) :
    Calls Tryz.prog 118 #[.pointer (some ⟨b, 0, none⟩), .slice (some ⟨g, 0, none⟩) m c] w fun e w' => e = .returned (.tuple #[.int .i64 m, .nilIface]) ∧ (Lib.BuilderAt 122 5 B b (.pointer (some ⟨b, 0, none⟩)) (bs ++ news) w' ∧ Below B w w') := by
  obtain ⟨i0, hi, hz0, hz1, hz2⟩ := info_parts infoByteW
  go_enter Tryz.func118, Tryz.ntmps118
  go_wp2_with (go_at_call 107; refine (copyCheck_any B b bs _ h).mono ?_)
  rintro e w1 ⟨rfl, ⟨h1', hb1⟩, hoth⟩
  obtain ⟨hB, v, hbk, hown, hne⟩ := h1'
  have c0 : w1.cell? ⟨b, 0, none⟩ = some (.pointer (some ⟨b, 0, none⟩)) := by rw [Lib.cell_of_heap hbk]; rfl
  have c1 : w1.cell? ⟨b, 1, none⟩ = some v := by rw [Lib.cell_of_heap hbk]; rfl
  have hnews1 : ∀ j u, news[j]? = some u → w1.cell? ((⟨g, 0, none⟩ : Addr).add j) = some u := fun j u hj => cell_heap (hnews j u hj) (by
    rw [show ((⟨g, 0, none⟩ : Addr).add j).block = g by unfold Addr.add; split <;> rfl]
    exact hoth g hgb)
  have HO := hide hoth
  have HN := hide hnews1
  clear hoth hnews hnews1
  go_wp2_with (at_builtin; refine wpList_append_own _ rfl _ _ 55 rfl B 5 i0 (.int .u8 0) 1 1 Tryz.underlying55 hi hz0 hz1 hz2 rfl (by decide) _ _ _ rfl hown ⟨g, 0, none⟩ m c news rfl (by omega) (unhide HN) h1 ?c3 ?c4 ?c5 ?_)
  case c3 => unfold maxLen; omega
  case c4 => omega
  case c5 => have := hb1.size; omega
  intro v' w2 hown' hgrow _
  have hlt : b < w1.heap.size := by
    rcases Nat.lt_or_ge b w1.heap.size with h' | h'
    · exact h'
    · simp [Array.getElem?_eq_none h'] at hbk
  have hb2 : w2.heap[b]? = some (.cells #[.pointer (some ⟨b, 0, none⟩), v] 122 (0, 0)) := by
    rw [hgrow.block b hlt (fun e => hne e.symm)]
    exact hbk
  have d0 : w2.cell? ⟨b, 0, none⟩ = some (.pointer (some ⟨b, 0, none⟩)) := by rw [Lib.cell_of_heap hb2]; rfl
  have d1 : w2.cell? ⟨b, 1, none⟩ = some v := by rw [Lib.cell_of_heap hb2]; rfl
  have f1 : w2.frozen? ⟨b, 1, none⟩ = false := Lib.frozen_of_heap hb2 1
  obtain ⟨ao, n', cap, rfl⟩ : ∃ ao n' cap, v' = .slice ao n' cap := by
    rcases hown'.2 with ⟨hv, _⟩ | ⟨g, cap, cur, hv, _⟩
    · exact ⟨_, _, _, hv⟩
    · exact ⟨_, _, _, hv⟩
  go_wp2
  go_ret2
  refine ⟨rfl, ?_, ?_⟩
  · exact Lib.BuilderAt.put (T := 122) (e := 5) hB hb2 (bs' := bs ++ news) (by simpa [hl] using hown') Tryz.Builder_ExtraB.neB5
  · exact (hb1.grown hgrow (by have := hb1.size; omega) (fun k hk => (hown.lt k hk).1)).setCell (p := ⟨b, 1, none⟩) hB _
theorem writeS_any (B b : Nat) (bs : List Value) (s : ByteArray) (w : World) (h : Lib.IsBuilder 122 5 B b bs w) (hlen : bs.length + s.size ≤ 140737488355328) (hBw : B ≤ w.heap.size) :
    Calls Tryz.prog 72 #[.pointer (some ⟨b, 0, none⟩), .string s] w fun e w' => e = .returned (.tuple #[.int .i64 s.size, .nilIface]) ∧ (Lib.BuilderAt 122 5 B b (.pointer (some ⟨b, 0, none⟩)) (bs ++ Lib.strCells s) w' ∧ Below B w w') :=
  Any.Builder_WriteString { Tryz.laysB166 with } Tryz.Builder_ExtraB B b bs s w h hlen hBw
theorem builderS_any (B b : Nat) (l : List UInt8) (w : World) (h : Lib.IsBuilder 122 5 B b (Lib.byteCells l) w) (hBw : B ≤ w.heap.size) :
    Calls Tryz.prog 75 #[.pointer (some ⟨b, 0, none⟩)] w fun e w' => e = .returned (.string ⟨l.toArray⟩) ∧ Below B w w' :=
  Any.Builder_String_any { Tryz.laysB169 with } Tryz.Builder_ExtraB B b l w h hBw
end Go.Proofs.YtajkbkljonejnaaGreatDoor
namespace Go.Proofs.YtajkbkljonejnaaGreatDoor
open Go.RowKit Go.Shelf
set_option linter.unusedVariables false
theorem rowL_take (fs : List ByteArray) (k : Nat) (s : ByteArray) (h : fs[k]? = some s) : rowL (fs.take (k + 1)) = rowL (fs.take k) ++ partL s := by
  rw [List.take_add_one, h, rowL_append]
  simp [rowL]
theorem rowN_take (fs : List ByteArray) (k : Nat) : rowN (fs.take k) ≤ rowN fs := by
  rw [← rowL_length, ← rowL_length]
  conv => rhs; rw [← List.take_append_drop k fs]
  rw [rowL_append, List.length_append]
  omega
theorem rowN_bulk (fs : List ByteArray) : rowN fs ≤ 4 * bulkT fs := by
  induction fs with
  | nil => simp [rowN]
  | cons p r ih => simp only [rowN, bulkT]; omega
def bigCells (n : Nat) : List Value := (bigL n 4).map (Value.int .u8)
theorem byteCells_append (a b : List UInt8) : Lib.byteCells (a ++ b) = Lib.byteCells a ++ Lib.byteCells b := by simp [Lib.byteCells]
theorem byteCells_big (n : Nat) : Lib.byteCells (bytesOf (bigL n 4)) = bigCells n := by
  unfold Lib.byteCells bytesOf bigCells
  rw [List.map_map]
  apply List.map_congr_left
  intro z hz
  obtain ⟨h0, h1⟩ := bigL_bytes n 4 z hz
  simp only [Function.comp]
  rw [UInt8.toNat_ofNat']
  congr 1
  omega
theorem byteCells_part (l : List UInt8) (s : ByteArray) : Lib.byteCells (l ++ partL s) = Lib.byteCells l ++ bigCells s.size ++ Lib.strCells s := by
  rw [partL, byteCells_append, byteCells_append, byteCells_big, List.append_assoc]
  rfl
theorem bigCells_small (n : Nat) (h : (n : Int) ≤ 4194304) : bigCells n = [.int .u8 ((n : Int) / 16777216), .int .u8 ((n : Int) / 65536), .int .u8 ((n : Int) / 256 % 256), .int .u8 ((n : Int) % 256)] := by
  have e3 : ((n / 256 ^ 3 % 256 : Nat) : Int) = (n : Int) / 16777216 := by omega
  have e2 : ((n / 256 ^ 2 % 256 : Nat) : Int) = (n : Int) / 65536 := by omega
  have e1 : ((n / 256 ^ 1 % 256 : Nat) : Int) = (n : Int) / 256 % 256 := by omega
  have e0 : ((n / 256 ^ 0 % 256 : Nat) : Int) = (n : Int) % 256 := by omega
  simp only [bigCells, bigL, List.map_cons, List.map_nil, e3, e2, e1, e0]
theorem news_new (w : World) (xs : List Value) (e : TypeId) : ∀ j u, xs[j]? = some u → (w.alloc (.cells xs.toArray e)).cell? ((⟨w.heap.size, 0, none⟩ : Addr).add j) = some u := by
  intro j u hj
  have hg := heap_alloc_new w (.cells xs.toArray e)
  rw [show (⟨w.heap.size, 0, none⟩ : Addr).add j = ⟨w.heap.size, 0 + j, none⟩ from by unfold Addr.add; split <;> simp_all, Nat.zero_add, cell_of_row _ _ j _ e _ hg]
  simpa using hj
theorem builderAt_alloc {T e : TypeId} {B b : Nat} {p : Value} {bs : List Value} {w : World} (h : Lib.BuilderAt T e B b p bs w) (o : Obj) : Lib.BuilderAt T e B b p bs (w.alloc o) := by
  obtain ⟨hB, v, hbk, hown, hne⟩ := h
  have hlt : b < w.heap.size := by
    rcases Nat.lt_or_ge b w.heap.size with h' | h'
    · exact h'
    · simp [Array.getElem?_eq_none h'] at hbk
  exact ⟨hB, v, by rw [Lib.alloc_old w o b hlt]; exact hbk, hown.alloc _, hne⟩
theorem isBuilder_alloc {T e : TypeId} {B b : Nat} {bs : List Value} {w : World} (h : Lib.IsBuilder T e B b bs w) (o : Obj) : Lib.IsBuilder T e B b bs (w.alloc o) := by
  rcases h with h | h
  · exact .inl (builderAt_alloc h o)
  · exact .inr (builderAt_alloc h o)
theorem bigCells_one (n : Nat) : ∀ u ∈ bigCells n, u.oneCell' = true := by
  intro u hu
  obtain ⟨z, _, rfl⟩ := List.mem_map.1 hu
  rfl
theorem bigCells_length (n : Nat) : (bigCells n).length = 4 := by simp [bigCells, bigL_length]
set_option maxHeartbeats 4000000 in
set_option maxRecDepth 100000 in
theorem row_any (fs : List ByteArray) (ao : Option Addr) (cap : Nat) (w : World) (hr : TRow w ao fs) (hb : bulkT fs ≤ 4194304) :
    Calls Tryz.prog 82 #[.slice ao fs.length cap] w fun e w' => e = .returned (.string (rowS fs)) ∧ Below w.heap.size w w' := by
  have hN := rowN_bulk fs
  have hfl : (fs.length : Int) ≤ 4194304 := by have := bulkT_length fs; omega
  have hmem : ∀ s ∈ fs, (s.size : Int) ≤ 4194304 := fun s hs => by have := bulkT_mem hs; omega
  have HM := hide hmem
  have HN := hide (show rowN fs ≤ 16777216 by omega)
  have HR := hide hr
  clear hmem hb hN hr
  go_enter Tryz.func82, Tryz.ntmps82
  go_wp2
  have hfr := Lib.fresh_isBuilder 122 5 w
  obtain ⟨hbel, q0, hsz⟩ : Below w.heap.size w (w.alloc (.cells #[.pointer none, .slice none 0 0] 122)) ∧ True ∧ (w.alloc (.cells #[.pointer none, .slice none 0 0] 122)).heap.size = w.heap.size + 1 := ⟨(Below.refl _ _).alloc (Nat.le_refl _) _, trivial, by simp⟩
  generalize w.alloc _ = W at hfr hbel hsz ⊢
  go_loopw [9] (fun i wr => ∃ k : Nat, k ≤ fs.length ∧ i = .int .i64 k ∧ Lib.IsBuilder 122 5 w.heap.size w.heap.size (Lib.byteCells (rowL (fs.take k))) wr ∧ w.heap.size < wr.heap.size ∧ Below w.heap.size w wr) (fun i _ => fs.length - (intOf i).toNat)
  case atStart => exact ⟨0, Nat.zero_le _, rfl, hfr, by omega, hbel⟩
  case round =>
    obtain ⟨k, hk, rfl, hB, hlt0, hbel⟩ := hrel
    by_cases hlt : k < fs.length
    · obtain ⟨s, hs⟩ : ∃ s, fs[k]? = some s := ⟨fs[k], List.getElem?_eq_getElem hlt⟩
      rcases (unhide HR) with hnil | ⟨b, off, rfl, hb, hc⟩
      · rw [hnil] at hlt; simp at hlt
      have c0 : wr.cell? ⟨b, off + k, none⟩ = some (.string s) := (hbel.cell (p := ⟨b, off + k, none⟩) hb).trans (hc k s hs)
      have hsz1 := (unhide HM) s (List.mem_of_getElem? hs)
      have hstep := rowL_take fs k s hs
      have hki : (k : Int) < (fs.length : Int) := by omega
      have HST := hide hstep
      have HIB := hide hB
      have HW := hide hbel
      clear hstep hB hbel hc hs hfr
      have hsl : s.size ≤ 4194304 := by omega
      have hRL : (Lib.byteCells (rowL (fs.take k))).length ≤ 16777216 := by
        rw [Lib.byteCells_length, rowL_length]
        exact Nat.le_trans (rowN_take fs k) (unhide HN)
      generalize rowL (fs.take k) = RL at *
      have hbc := byteCells_part RL s
      rw [← unhide HST] at hbc
      have hne : wr.heap.size ≠ w.heap.size := by omega
      have H1 := hide (writeB_any w.heap.size w.heap.size (Lib.byteCells RL) wr.heap.size 4 4 (bigCells s.size) (wr.alloc (.cells (bigCells s.size).toArray 5)) (isBuilder_alloc (unhide HIB) _) (bigCells_length _) (news_new _ _ _) hne (bigCells_one _) (by omega) (by simp; omega))
      have H2 := hide (fun w' (h : Lib.IsBuilder 122 5 w.heap.size w.heap.size (Lib.byteCells RL ++ bigCells s.size) w') hw => writeS_any w.heap.size w.heap.size (Lib.byteCells RL ++ bigCells s.size) s w' h (by rw [List.length_append, bigCells_length]; omega) hw)
      rw [← hbc] at H2
      rw [bigCells_small s.size hsz1] at H1
      have HA := hide (Below.alloc (unhide HW) (Nat.le_of_lt hlt0) (.cells [.int .u8 ((s.size : Int) / 16777216), .int .u8 ((s.size : Int) / 65536), .int .u8 ((s.size : Int) / 256 % 256), .int .u8 ((s.size : Int) % 256)].toArray 5))
      have HBC := hide (bigCells_small s.size hsz1)
      clear hbc hRL HST HIB HW hsl
      go_wp2_with fail
      refine (unhide H1).mono ?_
      rintro e w1 ⟨rfl, hB1, b1⟩
      rw [← unhide HBC] at hB1
      have hs1 : w.heap.size < w1.heap.size := by have := b1.size; simp at this; omega
      have B1 := hide hB1
      have W1 := hide ((unhide HA).trans b1)
      clear H1 HA hB1 b1 HBC c0
      go_wp2_with fail
      refine (unhide H2 _ (.inr (unhide B1)) (Nat.le_of_lt hs1)).mono ?_
      rintro e w2 ⟨rfl, hB2, b2⟩
      have hs2 : w.heap.size < w2.heap.size := Nat.lt_of_lt_of_le hs1 b2.size
      have B2 := hide hB2
      have W2 := hide ((unhide W1).trans b2)
      clear hB2 b2 W1 B1 H2
      go_wp2
      go_roundw
      case rel => exact ⟨k + 1, by omega, by go_num, .inr (unhide B2), hs2, unhide W2⟩
      case measure => simp [intOf]; omega
    · rw [List.take_of_length_le (by omega)] at hB
      have H3 := hide (builderS_any w.heap.size w.heap.size (rowL fs) wr hB (Nat.le_of_lt hlt0))
      have HW := hide hbel
      clear hB hbel hfr
      go_wp2_with fail
      refine (unhide H3).mono ?_
      rintro e w1 ⟨rfl, b1⟩
      go_wp2
      go_ret
      exact ⟨rfl, (unhide HW).trans b1⟩
end Go.Proofs.YtajkbkljonejnaaGreatDoor
namespace Go.Proofs.YtajkbkljonejnaaGreatDoor
open Go.RowKit Go.Shelf
set_option linter.unusedVariables false
def oneS (n : Int) : ByteArray := strOfNums [lowByte n]
def twoS (n : Int) : ByteArray := strOfNums [lowByte (n / 256), lowByte n]
theorem oneS_size (n : Int) : (oneS n).size = 1 := by rw [oneS, strOfNums_size]; rfl
theorem twoS_size (n : Int) : (twoS n).size = 2 := by rw [twoS, strOfNums_size]; rfl
theorem one_byte (w : World) (x : Int) :
    (convert 55 9 (.slice (some ⟨w.heap.size, 0, none⟩) 1 1)).run Tryz.prog (w.alloc (.cells #[.int .u8 x] 5)) = .ok (.string (strOfNums [x])) (w.alloc (.cells #[.int .u8 x] 5)) :=
  run_convert_bytes_arg (P := Tryz.prog) _ 55 5 Tryz.underlying55 Tryz.underlying5 w.heap.size 0 1 1 [x] rfl (fun i hi => by
    have h2 : i = 0 := by omega
    subst h2
    simp) 9 Tryz.underlying9
theorem two_bytesO (w : World) (x y : Int) :
    (convert 55 9 (.slice (some ⟨w.heap.size, 0, none⟩) 2 2)).run Tryz.prog (w.alloc (.cells #[.int .u8 x, .int .u8 y] 5)) = .ok (.string (strOfNums [x, y])) (w.alloc (.cells #[.int .u8 x, .int .u8 y] 5)) :=
  run_convert_bytes_arg (P := Tryz.prog) _ 55 5 Tryz.underlying55 Tryz.underlying5 w.heap.size 0 2 2 [x, y] rfl (fun i hi => by
    have h2 : i = 0 ∨ i = 1 := by omega
    rcases h2 with rfl | rfl <;> simp) 9 Tryz.underlying9
theorem one_any (n : Int) (w : World) :
    Calls Tryz.prog 73 #[.int .i64 n] w fun e w' => e = .returned (.string (oneS n)) ∧ Below w.heap.size w w' := by
  have hcv := one_byte
  have hbx := fun o : Obj => (Below.refl w.heap.size w).alloc (Nat.le_refl _) o
  have HB := hide hbx
  clear hbx
  go_enter Tryz.func73, Tryz.ntmps73
  go_wp2
  go_ret
  exact ⟨rfl, unhide HB _⟩
theorem two_any (n : Int) (w : World) :
    Calls Tryz.prog 28 #[.int .i64 n] w fun e w' => e = .returned (.string (twoS n)) ∧ Below w.heap.size w w' := by
  have hcv := two_bytesO
  have hbx := fun o : Obj => (Below.refl w.heap.size w).alloc (Nat.le_refl _) o
  have HB := hide hbx
  clear hbx
  go_enter Tryz.func28, Tryz.ntmps28
  go_wp2
  go_ret
  exact ⟨rfl, unhide HB _⟩
theorem onumber_any (n k : Int) (hn : n ≤ 9223372036854775807) (w : World) :
    Calls Tryz.prog 74 #[.int .i64 n, .int .i64 k] w fun e w' => e = .returned (.string (numS n k)) ∧ Below w.heap.size w w' := by
  have N1 := hide (number_all n k w hn)
  go_enter Tryz.func74, Tryz.ntmps74
  go_wp2_with fail
  refine (unhide N1).mono ?_
  rintro e w1 ⟨rfl, hb1⟩
  go_wp2
  go_ret
  exact ⟨rfl, hb1⟩
theorem copyCheckX_any (B b : Nat) (bs : List Value) (w : World) (h : Lib.IsBuilder 122 5 B b bs w) :
    Calls Tryz.prog 107 #[.pointer (some ⟨b, 0, none⟩)] w fun e w' => e = .returned (.tuple #[]) ∧ (Lib.BuilderAt 122 5 B b (.pointer (some ⟨b, 0, none⟩)) bs w' ∧ Below B w w') ∧ (∀ g, g ≠ b → w'.heap[g]? = w.heap[g]?) ∧ w'.cell? ⟨b, 1, none⟩ = w.cell? ⟨b, 1, none⟩ ∧ w'.heap.size = w.heap.size := by
  rcases h with h | h
  · refine (Any.Builder_copyCheck_fresh { Tryz.lays105 with } Tryz.Builder_Extra_105.toX72 b w h.cell0 h.shape h.frozen0).mono ?_
    rintro e w' ⟨rfl, rfl⟩
    exact ⟨rfl, ⟨h.used _, (Below.refl B w).setCell (p := ⟨b, 0, none⟩) h.1 _⟩, fun g hg => by simp [World.setCell, Array.getElem?_modify, Ne.symm hg], World.cell?_setCell_other _ _ _ _ (by simp), by simp⟩
  · refine (Any.Builder_copyCheck_used { Tryz.lays105 with } Tryz.Builder_Extra_105.toX72 b w h.cell0).mono ?_
    rintro e w' ⟨rfl, rfl⟩
    exact ⟨rfl, ⟨h, Below.refl B _⟩, fun g hg => rfl, rfl, rfl⟩
set_option maxHeartbeats 2000000 in
set_option maxRecDepth 100000 in
theorem writeX_any (B b : Nat) (bs : List Value) (s : ByteArray) (w : World) (h : Lib.IsBuilder 122 5 B b bs w)
    (hlen : bs.length + s.size ≤ 140737488355328) (hBw : B ≤ w.heap.size) :
    Calls Tryz.prog 72 #[.pointer (some ⟨b, 0, none⟩), .string s] w fun e w' => e = .returned (.tuple #[.int .i64 s.size, .nilIface]) ∧ (Lib.BuilderAt 122 5 B b (.pointer (some ⟨b, 0, none⟩)) (bs ++ Lib.strCells s) w' ∧ Below B w w') ∧ w.heap.size ≤ w'.heap.size ∧ ∀ g, g < w.heap.size → g ≠ b → (∀ v, w.cell? ⟨b, 1, none⟩ = some v → v.ownBlock ≠ some g) → w'.heap[g]? = w.heap[g]? := by
  obtain ⟨i0, hi, hz0, hz1, hz2⟩ := info_parts infoByteW
  go_enter Tryz.func72, Tryz.ntmps72
  go_wp2_with (go_at_call 107; refine (copyCheckX_any B b bs _ h).mono ?_)
  rintro e w1 ⟨rfl, ⟨h1', hb1⟩, hoth, hc1, hsz1⟩
  obtain ⟨hB, v, hbk, hown, hne⟩ := h1'
  have c0 : w1.cell? ⟨b, 0, none⟩ = some (.pointer (some ⟨b, 0, none⟩)) := by rw [Lib.cell_of_heap hbk]; rfl
  have c1 : w1.cell? ⟨b, 1, none⟩ = some v := by rw [Lib.cell_of_heap hbk]; rfl
  have HO := hide hoth
  have HC1 := hide (hc1.symm.trans c1)
  have HSZ := hide hsz1
  clear hoth hc1 hsz1
  go_wp2_with (at_builtin; refine Lib.wpList_append_own_string _ rfl _ _ 55 9 rfl B 5 i0 Tryz.underlying55 Tryz.underlying9 hi hz0 hz1 hz2 v _ _ rfl hown s rfl ?c3 ?c4 ?c5 ?_)
  case c3 => unfold maxLen; omega
  case c4 => omega
  case c5 => have := hb1.size; omega
  intro v' w2 hown' hgrow _
  have hlt : b < w1.heap.size := by
    rcases Nat.lt_or_ge b w1.heap.size with h' | h'
    · exact h'
    · simp [Array.getElem?_eq_none h'] at hbk
  have hb2 : w2.heap[b]? = some (.cells #[.pointer (some ⟨b, 0, none⟩), v] 122 (0, 0)) := by
    rw [hgrow.block b hlt (fun e => hne e.symm)]
    exact hbk
  have d0 : w2.cell? ⟨b, 0, none⟩ = some (.pointer (some ⟨b, 0, none⟩)) := by rw [Lib.cell_of_heap hb2]; rfl
  have d1 : w2.cell? ⟨b, 1, none⟩ = some v := by rw [Lib.cell_of_heap hb2]; rfl
  have f1 : w2.frozen? ⟨b, 1, none⟩ = false := Lib.frozen_of_heap hb2 1
  obtain ⟨ao, n', cap, rfl⟩ : ∃ ao n' cap, v' = .slice ao n' cap := by
    rcases hown'.2 with ⟨hv, _⟩ | ⟨g, cap, cur, hv, _⟩
    · exact ⟨_, _, _, hv⟩
    · exact ⟨_, _, _, hv⟩
  have HG := hide hgrow
  go_wp2
  go_ret2
  refine ⟨rfl, ⟨?_, ?_⟩, ?_, ?_⟩
  · exact Lib.BuilderAt.put (T := 122) (e := 5) hB hb2 (bs' := bs ++ Lib.strCells s) (by rw [List.length_append, Lib.strCells_length]; exact hown') Tryz.Builder_Extra_105.neB5
  · exact (hb1.grown hgrow (by have := hb1.size; omega) (fun k hk => (hown.lt k hk).1)).setCell (p := ⟨b, 1, none⟩) hB _
  · have := hgrow.size; have := unhide HSZ; simp; omega
  · intro g hg hgb hgv
    have e1 : w2.heap[g]? = w1.heap[g]? := hgrow.block g (by rw [unhide HSZ]; exact hg) (fun e => hgv v (unhide HC1) e.symm)
    rw [← unhide HO g hgb, ← e1]
    simp [World.setCell, Array.getElem?_modify, Ne.symm hgb]
end Go.Proofs.YtajkbkljonejnaaGreatDoor
namespace Go.Proofs.YtajkbkljonejnaaGreatDoor
open Go.RowKit Go.Shelf
set_option linter.unusedVariables false
set_option linter.unusedSimpArgs false
set_option maxRecDepth 100000
theorem repZ (n : Nat) : (⟨(Lib.repeatL (⟨#[0]⟩ : ByteArray).data.toList n).toArray⟩ : ByteArray) = zsK n := by
  have : Lib.repeatL [(0 : UInt8)] n = List.replicate n 0 := by
    induction n with
    | zero => rfl
    | succ n ih => simp only [Lib.repeatL, ih]; rfl
  show (⟨(Lib.repeatL [(0 : UInt8)] n).toArray⟩ : ByteArray) = zsK n
  rw [this]
  apply ByteArray.ext
  simp [zsK]
theorem rep0_any (c : Nat) (w : World) (hc : c ≤ 64) : Calls Tryz.prog 77 #[.string ⟨#[0]⟩, .int .i64 c] w fun e w' => e = .returned (.string (zsK c)) ∧ Below w.heap.size w w' := by
  have h1 : (⟨#[0]⟩ : ByteArray).size = 1 := rfl
  have := Any.strings_Repeat Tryz.lays105 Tryz.Builder_Extra_105 ⟨#[0]⟩ c w (by omega) (by rw [h1]; omega)
  rw [repZ] at this
  exact this
theorem hdK_text (sd : Nat) (h : sd < 16) : oneS 1 ++ oneS (sd : Int) ++ zsK 14 = hdK sd := by
  rcases sixteen_cases sd h with rfl | rfl | rfl | rfl | rfl | rfl | rfl | rfl | rfl | rfl | rfl | rfl | rfl | rfl | rfl | rfl <;> decide
section
variable {w w' : World} {B bb mb : Nat} {v : Value} {M : Mm} {H N : Nat → ByteArray} {sd : Nat}
theorem KtoAt.all (h : KtoAt w B bb mb v M H (sd : Int)) : (w.cell? ⟨bb, 1, none⟩ = some (.string (H 0)) ∧ w.cell? ⟨bb, 2, none⟩ = some (.string (H 1)) ∧ w.cell? ⟨bb, 3, none⟩ = some (.string (H 2)) ∧ w.cell? ⟨bb, 4, none⟩ = some (.string (H 3))) ∧ w.cell? ⟨bb, 5, none⟩ = some (.int .i64 (sd : Int)) := by
  have := h.box
  refine ⟨⟨?_, ?_, ?_, ?_⟩, ?_⟩ <;> simp [World.cell?, this]
theorem wsP_lt {M : Mm} {sd : Nat} {H N : Nat → ByteArray} (hs : sd < 16) : ∀ j, j ≤ 4 → (wsP M sd H N j).2 < 16
  | 0, _ => hs
  | j + 1, h => by
    show w1S _ _ _ _ < 16
    unfold w1S
    split
    · exact wsP_lt hs j (by omega)
    · exact flip_lt (wsP_lt hs j (by omega)) (by omega)
theorem wsP_len {M : Mm} {sd : Nat} {H N : Nat → ByteArray} : ∀ j, (wsP M sd H N j).1.C.length = M.C.length
  | 0 => rfl
  | j + 1 => by
    show (w1M _ _ _ _ _).C.length = _
    unfold w1M
    split
    · exact wsP_len j
    · rw [wrC_len]; exact wsP_len j
theorem toList_eqK {a b : ByteArray} (h : a = b) : (a.toList == b.toList) = true := by subst h; simp
theorem idx4_0 (a b c d : ByteArray) (w : World) : (Instr.index 64 (.agg #[.string a, .string b, .string c, .string d]) (.int .i64 0)).run Tryz.prog w = .ok (.string a) w := by kernel_rfl
theorem idx4_1 (a b c d : ByteArray) (w : World) : (Instr.index 64 (.agg #[.string a, .string b, .string c, .string d]) (.int .i64 1)).run Tryz.prog w = .ok (.string b) w := by kernel_rfl
theorem idx4_2 (a b c d : ByteArray) (w : World) : (Instr.index 64 (.agg #[.string a, .string b, .string c, .string d]) (.int .i64 2)).run Tryz.prog w = .ok (.string c) w := by kernel_rfl
theorem idx4_3 (a b c d : ByteArray) (w : World) : (Instr.index 64 (.agg #[.string a, .string b, .string c, .string d]) (.int .i64 3)).run Tryz.prog w = .ok (.string d) w := by kernel_rfl
structure KwR (w : World) (B bb mb : Nat) (v : Value) (M : Mm) (H N : Nat → ByteArray) (sd : Nat) (j : Nat) (wr : World) : Prop where
  kto : KtoAt wr B bb mb v (wsP M sd H N j).1 H (sd : Int)
  chg : Chg (ktoF bb mb v) w wr
  nxt : wr.heap[w.heap.size]? = some (.cells #[.string (N 0), .string (N 1), .string (N 2), .string (N 3)] 64)
  far : ¬ ktoF bb mb v w.heap.size
theorem KtoAt.put4 {sd' : Int} (h : KtoAt w B bb mb v M H sd') (t : Int) :
    KtoAt (((((w.setCell ⟨bb, 1, none⟩ (.string (N 0))).setCell ⟨bb, 2, none⟩ (.string (N 1))).setCell ⟨bb, 3, none⟩ (.string (N 2))).setCell ⟨bb, 4, none⟩ (.string (N 3))).setCell ⟨bb, 5, none⟩ (.int .i64 t)) B bb mb v M N t ∧ Chg (fun x => x = bb) w (((((w.setCell ⟨bb, 1, none⟩ (.string (N 0))).setCell ⟨bb, 2, none⟩ (.string (N 1))).setCell ⟨bb, 3, none⟩ (.string (N 2))).setCell ⟨bb, 4, none⟩ (.string (N 3))).setCell ⟨bb, 5, none⟩ (.int .i64 t)) := by
  have hc : Chg (fun x => x = bb) w (((((w.setCell ⟨bb, 1, none⟩ (.string (N 0))).setCell ⟨bb, 2, none⟩ (.string (N 1))).setCell ⟨bb, 3, none⟩ (.string (N 2))).setCell ⟨bb, 4, none⟩ (.string (N 3))).setCell ⟨bb, 5, none⟩ (.int .i64 t)) :=
    ((((Chg.setCell w ⟨bb, 1, none⟩ _).trans (Chg.setCell _ ⟨bb, 2, none⟩ _) (fun x hx => .inl hx)).trans (Chg.setCell _ ⟨bb, 3, none⟩ _) (fun x hx => .inl hx)).trans (Chg.setCell _ ⟨bb, 4, none⟩ _) (fun x hx => .inl hx)).trans (Chg.setCell _ ⟨bb, 5, none⟩ _) (fun x hx => .inl hx)
  refine ⟨⟨?_, h.mem.chg hc (fun x hx hm => ?_), h.bm, h.bv⟩, hc⟩
  · have hb := h.box
    simp [World.setCell, Array.getElem?_modify, hb]
  · rw [hx] at hm
    exact hm.elim h.bm h.bv
set_option maxHeartbeats 8000000 in
theorem kwrite_any (h : KtoAt w B bb mb v M H (sd : Int)) (hs : sd < 16) (hl : 9 ≤ M.C.length) (hN : ∀ i, (N i).size = 16) :
    Calls Tryz.prog 83 #[.pointer (some ⟨bb, 0, none⟩), .agg #[.string (N 0), .string (N 1), .string (N 2), .string (N 3)]] w fun e w' => e = .returned (.tuple #[]) ∧ KtoAt w' B bb mb v (wsM M sd H N).1 N ((wsM M sd H N).2 : Int) ∧ Chg (ktoF bb mb v) w w' := by
  obtain ⟨W0, hW0⟩ : ∃ W0, W0 = w.alloc (.cells #[.string (N 0), .string (N 1), .string (N 2), .string (N 3)] 64) := ⟨_, rfl⟩
  have hb0 : Below w.heap.size w W0 := by rw [hW0]; exact (Below.refl _ _).alloc (Nat.le_refl _) _
  have hfar : ¬ ktoF bb mb v w.heap.size := by
    rintro (e | e | e)
    · have := h.lt; omega
    · have := h.mem.lt; omega
    · have := (h.mem.row.lt _ e).2; omega
  have hR0 : KwR w B bb mb v M H N sd 0 W0 := ⟨h.below hb0, Chg.of_below _ hb0, by rw [hW0]; exact heap_alloc_new _ _, hfar⟩
  obtain ⟨_, c5⟩ := (h.below hb0).all
  have HR0 := hide hR0
  have n0 : W0.cell? ⟨w.heap.size, 0, none⟩ = some (.string (N 0)) := by have := hR0.nxt; simp [World.cell?, this]
  have n1 : W0.cell? ⟨w.heap.size, 1, none⟩ = some (.string (N 1)) := by have := hR0.nxt; simp [World.cell?, this]
  have n2 : W0.cell? ⟨w.heap.size, 2, none⟩ = some (.string (N 2)) := by have := hR0.nxt; simp [World.cell?, this]
  have n3 : W0.cell? ⟨w.heap.size, 3, none⟩ = some (.string (N 3)) := by have := hR0.nxt; simp [World.cell?, this]
  have HN := hide hN; have HS := hide hs; have HL := hide hl; have HW0 := hide hW0
  have hMM : ∀ j, KtoAt W0 B bb mb v (wsP M sd H N j).1 H (sd : Int) → True := fun _ _ => trivial
  clear hW0 hb0 hfar hR0 h hs hl hN hMM
  go_enter Tryz.func83, Tryz.ntmps83
  go_upto_region 1 with fail
  rw [← unhide HW0]
  go_wp2
  go_loopw [4, 12] (fun s4 s12 wr => ∃ j : Nat, j ≤ 4 ∧ s12 = .int .i64 (j : Int) ∧ s4 = .int .i64 ((wsP M sd H N j).2 : Int) ∧ KwR w B bb mb v M H N sd j wr) (fun _ s12 _ => 4 - (intOf s12).toNat)
  case atStart => exact ⟨0, by omega, rfl, rfl, unhide HR0⟩
  case round =>
    clear n0 n1 n2 n3 c5
    obtain ⟨j, hj, rfl, rfl, hK⟩ := hrel
    have ht := wsP_lt (M := M) (H := H) (N := N) (unhide HS) j hj
    by_cases hj4 : j = 4
    · subst hj4
      have hwM : wsM M sd H N = (wrC (wsP M sd H N 4).1 0 (hdK (wsP M sd H N 4).2), (wsP M sd H N 4).2) := wsM_wsP M sd H N
      obtain ⟨m4, hm4⟩ : ∃ m4, m4 = (wsP M sd H N 4).1 := ⟨_, rfl⟩
      obtain ⟨t, htd⟩ : ∃ t, t = (wsP M sd H N 4).2 := ⟨_, rfl⟩
      have hlen : m4.C.length = M.C.length := by rw [hm4]; exact wsP_len 4
      obtain ⟨hk, hc, hn, hf⟩ := hK
      rw [← hm4, ← htd] at hwM
      rw [← hm4] at hk
      rw [← htd] at ht ⊢
      have HF : Hid (∀ W, Below wr.heap.size wr W → Calls Tryz.prog 119 #[.pointer (some ⟨bb, 0, none⟩), .int .i64 0, .string (hdK t)] W fun e w' => e = .returned (.tuple #[]) ∧ (w'.cell? ⟨w.heap.size, 0, none⟩ = some (.string (N 0)) ∧ w'.cell? ⟨w.heap.size, 1, none⟩ = some (.string (N 1)) ∧ w'.cell? ⟨w.heap.size, 2, none⟩ = some (.string (N 2)) ∧ w'.cell? ⟨w.heap.size, 3, none⟩ = some (.string (N 3))) ∧ (∀ i, w'.frozen? ⟨bb, i, none⟩ = false) ∧ (((w'.cell? ⟨bb, 1, none⟩ = some (.string (H 0)) ∧ w'.cell? ⟨bb, 2, none⟩ = some (.string (H 1)) ∧ w'.cell? ⟨bb, 3, none⟩ = some (.string (H 2)) ∧ w'.cell? ⟨bb, 4, none⟩ = some (.string (H 3))) ∧ w'.cell? ⟨bb, 5, none⟩ = some (.int .i64 (sd : Int)))) ∧ (KtoAt (((((w'.setCell ⟨bb, 1, none⟩ (.string (N 0))).setCell ⟨bb, 2, none⟩ (.string (N 1))).setCell ⟨bb, 3, none⟩ (.string (N 2))).setCell ⟨bb, 4, none⟩ (.string (N 3))).setCell ⟨bb, 5, none⟩ (.int .i64 (t : Int))) B bb mb v (wsM M sd H N).1 N ((wsM M sd H N).2 : Int) ∧ Chg (ktoF bb mb v) w (((((w'.setCell ⟨bb, 1, none⟩ (.string (N 0))).setCell ⟨bb, 2, none⟩ (.string (N 1))).setCell ⟨bb, 3, none⟩ (.string (N 2))).setCell ⟨bb, 4, none⟩ (.string (N 3))).setCell ⟨bb, 5, none⟩ (.int .i64 (t : Int))))) := hide (by
        intro W hb
        refine (kput_any (hk.below hb) 0 (hdK t) (by rw [hlen]; have := unhide HL; omega) (hdK_size t)).mono ?_
        rintro e w' ⟨he, hk2, hc2⟩
        have hnb : w'.heap[w.heap.size]? = some (.cells #[.string (N 0), .string (N 1), .string (N 2), .string (N 3)] 64) := by
          have hlt := block_ltR hn
          rw [hc2.block _ (by have := hb.size; omega) hf, hb.block _ hlt]; exact hn
        obtain ⟨hp, hpc⟩ := hk2.put4 (N := N) (t : Int)
        rw [hwM]
        exact ⟨he, by refine ⟨?_, ?_, ?_, ?_⟩ <;> simp [World.cell?, hnb], fun i => hk2.frozen i, hk2.all, hp, ((hc.trans (Chg.of_below (ktoF bb mb v) hb) (fun x hx => .inl hx)).trans hc2 (fun x hx => .inl hx)).trans hpc (fun x hx => .inl (.inl hx))⟩)
      have o1 := fun W => one_any 1 W
      have o2 := fun W => one_any (t : Int) W
      have o3 := fun W => rep0_any 14 W (by decide)
      have hT := hdK_text t ht
      have e1 := oneS_size 1; have e2 := oneS_size (t : Int); have e3 := zsK_size 14
      have HB0 := hide (Below.refl wr.heap.size wr)
      generalize oneS 1 = a1 at *
      generalize oneS (t : Int) = a2 at *
      generalize zsK 14 = a3 at *
      rw [← hT] at HF
      have ha1 := fun w' => run_string_add_sum (P := Tryz.prog) w' a1 a2 (by omega)
      have ha2 := fun w' => run_string_add_sum (P := Tryz.prog) w' (a1 ++ a2) a3 (by rw [ByteArray.size_append]; omega)
      have O1 := hide o1; have O2 := hide o2; have O3 := hide o3
      clear hk hc hn hf hwM hm4 htd hlen ht hT e1 e2 e3 o1 o2 o3 hj
      go_wp2_with fail
      refine (unhide O1 _).mono ?_
      rintro e w1 ⟨rfl, b1⟩
      have HB1 := hide ((unhide HB0).trans b1)
      clear b1
      go_wp2_with fail
      refine (unhide O2 _).mono ?_
      rintro e w2 ⟨rfl, b2⟩
      have HB2 := hide ((unhide HB1).trans (b2.mono (unhide HB1).size))
      clear b2
      go_wp2_with fail
      refine (unhide O3 _).mono ?_
      rintro e w3 ⟨rfl, b3⟩
      have HB3 := hide ((unhide HB2).trans (b3.mono (unhide HB2).size))
      clear b3
      go_wp2_with fail
      refine (unhide HF _ (unhide HB3)).mono ?_
      rintro e w4 ⟨rfl, ⟨d0, d1, d2, d3⟩, hfz, ⟨⟨g1, g2, g3, g4⟩, g5⟩, hk⟩
      have f1 := hfz 1; have f2 := hfz 2; have f3 := hfz 3; have f4 := hfz 4; have f5 := hfz 5
      have HK := hide hk
      clear hk hfz
      go_wp2
      go_end0
      exact ⟨rfl, unhide HK⟩
    · have hj' : j < 4 := by omega
      have hNj := unhide HN j
      obtain ⟨⟨k0, k1, k2, k3⟩, _⟩ := hK.kto.all
      obtain ⟨mj, hmj⟩ : ∃ mj, mj = (wsP M sd H N j).1 := ⟨_, rfl⟩
      obtain ⟨t, htd⟩ : ∃ t, t = (wsP M sd H N j).2 := ⟨_, rfl⟩
      rw [← htd] at ht ⊢
      by_cases he : N j = H j
      · have hK' : KwR w B bb mb v M H N sd (j + 1) wr := ⟨by rw [wsP_same he]; exact hK.kto, hK.chg, hK.nxt, hK.far⟩
        have ht' : (wsP M sd H N (j + 1)).2 = t := by rw [wsP_same he, htd]
        have HK := hide hK'; have HT := hide ht'
        have hcmp := toList_eqK he
        have HHj := hide hj'
        clear hK hK' ht' he hmj htd hNj ht hj
        have x0 := idx4_0 (N 0) (N 1) (N 2) (N 3); have x1 := idx4_1 (N 0) (N 1) (N 2) (N 3); have x2 := idx4_2 (N 0) (N 1) (N 2) (N 3); have x3 := idx4_3 (N 0) (N 1) (N 2) (N 3)
        rcases four_casesD j hj' with rfl | rfl | rfl | rfl
        · clear hj' hj4
          go_wp2
          go_roundw
          case rel => exact ⟨1, by decide, rfl, by rw [unhide HT], unhide HK⟩
          case measure => simp [intOf]
        · clear hj' hj4
          go_wp2
          go_roundw
          case rel => exact ⟨2, by decide, rfl, by rw [unhide HT], unhide HK⟩
          case measure => simp [intOf]
        · clear hj' hj4
          go_wp2
          go_roundw
          case rel => exact ⟨3, by decide, rfl, by rw [unhide HT], unhide HK⟩
          case measure => simp [intOf]
        · clear hj' hj4
          go_wp2
          go_roundw
          case rel => exact ⟨4, by decide, rfl, by rw [unhide HT], unhide HK⟩
          case measure => simp [intOf]
      · have hcmp := toList_neK he
        have hx0 : bits .xor .i64 (t : Int) 1 = (flip t 0 : Int) := xor_flip t 0 ht (by decide)
        have hx1 : bits .xor .i64 (t : Int) 2 = (flip t 1 : Int) := xor_flip t 1 ht (by decide)
        have hx2 : bits .xor .i64 (t : Int) 4 = (flip t 2 : Int) := xor_flip t 2 ht (by decide)
        have hx3 : bits .xor .i64 (t : Int) 8 = (flip t 3 : Int) := xor_flip t 3 ht (by decide)
        have hfl := flip_lt ht hj'
        have P1 := hide (place_any j (flip t j) wr hj' hfl)
        have hlen : mj.C.length = M.C.length := by rw [hmj]; exact wsP_len j
        have hnew := wsP_new (M := M) (sd := sd) he
        rw [← hmj, ← htd] at hnew
        have HP : Hid (∀ (p : Int), p = (plK j (flip t j) : Int) → Calls Tryz.prog 119 #[.pointer (some ⟨bb, 0, none⟩), .int .i64 p, .string (N j)] wr fun e w' => e = .returned (.tuple #[]) ∧ KwR w B bb mb v M H N sd (j + 1) w') := hide (by
          rintro p rfl
          obtain ⟨hk, hc, hn, hf⟩ := hK
          rw [← hmj] at hk
          refine (kput_any hk (plK j (flip t j)) (N j) (by rw [hlen]; have := unhide HL; have := plK_lt (flip t j) hj'; omega) hNj).mono ?_
          rintro e w' ⟨he, hk2, hc2⟩
          refine ⟨he, by rw [hnew]; exact hk2, hc.trans hc2 (fun x hx => .inl hx), ?_, hf⟩
          rw [hc2.block _ (block_ltR hn) hf]; exact hn)
        have ht' : (wsP M sd H N (j + 1)).2 = flip t j := by rw [hnew]
        have HT := hide ht'
        clear hK ht' he hmj htd hNj ht hj hfl hnew hlen
        have x0 := idx4_0 (N 0) (N 1) (N 2) (N 3); have x1 := idx4_1 (N 0) (N 1) (N 2) (N 3); have x2 := idx4_2 (N 0) (N 1) (N 2) (N 3); have x3 := idx4_3 (N 0) (N 1) (N 2) (N 3)
        rcases four_casesD j hj' with rfl | rfl | rfl | rfl
        · clear hj' hj4
          generalize plK 0 (flip t 0) = pl at *
          generalize flip t 0 = ft at *
          go_wp2_with fail
          refine (unhide P1).mono ?_
          rintro r y1 ⟨rfl, hw1⟩
          subst hw1
          go_wp2_with fail
          refine (unhide HP _ rfl).mono ?_
          rintro r y2 ⟨rfl, hk2⟩
          have HK := hide hk2
          clear hk2
          go_wp2
          go_roundw
          case rel => exact ⟨1, by decide, rfl, by rw [unhide HT], unhide HK⟩
          case measure => simp [intOf]
        · clear hj' hj4
          generalize plK 1 (flip t 1) = pl at *
          generalize flip t 1 = ft at *
          go_wp2_with fail
          refine (unhide P1).mono ?_
          rintro r y1 ⟨rfl, hw1⟩
          subst hw1
          go_wp2_with fail
          refine (unhide HP _ rfl).mono ?_
          rintro r y2 ⟨rfl, hk2⟩
          have HK := hide hk2
          clear hk2
          go_wp2
          go_roundw
          case rel => exact ⟨2, by decide, rfl, by rw [unhide HT], unhide HK⟩
          case measure => simp [intOf]
        · clear hj' hj4
          generalize plK 2 (flip t 2) = pl at *
          generalize flip t 2 = ft at *
          go_wp2_with fail
          refine (unhide P1).mono ?_
          rintro r y1 ⟨rfl, hw1⟩
          subst hw1
          go_wp2_with fail
          refine (unhide HP _ rfl).mono ?_
          rintro r y2 ⟨rfl, hk2⟩
          have HK := hide hk2
          clear hk2
          go_wp2
          go_roundw
          case rel => exact ⟨3, by decide, rfl, by rw [unhide HT], unhide HK⟩
          case measure => simp [intOf]
        · clear hj' hj4
          generalize plK 3 (flip t 3) = pl at *
          generalize flip t 3 = ft at *
          go_wp2_with fail
          refine (unhide P1).mono ?_
          rintro r y1 ⟨rfl, hw1⟩
          subst hw1
          go_wp2_with fail
          refine (unhide HP _ rfl).mono ?_
          rintro r y2 ⟨rfl, hk2⟩
          have HK := hide hk2
          clear hk2
          go_wp2
          go_roundw
          case rel => exact ⟨4, by decide, rfl, by rw [unhide HT], unhide HK⟩
          case measure => simp [intOf]
end
end Go.Proofs.YtajkbkljonejnaaGreatDoor
namespace Go.Proofs.YtajkbkljonejnaaGreatDoor
set_option linter.unusedVariables false
def leftN (n : Nat) (listed : Array Bool) : Nat := (List.range n).countP (fun i => !listed.getD i true)
theorem countP_ltD {p q : Nat → Bool} (h : ∀ x, q x = true → p x = true) {i : Nat} (hp : p i = true) (hq : q i = false) : ∀ {l : List Nat}, i ∈ l → l.countP q < l.countP p := by
  intro l
  induction l with
  | nil => intro hi; cases hi
  | cons x l ih =>
    intro hi
    have hm : l.countP q ≤ l.countP p := List.countP_mono_left (fun x _ => h x)
    rw [List.countP_cons, List.countP_cons]
    rcases List.mem_cons.1 hi with rfl | hi
    · rw [hp, hq]; simp; omega
    · have := ih hi
      cases hx : q x with
      | false => simp; omega
      | true => rw [h x hx]; simp; omega
theorem leftN_lt {md : Region.Mode} {ops : Array Oper} {listed : Array Bool} {i : Nat} (h : i ∈ Region.ready md ops listed) : leftN ops.size (listed.setIfInBounds i true) < leftN ops.size listed := by
  obtain ⟨h0, o, ho, _⟩ := mem_ready.1 h
  have hi : i < ops.size := by
    rcases Nat.lt_or_ge i ops.size with h' | h'
    · exact h'
    · rw [Array.getElem?_eq_none h'] at ho; cases ho
  refine countP_ltD (i := i) (fun x hx => ?_) (by rw [h0]; rfl) ?_ (List.mem_range.2 hi)
  · by_cases hxi : i = x
    · subst hxi; rw [h0]; rfl
    · rw [getD_set_ne true hxi] at hx; exact hx
  · have hs : i < listed.size := by
      rcases Nat.lt_or_ge i listed.size with h' | h'
      · exact h'
      · simp [h'] at h0
    simp [hs]
theorem wpAny_inv {P : Program} {ops : Array Oper} {Q : Exit → Act → World → Prop} {md : Region.Mode} (Inv : Array Bool → Act → World → Prop)
    (hstep : ∀ listed a w i, Inv listed a w → i ∈ Region.ready md ops listed → wpOp P ops Q i (Inv (listed.setIfInBounds i true)) a w)
    (hend : ∀ listed a w, Inv listed a w → Region.ready md ops listed = [] → Q .normal a w) :
    ∀ fuel listed a w, leftN ops.size listed ≤ fuel → Inv listed a w → wpAny P md ops Q fuel listed a w := by
  intro fuel
  induction fuel with
  | zero =>
    intro listed a w hl hi
    have hr : Region.ready md ops listed = [] := by
      rw [List.eq_nil_iff_forall_not_mem]
      intro i h
      have := leftN_lt h
      omega
    exact ⟨hr, hend _ _ _ hi hr⟩
  | succ fuel ih =>
    intro listed a w hl hi
    refine ⟨hend _ _ _ hi, fun i h => wpOp_mono (fun a' w' h' => ih _ a' w' ?_ h') (hstep _ _ _ i hi h)⟩
    have := leftN_lt h
    omega
def dstOf (ops : Array Oper) (k : Nat) : Option Nat := (ops[k]?).bind (·.dst)
def offD (ops : Array Oper) (t : Nat) : Bool := ops.all (fun o => o.dst != some t)
def waits (ops : Array Oper) (k j : Nat) : Bool := ((ops[k]?).map (fun o => o.after.any (fun e => Region.binds .any e && e.on == j))).getD false
def inOrder (ops : Array Oper) : Bool := (List.range ops.size).all (fun i => ((ops[i]?).map (fun o => o.guard.isNone && o.after.all (fun e => !Region.binds .any e || decide (e.on < i)))).getD true)
def apartD (ops : Array Oper) (N : Nat) : Bool := (List.range ops.size).all (fun i => match dstOf ops i with | none => true | some d => decide (d < N) && (List.range ops.size).all (fun j => j == i || dstOf ops j != some d))
inductive Does (P : Program) (o : Oper) (a : Act) (w : World) (R : Value → World → Prop) : Prop where
  | value (v : Value) (w' : World) (h : (execOp a.eval o).run P w = .ok (.value v) w') (hr : R v w') : Does P o a w R
  | skip (w' : World) (h : (execOp a.eval o).run P w = .ok .skip w') (hr : R undef w') : Does P o a w R
  | call (f : FuncId) (args : Array Value) (h : (execOp a.eval o).run P w = .ok (.enter f args) w) (hr : Calls P f args w fun e w' => ∃ v, e = .returned v ∧ R v w') : Does P o a w R
theorem Does.wp {P : Program} {o : Oper} {a : Act} {w : World} {R : Value → World → Prop} {K : Act → World → Prop} {Q : Exit → Act → World → Prop} (h : Does P o a w R) (hk : ∀ v w', R v w' → K (a.put o.dst v) w') : Oper.wp P o a w K Q := by
  unfold Oper.wp
  cases h with
  | value v w' h hr => rw [h]; exact hk _ _ hr
  | skip w' h hr => rw [h]; exact hk _ _ hr
  | call f args h hr =>
    rw [h, Oper.upon_enter]
    refine hr.mono fun e w' hh => ?_
    obtain ⟨v, rfl, hk'⟩ := hh
    exact hk _ _ hk'
def HasD (ops : Array Oper) (c : Nat) (Φ : Nat → Value → Value → World → Prop) (k : Nat) (a : Act) (w : World) : Prop :=
  Φ k ((dstOf ops k).elim undef (fun d => a.eval (.tmp d))) (a.eval (.tmp c)) w
def StepD (P : Program) (ops : Array Oper) (c : Nat) (G : World → Prop) (Φ : Nat → Value → Value → World → Prop) (a0 : Act) (i : Nat) (o : Oper) : Prop :=
  ∀ (a : Act) (w : World), G w → (∀ j, waits ops i j = true → HasD ops c Φ j a w) → (∀ t, offD ops t = true → a.eval (.tmp t) = a0.eval (.tmp t)) →
    Does P o a w fun v w' => G w' ∧ Φ i (o.dst.elim undef (fun _ => v)) (if o.dst = some c then v else a.eval (.tmp c)) w' ∧ ∀ k y, waits ops k i = false → Φ k y (a.eval (.tmp c)) w → Φ k y (if o.dst = some c then v else a.eval (.tmp c)) w'
def StepsD (P : Program) (ops : Array Oper) (c : Nat) (G : World → Prop) (Φ : Nat → Value → Value → World → Prop) (a0 : Act) : Nat → List Oper → Prop
  | _, [] => True
  | i, o :: l => StepD P ops c G Φ a0 i o ∧ StepsD P ops c G Φ a0 (i + 1) l
theorem StepsD.at {P : Program} {ops : Array Oper} {c : Nat} {G : World → Prop} {Φ : Nat → Value → Value → World → Prop} {a0 : Act} : ∀ {l : List Oper} {i : Nat}, StepsD P ops c G Φ a0 i l → ∀ {k : Nat} {o : Oper}, l[k]? = some o → StepD P ops c G Φ a0 (i + k) o
  | [], _, _, k, o, h => by cases h
  | x :: l, i, hs, 0, o, h => by cases h; exact hs.1
  | x :: l, i, hs, k + 1, o, h => by
    have := StepsD.at hs.2 (k := k) (o := o) (by simpa using h)
    rw [Nat.add_assoc, Nat.add_comm 1 k] at this
    exact this
theorem put_evalD (a : Act) (d : Option Nat) (v : Value) (t : Nat) (hN : ∀ d', d = some d' → d' < a.tmps.size) : (a.put d v).eval (.tmp t) = if d = some t then v else a.eval (.tmp t) := by
  cases d with
  | none => simp [Act.put]
  | some d =>
    have hd := hN d rfl
    show (a.tmps.setIfInBounds d v).getD t undef = _
    by_cases h : d = t
    · subst h; simp [hd]
    · have : ¬ (some d = some t) := fun e => h (Option.some.inj e)
      rw [if_neg this]
      show _ = a.tmps.getD t undef
      simp [Array.getElem?_setIfInBounds_ne h]
theorem put_atD (a : Act) (d : Option Nat) (v : Value) (t : Nat) (h : d ≠ some t) : (a.put d v).tmps[t]? = a.tmps[t]? := by
  cases d with
  | none => rfl
  | some d =>
    have : d ≠ t := fun e => h (by rw [e])
    show (a.tmps.setIfInBounds d v)[t]? = _
    simp [Array.getElem?_setIfInBounds_ne this]
theorem put_sizeD (a : Act) (d : Option Nat) (v : Value) : (a.put d v).tmps.size = a.tmps.size := by
  cases d with
  | none => rfl
  | some d => show (a.tmps.setIfInBounds d v).size = _; simp
theorem put_defersD (a : Act) (d : Option Nat) (v : Value) : (a.put d v).defers = a.defers := by cases d <;> rfl
theorem all_listedD {ops : Array Oper} {listed : Array Bool} (hs : listed.size = ops.size) (ht : inOrder ops = true) (hr : Region.ready .any ops listed = []) : ∀ n i, i < n → i < ops.size → listed.getD i false = true := by
  intro n
  induction n with
  | zero => intro i h; omega
  | succ n ih =>
    intro i hi hn
    have h1 := List.all_eq_true.1 ht i (List.mem_range.2 hn)
    have ho : ops[i]? = some ops[i] := Array.getElem?_eq_getElem hn
    rw [ho] at h1
    simp only [Option.map_some, Option.getD_some, Bool.and_eq_true, Array.all_eq_true', Bool.or_eq_true, Bool.not_eq_true', decide_eq_true_eq] at h1
    have h2 : ∀ e ∈ (ops[i]).after, Region.binds .any e = true → e.on < i := fun e he hb => by
      rcases h1.2 e he with h | h
      · rw [hb] at h; cases h
      · exact h
    have hnr : ¬ i ∈ Region.ready .any ops listed := by rw [hr]; intro h; cases h
    have hl : i < listed.size := by omega
    by_cases hx : listed.getD i true = false
    · exact absurd (mem_ready.2 ⟨hx, ops[i], ho, fun e he hb => ih e.on (by have := h2 e he hb; omega) (by have := h2 e he hb; omega)⟩) hnr
    · simp [hl] at hx ⊢; exact hx
def mixL (ts : Array Value) : Nat → List Bool → List Value → List Value
  | k, true :: m, _ :: l => ts.getD k undef :: mixL ts (k + 1) m l
  | k, false :: m, x :: l => x :: mixL ts (k + 1) m l
  | _, _, _ => []
theorem mixL_at (ts : Array Value) : ∀ (l : List Value) (m : List Bool) (k : Nat), m.length = l.length → ∀ i, (mixL ts k m l)[i]? = if m[i]? = some true then some (ts.getD (k + i) undef) else l[i]?
  | [], [], _, _, i => by simp [mixL]
  | [], _ :: _, _, h, _ => by simp at h
  | _ :: _, [], _, h, _ => by simp at h
  | x :: l, true :: m, k, h, 0 => by simp [mixL]
  | x :: l, false :: m, k, h, 0 => by simp [mixL]
  | x :: l, true :: m, k, h, i + 1 => by simp only [mixL, List.getElem?_cons_succ]; rw [mixL_at ts l m _ (by simpa using h) i, Nat.add_assoc, Nat.add_comm 1 i]
  | x :: l, false :: m, k, h, i + 1 => by simp only [mixL, List.getElem?_cons_succ]; rw [mixL_at ts l m _ (by simpa using h) i, Nat.add_assoc, Nat.add_comm 1 i]
theorem mix_eq {ops : Array Oper} {a a0 : Act} {l : List Value} (m : List Bool) (h0 : a0.tmps = l.toArray) (hm : m.length = l.length) (hs : a.tmps.size = m.length) (hd : a.defers = a0.defers)
    (hk : (List.range m.length).all (fun t => m.getD t true || offD ops t) = true) (hoff : ∀ t, offD ops t = true → a.tmps[t]? = a0.tmps[t]?) : a = ⟨(mixL a.tmps 0 m l).toArray, a0.defers⟩ := by
  obtain ⟨ts, df⟩ := a
  have hd' : df = a0.defers := hd
  subst hd'
  congr 1
  show ts = (mixL ts 0 m l).toArray
  have hs' : ts.size = m.length := hs
  apply Array.ext_getElem?
  intro i
  have e9 : (mixL ts 0 m l).toArray[i]? = (mixL ts 0 m l)[i]? := by simp
  rw [e9, mixL_at ts l m 0 hm i, Nat.zero_add]
  rcases Nat.lt_or_ge i m.length with hi | hi
  · have hk' := List.all_eq_true.1 hk i (List.mem_range.2 hi)
    split
    · have hi2 : i < ts.size := by omega
      simp [hi2]
    · rename_i hne
      have hf : m.getD i true = false := by
        cases hb : m[i]? with
        | none => rw [List.getElem?_eq_none_iff] at hb; omega
        | some b => cases b with
          | true => exact absurd hb hne
          | false => simp [hb]
      rw [hf, Bool.false_or] at hk'
      have := hoff i hk'
      rw [h0] at this
      simpa using this
  · have h1 : ts[i]? = none := Array.getElem?_eq_none (by omega)
    have h2 : m[i]? = none := List.getElem?_eq_none (by omega)
    rw [h1, h2, List.getElem?_eq_none (by omega)]
    simp
theorem evT {a : Act} {t : Nat} {v : Value} (h : a.eval (.tmp t) = v) : a.tmps[t]?.getD undef = v := by
  rw [← h]
  show _ = a.tmps.getD t undef
  simp
theorem does_call1 {P : Program} {o : Oper} {a : Act} {w : World} {R : Value → World → Prop} (f : FuncId) (x : Operand) (ts : Array TypeId)
    (ho : o.op = .call { callee := .value (.func f), args := #[x], argTypes := ts }) (v : Value) (hx : a.eval x = v) (hf : ∀ args w, (callFunc f args).run P w = .ok (.enter f args) w)
    {S : Ending → World → Prop} (hc : Calls P f #[v] w S) (hv : ∀ e w', S e w' → ∃ v, e = .returned v ∧ R v w') : Does P o a w R := by
  refine Does.call f #[v] ?_ (hc.mono hv)
  obtain ⟨dst, op, ty, pos, after, guard⟩ := o
  cases ho
  show (callFunc f (#[] ++ #[x].map a.eval ++ #[])).run P w = _
  have e : (#[] ++ #[x].map a.eval ++ #[]) = #[v] := by simp [hx]
  rw [e]; exact hf _ _
theorem does_call2 {P : Program} {o : Oper} {a : Act} {w : World} {R : Value → World → Prop} (f : FuncId) (x y : Operand) (ts : Array TypeId)
    (ho : o.op = .call { callee := .value (.func f), args := #[x, y], argTypes := ts }) (v u : Value) (hx : a.eval x = v) (hy : a.eval y = u) (hf : ∀ args w, (callFunc f args).run P w = .ok (.enter f args) w)
    {S : Ending → World → Prop} (hc : Calls P f #[v, u] w S) (hv : ∀ e w', S e w' → ∃ v, e = .returned v ∧ R v w') : Does P o a w R := by
  refine Does.call f #[v, u] ?_ (hc.mono hv)
  obtain ⟨dst, op, ty, pos, after, guard⟩ := o
  cases ho
  show (callFunc f (#[] ++ #[x, y].map a.eval ++ #[])).run P w = _
  have e : (#[] ++ #[x, y].map a.eval ++ #[]) = #[v, u] := by simp [hx, hy]
  rw [e]; exact hf _ _
end Go.Proofs.YtajkbkljonejnaaGreatDoor
