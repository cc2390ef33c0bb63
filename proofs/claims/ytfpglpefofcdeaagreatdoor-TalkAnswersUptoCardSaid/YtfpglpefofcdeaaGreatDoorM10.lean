/- The library's strings.Trim at a text of digits: is the text made of digits alone? -/
import Derived.Shelf.Strings.AsciiSet
import Derived.Test.YtfpglpefofcdeaaGreatDoorM00
import Derived.BigQuiet
import Derived.Deep.DeepCutAuto
import Derived.Test.YtfpglpefofcdeaaGreatDoorM09
import Derived.Test.YtfpglpefofcdeaaGreatDoorM01
import Derived.Shelf.Strings.Builder1
import Derived.Shelf.Strings.Builder2
import Derived.Shelf.Strings.BuilderF
import Derived.Shelf.Strings.Prefix
import Derived.Shelf.Bits.Mul64
import Derived.Shelf.Strings.Repeat
import Derived.Test.YtfpglpefofcdeaaGreatDoorProg
import Derived.Test.YtfpglpefofcdeaaGreatDoorRows
import Derived.ProofKit
import Derived.SliceStrings
import Derived.OpenShut
namespace Go.Proofs
open Go.Shelf
def Tryz.lays227_ren : Go.Shelf.Ren := ⟨fun | 227 => 102 | n => n, fun | 9 => 9 | 116 => 152 | 4 => 4 | 0 => 0 | 3 => 3 | 5 => 5 | n => n, fun | n => n⟩
theorem Tryz.lays227 : Go.Proofs.Lays.n227 Tryz.prog Tryz.lays227_ren := {
  mixed := by kernel_rfl
  f227 := Tryz.func102.trans (congrArg some (by kernel_rfl))
  t0 := Tryz.underlying0
  a0 := Tryz.isAgg0
  z0 := Tryz.sizeOf0
  v0 := Tryz.zeroValue0
  t3 := Tryz.underlying3
  a3 := Tryz.isAgg3
  z3 := Tryz.sizeOf3
  v3 := Tryz.zeroValue3
  t4 := Tryz.underlying4
  a4 := Tryz.isAgg4
  z4 := Tryz.sizeOf4
  v4 := Tryz.zeroValue4
  t5 := Tryz.underlying5
  a5 := Tryz.isAgg5
  z5 := Tryz.sizeOf5
  v5 := Tryz.zeroValue5
  t9 := Tryz.underlying9
  a9 := Tryz.isAgg9
  z9 := Tryz.sizeOf9
  v9 := Tryz.zeroValue9
  t116 := Tryz.underlying152
  a116 := Tryz.isAgg152
  z116 := Tryz.sizeOf152 }
def Tryz.lays228_ren : Go.Shelf.Ren := ⟨fun | 228 => 125 | n => n, fun | 124 => 156 | 5 => 5 | 4 => 4 | 0 => 0 | 116 => 152 | n => n, fun | n => n⟩
theorem Tryz.lays228 : Go.Proofs.Lays.n228 Tryz.prog Tryz.lays228_ren := {
  mixed := by kernel_rfl
  f228 := Tryz.func125.trans (congrArg some (by kernel_rfl))
  t0 := Tryz.underlying0
  a0 := Tryz.isAgg0
  z0 := Tryz.sizeOf0
  v0 := Tryz.zeroValue0
  t4 := Tryz.underlying4
  a4 := Tryz.isAgg4
  z4 := Tryz.sizeOf4
  v4 := Tryz.zeroValue4
  t5 := Tryz.underlying5
  a5 := Tryz.isAgg5
  z5 := Tryz.sizeOf5
  v5 := Tryz.zeroValue5
  t116 := Tryz.underlying152
  a116 := Tryz.isAgg152
  z116 := Tryz.sizeOf152
  t124 := Tryz.underlying156
  a124 := Tryz.isAgg156
  z124 := Tryz.sizeOf156
  v124 := Tryz.zeroValue156 }
end Go.Proofs
namespace Go.Proofs.YtfpglpefofcdeaaGreatDoor
open Go.RowKit
set_option linter.unusedVariables false

def digitsT : ByteArray := ⟨#[48, 49, 50, 51, 52, 53, 54, 55, 56, 57]⟩
/-- is a byte a digit? -/
def isDig (b : UInt8) : Bool := digitsT.data.toList.contains b
set_option maxRecDepth 100000 in
theorem isDig_iff (b : UInt8) : isDig b = true ↔ 48 ≤ b.toNat ∧ b.toNat ≤ 57 := by
  have h : ∀ n : Fin 256, isDig (UInt8.ofNat n.val) = decide (48 ≤ n.val ∧ n.val ≤ 57) := by decide
  have hb := h ⟨b.toNat, b.toNat_lt⟩
  simp only [UInt8.ofNat_toNat] at hb
  rw [hb, decide_eq_true_iff]
def allDig (s : ByteArray) : Bool := s.data.toList.all isDig
/-- the set of digits, in a block -/
def SetAt (w : World) (g : Nat) : Prop := ∀ x : UInt8, w.cell? ⟨g, x.toNat, none⟩ = some (.bool (isDig x))
theorem contains_any (g : Nat) (x : UInt8) (w : World) (h : SetAt w g) :
    Calls Tryz.prog 125 #[.pointer (some ⟨g, 0, none⟩), .int .u8 x.toNat] w fun e w' => e = .returned (.bool (isDig x)) ∧ w' = w :=
  Any.asciiSet_contains Tryz.lays228 g x (isDig x) w (h x)

/-- a byte of a text, as the walk reads it -/
theorem byte_run (st : ByteArray) (i : Nat) (x : UInt8) (hx : st.data.toList[i]? = some x) (wx : World) : (Instr.index 9 (.string st) (.int .i64 (i : Int))).run Tryz.prog wx = .ok (.int .u8 x.toNat) wx := by
  have hi : i < st.size := by
    have := (List.getElem?_eq_some_iff.1 hx).1
    simpa using this
  rw [run_index_string wx 9 st .i64 (i : Int) Tryz.underlying9, dif_pos ⟨by omega, by omega⟩]
  have e : st[(i : Int).toNat]'(by simpa using hi) = x := by
    have h2 := (List.getElem?_eq_some_iff.1 hx).2
    have h3 : st.data[i]'hi = x := by simpa using h2
    exact h3
  simp only [e]
theorem extract_list (s : ByteArray) (a b : Nat) : (s.extract a b).data.toList = (s.data.toList.drop a).take (b - a) := by
  rw [ByteArray.data_extract, Array.toList_extract, List.extract_eq_take_drop]
theorem slice_to (st : ByteArray) (j : Nat) (h : j ≤ st.size) (wx : World) : (Instr.slice 9 (.string st) none (some (.int .i64 (j : Int))) none).run Tryz.prog wx = .ok (.string (st.extract 0 j)) wx := by
  have hx := run_slice_string_to_if (P := Tryz.prog) wx 9 st .i64 (j : Int) Tryz.underlying9
  rw [if_pos ⟨by omega, by omega⟩, Int.toNat_natCast] at hx
  exact hx
theorem slice_from (st : ByteArray) (j : Nat) (h : j ≤ st.size) (wx : World) : (Instr.slice 9 (.string st) (some (.int .i64 (j : Int))) none none).run Tryz.prog wx = .ok (.string (st.extract j st.size)) wx := by
  have hx := run_slice_string_from_if (P := Tryz.prog) wx 9 st .i64 (j : Int) Tryz.underlying9
  rw [if_pos ⟨by omega, by omega⟩, Int.toNat_natCast] at hx
  exact hx
def restDig (s : ByteArray) (m : Nat) : Prop := (s.data.toList.drop m).all isDig = true
def lastBad (s : ByteArray) (m : Nat) : Prop := m = 0 ∨ ∃ x, s.data.toList[m - 1]? = some x ∧ isDig x = false
theorem all_drop (l : List UInt8) (m : Nat) (x : UInt8) (hx : l[m]? = some x) (h : (l.drop (m + 1)).all isDig = true) (hd : isDig x = true) : (l.drop m).all isDig = true := by
  obtain ⟨hlt, he⟩ := List.getElem?_eq_some_iff.1 hx
  rw [List.drop_eq_getElem_cons hlt, List.all_cons, he, hd, h]
  rfl

set_option maxRecDepth 100000 in
set_option maxHeartbeats 1000000 in
theorem trimR_any (s : ByteArray) (g : Nat) (w : World) (h : SetAt w g) (hs : (s.size : Int) ≤ 9223372036854775807) :
    Calls Tryz.prog 104 #[.string s, .pointer (some ⟨g, 0, none⟩)] w fun e w' => w' = w ∧ ∃ m, m ≤ s.size ∧ e = .returned (.string (s.extract 0 m)) ∧ restDig s m ∧ lastBad s m := by
  have N1 := hide (fun x => contains_any g x w h)
  clear h
  go_enter Tryz.func104, Tryz.ntmps104
  go_wp2
  go_loopw [0] (fun t wr => wr = w ∧ ∃ m, m ≤ s.size ∧ t = .string (s.extract 0 m) ∧ restDig s m) (fun t _ => match t with | .string st => st.size | _ => 0)
  case atStart => exact ⟨rfl, s.size, Nat.le_refl _, by rw [show s.extract 0 s.size = s from by simp], by unfold restDig; rw [List.drop_of_length_le (by simp)]; rfl⟩
  case round =>
    obtain ⟨rfl, m, hm, rfl, hall⟩ := hrel
    have hez : (s.extract 0 m).size = m := by rw [ByteArray.size_extract]; omega
    have HALL := hide hall
    clear hall
    by_cases h0 : m = 0
    · subst h0
      have hez' : ((s.extract 0 0).size : Int) = 0 := by omega
      have HST := hide (show s.extract 0 0 = s.extract 0 0 from rfl)
      generalize hst : s.extract 0 0 = st at *
      have HS := hide hst
      clear hst hez hm
      go_wp2
      go_ret
      exact ⟨by first | rfl | trivial, 0, Nat.zero_le _, by rw [unhide HS]; rfl, unhide HALL, (.inl rfl : lastBad s 0)⟩
    · obtain ⟨n, rfl⟩ : ∃ n, m = n + 1 := ⟨m - 1, by omega⟩
      have hl : n < s.data.toList.length := by simp; omega
      obtain ⟨x, hx⟩ : ∃ x, s.data.toList[n]? = some x := ⟨_, List.getElem?_eq_getElem hl⟩
      have hx2 : (s.extract 0 (n + 1)).data.toList[n]? = some x := by rw [extract_list, List.drop_zero, List.getElem?_take, if_pos (by omega)]; exact hx
      have hbr := fun wx => byte_run (s.extract 0 (n + 1)) n x hx2 wx
      have hsl := fun wx => slice_to (s.extract 0 (n + 1)) n (by omega) wx
      have hee : (s.extract 0 (n + 1)).extract 0 n = s.extract 0 n := by
        rw [ByteArray.extract_extract]
        congr 1
        omega
      rw [hee] at hsl
      have HX := hide hx
      have HS := hide (show s.extract 0 (n + 1) = s.extract 0 (n + 1) from rfl)
      generalize hst : s.extract 0 (n + 1) = st at *
      have HST := hide hst
      have hezi : (st.size : Int) = (n : Int) + 1 := by omega
      have hnI : (n : Int) ≤ 9223372036854775806 := by omega
      have hn0 : (0 : Int) ≤ (n : Int) := by omega
      have HZ := hide hez
      have HM := hide hm
      clear hst hx2 hee hl hx hez h0 hm
      cases hd : isDig x with
      | true =>
        have n1 := unhide N1 x
        rw [hd] at n1
        have M1 := hide n1
        have HD := hide (all_drop s.data.toList n x (unhide HX) (unhide HALL) hd)
        clear n1 hd
        go_wp2_with fail
        refine (unhide M1).mono ?_
        rintro e w1 ⟨rfl, rfl⟩
        go_wp2
        go_roundw
        case rel => exact ⟨by first | rfl | trivial, n, by have := unhide HM; omega, rfl, unhide HD⟩
        case measure =>
          have h1 := unhide HZ
          have h2 : (s.extract 0 n).size = n := by rw [ByteArray.size_extract]; have := unhide HM; omega
          simp only []
          omega
      | false =>
        have n1 := unhide N1 x
        rw [hd] at n1
        have M1 := hide n1
        have HD := hide (show lastBad s (n + 1) from .inr ⟨x, unhide HX, hd⟩)
        clear n1 hd
        go_wp2_with fail
        refine (unhide M1).mono ?_
        rintro e w1 ⟨rfl, rfl⟩
        go_wp2
        go_ret
        exact ⟨by first | rfl | trivial, n + 1, unhide HM, by rw [unhide HST]; rfl, unhide HALL, unhide HD⟩

def headDig (s : ByteArray) (k : Nat) : Prop := (s.data.toList.take k).all isDig = true
def nextBad (s : ByteArray) (k : Nat) : Prop := k = s.size ∨ ∃ x, s.data.toList[k]? = some x ∧ isDig x = false
theorem all_take (l : List UInt8) (m : Nat) (x : UInt8) (hx : l[m]? = some x) (h : (l.take m).all isDig = true) (hd : isDig x = true) : (l.take (m + 1)).all isDig = true := by
  obtain ⟨hlt, he⟩ := List.getElem?_eq_some_iff.1 hx
  rw [List.take_succ_eq_append_getElem hlt, List.all_append, h, he]
  simp [hd]
set_option maxRecDepth 100000 in
set_option maxHeartbeats 1000000 in
theorem trimL_any (s : ByteArray) (g : Nat) (w : World) (h : SetAt w g) (hs : (s.size : Int) ≤ 9223372036854775807) :
    Calls Tryz.prog 103 #[.string s, .pointer (some ⟨g, 0, none⟩)] w fun e w' => w' = w ∧ ∃ k, k ≤ s.size ∧ e = .returned (.string (s.extract k s.size)) ∧ headDig s k ∧ nextBad s k := by
  have N1 := hide (fun x => contains_any g x w h)
  clear h
  go_enter Tryz.func103, Tryz.ntmps103
  go_wp2
  go_loopw [0] (fun t wr => wr = w ∧ ∃ k, k ≤ s.size ∧ t = .string (s.extract k s.size) ∧ headDig s k) (fun t _ => match t with | .string st => st.size | _ => 0)
  case atStart => exact ⟨rfl, 0, Nat.zero_le _, by rw [show s.extract 0 s.size = s from by simp], rfl⟩
  case round =>
    obtain ⟨rfl, k, hk, rfl, hall⟩ := hrel
    have hez : (s.extract k s.size).size = s.size - k := by rw [ByteArray.size_extract]; omega
    have HALL := hide hall
    clear hall
    by_cases h0 : k = s.size
    · have hez' : ((s.extract k s.size).size : Int) = 0 := by omega
      have HK := hide (show nextBad s k from .inl h0)
      generalize hst : s.extract k s.size = st at *
      have HS := hide hst
      clear hst hez h0
      go_wp2
      go_ret
      exact ⟨by first | rfl | trivial, k, hk, by rw [unhide HS]; rfl, unhide HALL, unhide HK⟩
    · have hl : k < s.data.toList.length := by simp; omega
      obtain ⟨x, hx⟩ : ∃ x, s.data.toList[k]? = some x := ⟨_, List.getElem?_eq_getElem hl⟩
      have hx2 : (s.extract k s.size).data.toList[0]? = some x := by
        rw [extract_list, List.getElem?_take, if_pos (by omega), List.getElem?_drop]
        exact hx
      have hbr := fun wx => byte_run (s.extract k s.size) 0 x hx2 wx
      have hsl := fun wx => slice_from (s.extract k s.size) 1 (by omega) wx
      have hee : (s.extract k s.size).extract 1 (s.extract k s.size).size = s.extract (k + 1) s.size := by
        rw [hez, ByteArray.extract_extract]
        congr 1
        omega
      rw [hee] at hsl
      have HX := hide hx
      generalize hst : s.extract k s.size = st at *
      have HST := hide hst
      have hezi : (0 : Int) < (st.size : Int) := by omega
      have HZ := hide hez
      have HM := hide (show k + 1 ≤ s.size by omega)
      simp only [Int.cast_ofNat_Int] at hbr hsl
      clear hst hx2 hee hl hx hez h0 hk
      cases hd : isDig x with
      | true =>
        have n1 := unhide N1 x
        rw [hd] at n1
        have M1 := hide n1
        have HD := hide (show headDig s (k + 1) from all_take s.data.toList k x (unhide HX) (unhide HALL) hd)
        clear n1 hd
        go_wp2_with fail
        refine (unhide M1).mono ?_
        rintro e w1 ⟨rfl, rfl⟩
        go_wp2
        go_roundw
        case rel => exact ⟨by first | rfl | trivial, k + 1, unhide HM, rfl, unhide HD⟩
        case measure =>
          have h1 := unhide HZ
          have h2 : (s.extract (k + 1) s.size).size = s.size - (k + 1) := by rw [ByteArray.size_extract]; have := unhide HM; omega
          have h3 := unhide HM
          simp only []
          omega
      | false =>
        have n1 := unhide N1 x
        rw [hd] at n1
        have M1 := hide n1
        have HD := hide (show nextBad s k from .inr ⟨x, unhide HX, hd⟩)
        clear n1 hd
        go_wp2_with fail
        refine (unhide M1).mono ?_
        rintro e w1 ⟨rfl, rfl⟩
        go_wp2
        go_ret
        exact ⟨by first | rfl | trivial, k, by have := unhide HM; omega, by rw [unhide HST]; rfl, unhide HALL, unhide HD⟩

/-- both cuts together: nothing is left just where all is digits -/
theorem trim_empty (s : ByteArray) (m k : Nat) (hm : m ≤ s.size) (hr : restDig s m) (hb : lastBad s m) (hk : k ≤ (s.extract 0 m).size) (hh : headDig (s.extract 0 m) k) (hn : nextBad (s.extract 0 m) k) :
    ((s.extract 0 m).extract k (s.extract 0 m).size).toList.isEmpty = allDig s := by
  have hez : (s.extract 0 m).size = m := by rw [ByteArray.size_extract]; omega
  have hle : ((s.extract 0 m).extract k (s.extract 0 m).size).toList.length = m - k := by
    rw [Lib.toList_data]
    have : ((s.extract 0 m).extract k (s.extract 0 m).size).size = m - k := by rw [ByteArray.size_extract, hez]; omega
    rw [Array.length_toList]
    exact this
  cases ha : allDig s with
  | true =>
    rw [List.isEmpty_iff, ← List.length_eq_zero_iff, hle]
    rcases hb with hb | ⟨x, hx, hd⟩
    · omega
    · exfalso
      have := List.all_eq_true.1 ha x (List.mem_of_getElem? hx)
      rw [hd] at this
      cases this
  | false =>
    rw [List.isEmpty_eq_false_iff]
    intro e
    have hmk : m - k = 0 := by rw [← hle, e]; rfl
    have hkm : k = m := by omega
    have : allDig s = true := by
      unfold allDig
      rw [← List.take_append_drop m s.data.toList, List.all_append]
      have h1 : (s.data.toList.take m).all isDig = true := by
        have := hh
        unfold headDig at this
        rw [extract_list, List.drop_zero, List.take_take] at this
        rw [show min k (m - 0) = m by omega] at this
        exact this
      rw [h1]
      exact hr
    rw [ha] at this
    cases this

set_option maxRecDepth 100000 in
theorem zeroSet : ∀ w, (zeroValue 152).run Tryz.prog w = .ok (.agg (Array.replicate 256 (.bool false))) w := fun w => Tryz.zeroValue152 w
theorem makeSet_any (w : World) : Calls Tryz.prog 102 #[.string digitsT] w fun e w' => e = .returned (.tuple #[.agg (Lib.setCells digitsT.data.toList), .bool true]) ∧ w' = w.alloc (.cells (Lib.setCells digitsT.data.toList) 152) :=
  Any.strings_makeASCIISet Tryz.lays227 zeroSet (by kernel_rfl) digitsT w (by decide) (fun j b hb => by
    have hm := List.mem_of_getElem? hb
    have : ∀ b ∈ digitsT.data.toList, b.toNat < 128 := by decide
    exact this b hm)

set_option maxRecDepth 100000 in
set_option maxHeartbeats 1000000 in
theorem trim_any (s : ByteArray) (w : World) (hs : (s.size : Int) ≤ 9223372036854775807) :
    Calls Tryz.prog 66 #[.string s, .string digitsT] w fun e w' => Below w.heap.size w w' ∧ ∃ t, e = .returned (.string t) ∧ t.toList.isEmpty = allDig s := by
  by_cases h0 : s.size = 0
  · have hse : s.toList.isEmpty = true := by
      rw [Lib.toList_data, List.isEmpty_iff]
      exact List.length_eq_zero_iff.1 (by simpa using h0)
    go_enter Tryz.func66, Tryz.ntmps66
    go_wp2
    go_ret
    refine ⟨Below.refl _ _, s, rfl, ?_⟩
    rw [hse, allDig]
    rw [Lib.toList_data] at hse
    rw [List.isEmpty_iff.1 hse]; rfl
  · have hse : s.toList.isEmpty = false := by
      rw [Lib.toList_data, List.isEmpty_eq_false_iff]
      exact fun e => h0 (by have := congrArg List.length e; simpa using this)
    have hde : digitsT.toList.isEmpty = false := by rw [Lib.toList_data]; rfl
    have hd10 : (digitsT.size : Int) = 10 := rfl
    have N1 := hide (makeSet_any w)
    have hcs : (Lib.setCells digitsT.data.toList).size = 256 := by rfl
    have hone := Lib.setCells_one digitsT.data.toList
    have hat : ∀ x : UInt8, ((w.alloc (.cells (Lib.setCells digitsT.data.toList) 152)).alloc (.cells (Lib.setCells digitsT.data.toList) 152)).cell? ⟨w.heap.size + 1, x.toNat, none⟩ = some (.bool (digitsT.data.toList.contains x)) := fun x => by
      rw [World.cell?_alloc_at _ _ _ _ (by simp), Lib.setCells_at]
    have hset : SetAt ((w.alloc (.cells (Lib.setCells digitsT.data.toList) 152)).alloc (.cells (Lib.setCells digitsT.data.toList) 152)) (w.heap.size + 1) := hat
    clear hat
    generalize hdt : digitsT = dt at hde hd10 N1 ⊢
    rw [hdt] at hcs hone hset
    generalize hcc : Lib.setCells dt.data.toList = cs at *
    have hsc : (storeCells ⟨w.heap.size + 1, 0, none⟩ cs.toList 0).run Tryz.prog ((w.alloc (.cells cs 152)).alloc (.cells Tryz.zeroCells152 152)) = .ok () ((w.alloc (.cells cs 152)).alloc (.cells cs 152)) := by
      have := run_storeCells_new (P := Tryz.prog) (w.alloc (.cells cs 152)) 152 Tryz.zeroCells152 cs (by rw [hcs]; rfl) (by rw [hcs]; rfl) hone
      simpa using this
    obtain ⟨w2, hw2⟩ : ∃ w2, w2 = (w.alloc (.cells cs 152)).alloc (.cells cs 152) := ⟨_, rfl⟩
    have hb2 : Below w.heap.size w w2 := by
      rw [hw2]; exact ((Below.refl _ _).alloc (Nat.le_refl _) _).alloc (by simp) _
    rw [← hw2] at hsc hset
    clear hw2
    have N2 := hide (trimR_any s (w.heap.size + 1) w2 hset hs)
    have N3 := hide (fun (t : ByteArray) (ht : (t.size : Int) ≤ 9223372036854775807) => trimL_any t (w.heap.size + 1) w2 hset ht)
    go_enter Tryz.func66, Tryz.ntmps66
    go_wp2_with fail
    refine (unhide N1).mono ?_
    rintro e w1 ⟨rfl, rfl⟩
    go_upto_region 6 with fail
    go_wp2_with fail
    refine (unhide N2).mono ?_
    rintro e w1 ⟨rfl, m, hm, rfl, hr, hb⟩
    have hz : ((s.extract 0 m).size : Int) ≤ 9223372036854775807 := by rw [ByteArray.size_extract]; omega
    have hN3 := hide (unhide N3 _ hz)
    go_wp2_with fail
    refine (unhide hN3).mono ?_
    rintro e w1 ⟨rfl, k, hk, rfl, hh, hn⟩
    have he := trim_empty s m k hm hr hb hk hh hn
    generalize (s.extract 0 m).extract k (s.extract 0 m).size = t at *
    go_wp2
    go_ret
    exact ⟨hb2, t, rfl, he⟩
end Go.Proofs.YtfpglpefofcdeaaGreatDoor
namespace Go.Proofs.YtfpglpefofcdeaaGreatDoor
open Go.RowKit
set_option linter.unusedVariables false
set_option linter.unusedSimpArgs false
set_option maxRecDepth 100000

def idB (s : ByteArray) : Bool := inT s.size 8 19 && allDig s
set_option maxHeartbeats 2000000 in
theorem isId_any (s : ByteArray) (w : World) (hs : s.size ≤ maxLen) : Calls Tryz.prog 32 #[.string s] w fun e w' => e = .returned (.bool (idB s)) ∧ Below w.heap.size w w' := by
  have N1 := hide (fun W => twithin_any (s.size : Int) 8 19 W)
  have hs2 : (s.size : Int) ≤ 9223372036854775807 := by unfold maxLen at hs; omega
  have N2 := hide (fun W => trim_any s W hs2)
  unfold idB
  cases h : inT (s.size : Int) 8 19 with
  | false =>
    rw [h] at N1
    clear h hs N2
    go_enter Tryz.func32, Tryz.ntmps32
    go_wp2_with fail
    refine (unhide N1 _).mono ?_
    rintro e w1 ⟨rfl, hw⟩
    have hw' := hw.symm
    subst hw'
    go_wp2
    go_ret
    exact ⟨rfl, Below.refl _ _⟩
  | true =>
    rw [h] at N1
    clear h hs
    unfold digitsT at N2
    go_enter Tryz.func32, Tryz.ntmps32
    go_wp2_with fail
    refine (unhide N1 _).mono ?_
    rintro e w1 ⟨rfl, hw⟩
    have hw' := hw.symm
    subst hw'
    go_wp2_with fail
    refine (unhide N2 _).mono ?_
    rintro e w2 ⟨hb, t, rfl, ht⟩
    have HB := hide hb
    have HT := hide ht
    clear hb ht
    go_wp2
    go_ret
    exact ⟨by rw [← unhide HT]; simp, unhide HB⟩
def maskB (n : Int) : Bool := inT n 0 4095
def masksE (d o f : Int) : Int := if (maskB d && maskB o && maskB f) = true then 0 else 3
def masksS (d o f : Int) : ByteArray := if (maskB d && maskB o && maskB f) = true then numS d 2 ++ numS o 2 ++ numS f 2 else ⟨#[]⟩
def mask3 (d o f : Int) (i : Nat) : Int := if i = 0 then d else if i = 1 then o else f
/-- what is written behind so many -/
def maskTo (d o f : Int) : Nat → ByteArray
  | 0 => ⟨#[]⟩
  | i + 1 => maskTo d o f i ++ numS (mask3 d o f i) 2
def maskAll (d o f : Int) : Nat → Bool
  | 0 => true
  | i + 1 => maskAll d o f i && maskB (mask3 d o f i)
theorem maskTo_size (d o f : Int) (i : Nat) (hi : i ≤ 3) : (maskTo d o f i).size ≤ 24 := by
  have h0 := numS_size (mask3 d o f 0) 2
  have h1 := numS_size (mask3 d o f 1) 2
  have h2 := numS_size (mask3 d o f 2) 2
  have : i = 0 ∨ i = 1 ∨ i = 2 ∨ i = 3 := by omega
  rcases this with rfl | rfl | rfl | rfl
  · show (⟨#[]⟩ : ByteArray).size ≤ 24; decide
  · simp only [maskTo, ByteArray.size_append]; have : (⟨#[]⟩ : ByteArray).size = 0 := rfl; omega
  · simp only [maskTo, ByteArray.size_append]; have : (⟨#[]⟩ : ByteArray).size = 0 := rfl; omega
  · simp only [maskTo, ByteArray.size_append]; have : (⟨#[]⟩ : ByteArray).size = 0 := rfl; omega
theorem masksE_3 {d o f : Int} (h : maskAll d o f 3 = true) : masksE d o f = 0 ∧ masksS d o f = maskTo d o f 3 := by
  have h' : (maskB d && maskB o && maskB f) = true := by simpa [maskAll, mask3] using h
  refine ⟨by unfold masksE; rw [if_pos h'], ?_⟩
  unfold masksS
  rw [if_pos h']
  apply ByteArray.ext
  simp [maskTo, mask3]
theorem masksE_no {d o f : Int} {i : Nat} (hi : i < 3) (h : maskB (mask3 d o f i) = false) : masksE d o f = 3 ∧ masksS d o f = ⟨#[]⟩ := by
  have h' : ¬ (maskB d && maskB o && maskB f) = true := by
    have : i = 0 ∨ i = 1 ∨ i = 2 := by omega
    rcases this with rfl | rfl | rfl <;> simp [mask3] at h <;> simp [h]
  exact ⟨by unfold masksE; rw [if_neg h'], by unfold masksS; rw [if_neg h']⟩
theorem idx3_0 (d o f : Int) (w : World) : (Instr.index 123 (.agg #[.int .i64 d, .int .i64 o, .int .i64 f]) (.int .i64 0)).run Tryz.prog w = .ok (.int .i64 d) w := by kernel_rfl
theorem idx3_1 (d o f : Int) (w : World) : (Instr.index 123 (.agg #[.int .i64 d, .int .i64 o, .int .i64 f]) (.int .i64 1)).run Tryz.prog w = .ok (.int .i64 o) w := by kernel_rfl
theorem idx3_2 (d o f : Int) (w : World) : (Instr.index 123 (.agg #[.int .i64 d, .int .i64 o, .int .i64 f]) (.int .i64 2)).run Tryz.prog w = .ok (.int .i64 f) w := by kernel_rfl
set_option maxHeartbeats 4000000 in
theorem masksText_any (d o f : Int) (w : World) (hd : d ≤ 9223372036854775807) (ho : o ≤ 9223372036854775807) (hf : f ≤ 9223372036854775807) :
    Calls Tryz.prog 36 #[.agg #[.int .i64 d, .int .i64 o, .int .i64 f]] w fun e w' => e = .returned (.tuple #[.string (masksS d o f), .int .i64 (masksE d o f)]) ∧ Below w.heap.size w w' := by
  have N1 := hide (fun n W => twithin_any n 0 4095 W)
  have N2 := hide (fun n (hn : n ≤ 9223372036854775807) W => number_all n 2 W hn)
  have HB0 := hide ((Below.refl w.heap.size w).alloc (Nat.le_refl _) (.cells #[.int .i64 d, .int .i64 o, .int .i64 f] 30))
  have HM : Hid (∀ i, mask3 d o f i ≤ 9223372036854775807) := hide (fun i => by unfold mask3; split; exact hd; split; exact ho; exact hf)
  obtain ⟨E, hE⟩ : ∃ E, E = masksE d o f := ⟨_, rfl⟩
  obtain ⟨S, hS⟩ : ∃ S, S = masksS d o f := ⟨_, rfl⟩
  rw [← hE, ← hS]
  have HE := hide hE; have HS := hide hS
  clear hd ho hf hE hS
  go_enter Tryz.func36, Tryz.ntmps36
  go_wp2
  go_loopw [4, 16] (fun sv iv wx => ∃ i : Nat, i ≤ 3 ∧ iv = .int .i64 (i : Int) ∧ sv = .string (maskTo d o f i) ∧ maskAll d o f i = true ∧ Below w.heap.size w wx) (fun _ iv _ => 3 - (intOf iv).toNat)
  case atStart => exact ⟨0, Nat.zero_le _, rfl, rfl, rfl, unhide HB0⟩
  case round =>
    obtain ⟨i, hi, rfl, rfl, hall, hbw⟩ := hrel
    by_cases hlt : i < 3
    · have hidx : (Instr.index 123 (.agg #[.int .i64 d, .int .i64 o, .int .i64 f]) (.int .i64 (i : Int))).run Tryz.prog wr = .ok (.int .i64 (mask3 d o f i)) wr := by
        have : i = 0 ∨ i = 1 ∨ i = 2 := by omega
        rcases this with rfl | rfl | rfl
        · exact idx3_0 d o f wr
        · exact idx3_1 d o f wr
        · exact idx3_2 d o f wr
      have hki : (i : Int) < 3 := by omega
      have hmi := unhide HM i
      have HALL := hide hall; have HBW := hide hbw
      have hz := maskTo_size d o f i (by omega)
      have hz2 := numS_size (mask3 d o f i) 2
      have ha := fun w' => run_string_add_sum (P := Tryz.prog) w' (maskTo d o f i) (numS (mask3 d o f i) 2) (by omega)
      have HNO := hide (masksE_no (d := d) (o := o) (f := f) (i := i) hlt)
      have HTO : Hid (maskTo d o f (i + 1) = maskTo d o f i ++ numS (mask3 d o f i) 2) := hide rfl
      have HAL : Hid (maskAll d o f (i + 1) = (maskAll d o f i && maskB (mask3 d o f i))) := hide rfl
      have n1 := unhide N1 (mask3 d o f i) wr
      have N3 := hide (unhide N2 (mask3 d o f i) hmi)
      unfold maskB at HNO HAL
      generalize maskTo d o f i = s1 at *
      generalize numS (mask3 d o f i) 2 = s2 at *
      generalize numE (mask3 d o f i) 2 = e2 at *
      cases hb : inT (mask3 d o f i) 0 4095 with
      | false =>
        obtain ⟨q1, q2⟩ := unhide HNO hb
        rw [hb] at n1
        have HQ := hide (And.intro ((unhide HE).trans q1) ((unhide HS).trans q2))
        have NN := hide n1
        generalize mask3 d o f i = m at *
        clear hall hbw hz hz2 ha n1 hb q1 q2 hmi
        go_wp2_with fail
        refine (unhide NN).mono ?_
        rintro e w1 ⟨rfl, hw⟩
        have hw' := hw.symm
        subst hw'
        go_wp2
        go_ret2
        exact ⟨by rw [(unhide HQ).1, (unhide HQ).2]; rfl, unhide HBW⟩
      | true =>
        rw [hb] at n1
        have NN := hide n1
        have HA1 : Hid (maskAll d o f (i + 1) = true) := hide (by rw [unhide HAL, hb, unhide HALL]; rfl)
        generalize mask3 d o f i = m at *
        clear hall hbw hz hz2 n1 hb hmi HAL HNO
        go_wp2_with fail
        refine (unhide NN).mono ?_
        rintro e w1 ⟨rfl, hw⟩
        have hw' := hw.symm
        subst hw'
        go_wp2_with fail
        refine (unhide N3 _).mono ?_
        rintro e w2 ⟨rfl, hb2⟩
        have HB2 := hide ((unhide HBW).trans (hb2.mono (unhide HBW).size))
        clear hb2
        go_wp2
        go_roundw
        case rel => exact ⟨i + 1, by omega, by go_num, by rw [unhide HTO], unhide HA1, unhide HB2⟩
        case measure => simp [intOf]; omega
    · obtain rfl : i = 3 := by omega
      obtain ⟨q1, q2⟩ := masksE_3 hall
      have HQ := hide (And.intro ((unhide HE).trans q1) ((unhide HS).trans q2))
      have HB := hide hbw
      generalize maskTo d o f 3 = T at *
      clear hbw hall q1 q2
      go_wp2
      go_ret2
      exact ⟨by rw [(unhide HQ).1, (unhide HQ).2]; rfl, unhide HB⟩
end Go.Proofs.YtfpglpefofcdeaaGreatDoor
namespace Go.Proofs.YtfpglpefofcdeaaGreatDoor
open Go.RowKit
set_option linter.unusedVariables false

/-- a word turned to the left -/
def rl (x n : Nat) : Nat := x * 2 ^ n % 4294967296 ||| x / 2 ^ (32 - n)

theorem or_add (a b k : Nat) (h : b < 2 ^ k) : a * 2 ^ k ||| b = a * 2 ^ k + b := by
  have := Nat.shiftLeft_add_eq_or_of_lt h a
  rw [Nat.shiftLeft_eq] at this
  exact this.symm
theorem rl12 (x : Nat) (h : x < 4294967296) : rl x 12 = x % 1048576 * 4096 + x / 1048576 := by
  unfold rl
  rw [show x * 2 ^ 12 % 4294967296 = (x % 1048576) * 2 ^ 12 by omega, or_add _ _ 12 (by omega)]
theorem rl16 (x : Nat) (h : x < 4294967296) : rl x 16 = x % 65536 * 65536 + x / 65536 := by
  unfold rl
  rw [show x * 2 ^ 16 % 4294967296 = (x % 65536) * 2 ^ 16 by omega, or_add _ _ 16 (by omega)]
theorem rl20 (x : Nat) (h : x < 4294967296) : rl x 20 = x % 4096 * 1048576 + x / 4096 := by
  unfold rl
  rw [show x * 2 ^ 20 % 4294967296 = (x % 4096) * 2 ^ 20 by omega, or_add _ _ 20 (by omega)]
theorem rl12_lt (x : Nat) (h : x < 4294967296) : rl x 12 < 4294967296 := by rw [rl12 x h]; omega
theorem rl16_lt (x : Nat) (h : x < 4294967296) : rl x 16 < 4294967296 := by rw [rl16 x h]; omega
theorem rl20_lt (x : Nat) (h : x < 4294967296) : rl x 20 < 4294967296 := by rw [rl20 x h]; omega
theorem rl12_20 (x : Nat) (h : x < 4294967296) : rl (rl x 12) 20 = x := by
  rw [rl20 _ (rl12_lt x h), rl12 x h]; omega
theorem rl20_12 (x : Nat) (h : x < 4294967296) : rl (rl x 20) 12 = x := by
  rw [rl12 _ (rl20_lt x h), rl20 x h]; omega
theorem rl16_16 (x : Nat) (h : x < 4294967296) : rl (rl x 16) 16 = x := by
  rw [rl16 _ (rl16_lt x h), rl16 x h]; omega
theorem xor_lt32 {a b : Nat} (ha : a < 4294967296) (hb : b < 4294967296) : a ^^^ b < 4294967296 := Nat.xor_lt_two_pow (n := 32) ha hb
theorem xor_twice (a b : Nat) : (a ^^^ b) ^^^ b = a := by rw [Nat.xor_assoc, Nat.xor_self, Nat.xor_zero]

/-- four words -/
structure Blk where
  a : Nat
  b : Nat
  c : Nat
  d : Nat
def Blk.ok (v : Blk) : Prop := v.a < 4294967296 ∧ v.b < 4294967296 ∧ v.c < 4294967296 ∧ v.d < 4294967296
/-- the word with a number -/
def Blk.at (v : Blk) : Nat → Nat
  | 0 => v.a
  | 1 => v.b
  | 2 => v.c
  | _ => v.d
theorem Blk.at_lt {v : Blk} (h : v.ok) (i : Nat) : v.at i < 4294967296 := by
  obtain ⟨h1, h2, h3, h4⟩ := h
  match i with
  | 0 => exact h1
  | 1 => exact h2
  | 2 => exact h3
  | n + 3 => exact h4
/-- what a round adds -/
def added (k : Blk) (i : Nat) : Nat := k.at (i % 4) + i * 2654435769
def nextA (k : Blk) (i : Nat) (v : Blk) : Nat := (v.a + v.b + added k i) % 4294967296
def nextD (k : Blk) (i : Nat) (v : Blk) : Nat := rl (v.d ^^^ nextA k i v) 16
def nextC (k : Blk) (i : Nat) (v : Blk) : Nat := (v.c + nextD k i v) % 4294967296
def nextB (k : Blk) (i : Nat) (v : Blk) : Nat := rl (v.b ^^^ nextC k i v) 12
/-- a round -/
def rnd (k : Blk) (i : Nat) (v : Blk) : Blk := ⟨nextB k i v, nextC k i v, nextD k i v, nextA k i v⟩
/-- so many rounds -/
def fwd (k : Blk) : Nat → Blk → Blk
  | 0, v => v
  | n + 1, v => rnd k n (fwd k n v)
/-- the way back of a round: the words are (b, c, d, a) -/
def lastB (v : Blk) : Nat := rl v.a 20 ^^^ v.b
def lastC (v : Blk) : Nat := (v.b + (4294967296 - v.c)) % 4294967296
def lastD (v : Blk) : Nat := rl v.c 16 ^^^ v.d
def lastA (k : Blk) (i : Nat) (v : Blk) : Nat := (v.d + (4294967296 - (lastB v + added k i) % 4294967296)) % 4294967296
def unrnd (k : Blk) (i : Nat) (v : Blk) : Blk := ⟨lastA k i v, lastB v, lastC v, lastD v⟩
/-- so many of the last rounds undone -/
def bwd (k : Blk) : Nat → Blk → Blk
  | 0, v => v
  | n + 1, v => unrnd k (11 - n) (bwd k n v)

theorem nextA_lt (k : Blk) (i : Nat) (v : Blk) : nextA k i v < 4294967296 := Nat.mod_lt _ (by decide)
theorem nextD_lt (k : Blk) (i : Nat) (v : Blk) (h : v.ok) : nextD k i v < 4294967296 := rl16_lt _ (xor_lt32 h.2.2.2 (nextA_lt k i v))
theorem nextC_lt (k : Blk) (i : Nat) (v : Blk) : nextC k i v < 4294967296 := Nat.mod_lt _ (by decide)
theorem nextB_lt (k : Blk) (i : Nat) (v : Blk) (h : v.ok) : nextB k i v < 4294967296 := rl12_lt _ (xor_lt32 h.2.1 (nextC_lt k i v))
theorem rnd_ok (k : Blk) (i : Nat) (v : Blk) (h : v.ok) : (rnd k i v).ok := ⟨nextB_lt k i v h, nextC_lt k i v, nextD_lt k i v h, nextA_lt k i v⟩
theorem fwd_ok (k : Blk) (n : Nat) (v : Blk) (h : v.ok) : (fwd k n v).ok := by
  induction n with
  | zero => exact h
  | succ n ih => exact rnd_ok k n _ ih
theorem lastA_lt (k : Blk) (i : Nat) (v : Blk) : lastA k i v < 4294967296 := Nat.mod_lt _ (by decide)
theorem lastB_lt (v : Blk) (h : v.ok) : lastB v < 4294967296 := xor_lt32 (rl20_lt _ h.1) h.2.1
theorem lastC_lt (v : Blk) : lastC v < 4294967296 := Nat.mod_lt _ (by decide)
theorem lastD_lt (v : Blk) (h : v.ok) : lastD v < 4294967296 := xor_lt32 (rl16_lt _ h.2.2.1) h.2.2.2
theorem unrnd_ok (k : Blk) (i : Nat) (v : Blk) (h : v.ok) : (unrnd k i v).ok := ⟨lastA_lt k i v, lastB_lt v h, lastC_lt v, lastD_lt v h⟩
theorem bwd_ok (k : Blk) (n : Nat) (v : Blk) (h : v.ok) : (bwd k n v).ok := by
  induction n with
  | zero => exact h
  | succ n ih => exact unrnd_ok k _ _ ih

theorem unrnd_rnd (k : Blk) (i : Nat) (v : Blk) (h : v.ok) : unrnd k i (rnd k i v) = v := by
  have hb : lastB (rnd k i v) = v.b := by
    show rl (rl (v.b ^^^ nextC k i v) 12) 20 ^^^ nextC k i v = v.b
    rw [rl12_20 _ (xor_lt32 h.2.1 (nextC_lt k i v)), xor_twice]
  have hc : lastC (rnd k i v) = v.c := by
    show (nextC k i v + (4294967296 - nextD k i v)) % 4294967296 = v.c
    have h1 := nextD_lt k i v h
    have h2 := h.2.2.1
    unfold nextC
    omega
  have hd : lastD (rnd k i v) = v.d := by
    show rl (rl (v.d ^^^ nextA k i v) 16) 16 ^^^ nextA k i v = v.d
    rw [rl16_16 _ (xor_lt32 h.2.2.2 (nextA_lt k i v)), xor_twice]
  have ha : lastA k i (rnd k i v) = v.a := by
    unfold lastA
    rw [hb]
    show (nextA k i v + (4294967296 - (v.b + added k i) % 4294967296)) % 4294967296 = v.a
    have h1 := h.1
    unfold nextA
    omega
  cases v
  simp only [unrnd, hb, hc, hd, ha]
theorem rnd_unrnd (k : Blk) (i : Nat) (v : Blk) (h : v.ok) : rnd k i (unrnd k i v) = v := by
  have ha : nextA k i (unrnd k i v) = v.d := by
    show (lastA k i v + lastB v + added k i) % 4294967296 = v.d
    have h1 := h.2.2.2
    unfold lastA
    omega
  have hd : nextD k i (unrnd k i v) = v.c := by
    unfold nextD
    rw [ha]
    show rl ((rl v.c 16 ^^^ v.d) ^^^ v.d) 16 = v.c
    rw [xor_twice, rl16_16 _ h.2.2.1]
  have hc : nextC k i (unrnd k i v) = v.b := by
    unfold nextC
    rw [hd]
    show ((v.b + (4294967296 - v.c)) % 4294967296 + v.c) % 4294967296 = v.b
    have h1 := h.2.1
    have h2 := h.2.2.1
    omega
  have hb : nextB k i (unrnd k i v) = v.a := by
    unfold nextB
    rw [hc]
    show rl ((rl v.a 20 ^^^ v.b) ^^^ v.b) 12 = v.a
    rw [xor_twice, rl20_12 _ h.1]
  cases v
  simp only [rnd, hb, hc, hd, ha]
theorem fwd_bwd_step (k : Blk) (n : Nat) : ∀ v : Blk, v.ok → n ≤ 12 → bwd k n (fwd k 12 v) = fwd k (12 - n) v := by
  induction n with
  | zero => intro v h hn; rfl
  | succ n ih =>
    intro v h hn
    rw [bwd, ih v h (by omega), show 12 - n = (11 - n) + 1 by omega, fwd, unrnd_rnd _ _ _ (fwd_ok k _ v h), show 12 - (n + 1) = 11 - n by omega]
theorem bwd_fwd (k : Blk) (v : Blk) (h : v.ok) : bwd k 12 (fwd k 12 v) = v := fwd_bwd_step k 12 v h (Nat.le_refl _)
theorem bwd_fwd_step (k : Blk) (n : Nat) : ∀ v : Blk, v.ok → n ≤ 12 → fwd k n (bwd k 12 v) = bwd k (12 - n) v := by
  induction n with
  | zero => intro v h hn; rfl
  | succ n ih =>
    intro v h hn
    rw [fwd, ih v h (by omega), show 12 - n = (11 - n) + 1 by omega, bwd, show 11 - (11 - n) = n by omega, rnd_unrnd _ _ _ (bwd_ok k _ v h), show 12 - (n + 1) = 11 - n by omega]
theorem fwd_bwd (k : Blk) (v : Blk) (h : v.ok) : fwd k 12 (bwd k 12 v) = v := bwd_fwd_step k 12 v h (Nat.le_refl _)

/-- the text of a block -/
def blkL (v : Blk) : List Int := bigL v.a 4 ++ (bigL v.b 4 ++ (bigL v.c 4 ++ bigL v.d 4))
/-- four bytes of a text as a word -/
def wordAt (l : List UInt8) (j : Nat) : Nat := valN ((l.drop (4 * j)).take 4)
/-- the block of a text -/
def blkOf (l : List UInt8) : Blk := ⟨wordAt l 0, wordAt l 1, wordAt l 2, wordAt l 3⟩
def blkS (v : Blk) : ByteArray := strOfNums (blkL v)

theorem wordAt_lt (l : List UInt8) (j : Nat) : wordAt l j < 4294967296 := by
  have h := valN_lt ((l.drop (4 * j)).take 4)
  have h2 : 256 ^ ((l.drop (4 * j)).take 4).length ≤ 256 ^ 4 := Nat.pow_le_pow_right (by omega) (by simp; omega)
  unfold wordAt
  omega
theorem blkOf_ok (l : List UInt8) : (blkOf l).ok := ⟨wordAt_lt l 0, wordAt_lt l 1, wordAt_lt l 2, wordAt_lt l 3⟩
theorem blkL_length (v : Blk) : (blkL v).length = 16 := by simp [blkL, bigL_length]
theorem blkS_size (v : Blk) : (blkS v).size = 16 := by rw [blkS, strOfNums_size, blkL_length]

theorem val4 (b0 b1 b2 b3 : UInt8) : valN [b0, b1, b2, b3] = ((b0.toNat * 256 + b1.toNat) * 256 + b2.toNat) * 256 + b3.toNat := by
  simp [valN]
theorem u8_of (n : Nat) : (UInt8.ofNat (((n % 256 : Nat) : Int)).toNat).toNat = n % 256 := by
  rw [Int.toNat_natCast, UInt8.toNat_ofNat']
  omega
theorem list16 (l : List UInt8) (h : l.length = 16) : ∃ x0 x1 x2 x3 x4 x5 x6 x7 x8 x9 xa xb xc xd xe xf, l = [x0, x1, x2, x3, x4, x5, x6, x7, x8, x9, xa, xb, xc, xd, xe, xf] := by
  match l, h with
  | [x0, x1, x2, x3, x4, x5, x6, x7, x8, x9, xa, xb, xc, xd, xe, xf], _ => exact ⟨_, _, _, _, _, _, _, _, _, _, _, _, _, _, _, _, rfl⟩
theorem u8_back (b : UInt8) (n : Nat) (h : n % 256 = b.toNat) : UInt8.ofNat (((n % 256 : Nat) : Int)).toNat = b := by
  apply UInt8.toNat_inj.1
  rw [u8_of, h]
theorem val_four (v : Nat) (h : v < 4294967296) : ((v / 256 ^ 3 % 256 * 256 + v / 256 ^ 2 % 256) * 256 + v / 256 ^ 1 % 256) * 256 + v / 256 ^ 0 % 256 = v := by omega
theorem blkOf_blkS (v : Blk) (h : v.ok) : blkOf (blkS v).data.toList = v := by
  obtain ⟨h1, h2, h3, h4⟩ := h
  cases v with | mk a b c d =>
  simp only at h1 h2 h3 h4
  simp only [blkOf, blkS, blkL, strOfNums_data, wordAt, bigL, List.map_cons, List.map_nil, List.cons_append, List.nil_append, Nat.mul_zero, List.drop_zero, List.take_succ_cons, List.take_zero, Nat.reduceMul, List.drop_succ_cons, val4, u8_of]
  rw [val_four a h1, val_four b h2, val_four c h3, val_four d h4]
theorem big_four (b0 b1 b2 b3 : UInt8) : (bigL (valN [b0, b1, b2, b3]) 4).map (fun z => UInt8.ofNat z.toNat) = [b0, b1, b2, b3] := by
  rw [val4]
  have e0 := b0.toNat_lt
  have e1 := b1.toNat_lt
  have e2 := b2.toNat_lt
  have e3 := b3.toNat_lt
  simp only [bigL, List.map_cons, List.map_nil]
  rw [u8_back b0 _ (by omega), u8_back b1 _ (by omega), u8_back b2 _ (by omega), u8_back b3 _ (by omega)]
theorem blkS_blkOf (s : ByteArray) (h : s.size = 16) : blkS (blkOf s.data.toList) = s := by
  obtain ⟨x0, x1, x2, x3, x4, x5, x6, x7, x8, x9, xa, xb, xc, xd, xe, xf, hl⟩ := list16 s.data.toList (by simpa using h)
  apply ByteArray.ext
  apply Array.toList_inj.1
  rw [hl]
  simp only [blkS, blkL, strOfNums_data, List.map_append, blkOf, wordAt, Nat.mul_zero, List.drop_zero, List.take_succ_cons, List.take_zero, Nat.reduceMul, List.drop_succ_cons, big_four, List.cons_append, List.nil_append]

/-- a block stirred by a key; and the way back -/
def turnS (k s : ByteArray) : ByteArray := blkS (fwd (blkOf k.data.toList) 12 (blkOf s.data.toList))
def backS (k s : ByteArray) : ByteArray := blkS (bwd (blkOf k.data.toList) 12 (blkOf s.data.toList))
theorem turnS_size (k s : ByteArray) : (turnS k s).size = 16 := blkS_size _
theorem backS_size (k s : ByteArray) : (backS k s).size = 16 := blkS_size _
theorem turn_back (k s : ByteArray) (h : s.size = 16) : turnS k (backS k s) = s := by
  unfold turnS backS
  rw [blkOf_blkS _ (bwd_ok _ _ _ (blkOf_ok _)), fwd_bwd _ _ (blkOf_ok _), blkS_blkOf s h]
theorem back_turn (k s : ByteArray) (h : s.size = 16) : backS k (turnS k s) = s := by
  unfold turnS backS
  rw [blkOf_blkS _ (fwd_ok _ _ _ (blkOf_ok _)), bwd_fwd _ _ (blkOf_ok _), blkS_blkOf s h]
theorem turn_inj (k a b : ByteArray) (ha : a.size = 16) (hb : b.size = 16) : turnS k a = turnS k b ↔ a = b :=
  ⟨fun e => by rw [← back_turn k a ha, e, back_turn k b hb], fun e => by rw [e]⟩
end Go.Proofs.YtfpglpefofcdeaaGreatDoor
namespace Go.Proofs.YtfpglpefofcdeaaGreatDoor
open Go.RowKit
set_option linter.unusedVariables false

def zeroB : Blk := ⟨0, 0, 0, 0⟩
theorem zeroB_ok : zeroB.ok := by unfold zeroB Blk.ok; decide
def xorB (u v : Blk) : Blk := ⟨u.a ^^^ v.a, u.b ^^^ v.b, u.c ^^^ v.c, u.d ^^^ v.d⟩
theorem xorB_ok {u v : Blk} (h : u.ok) (k : v.ok) : (xorB u v).ok := ⟨xor_lt32 h.1 k.1, xor_lt32 h.2.1 k.2.1, xor_lt32 h.2.2.1 k.2.2.1, xor_lt32 h.2.2.2 k.2.2.2⟩
/-- h becomes Turn(piece, h) exclusive-or h -/
def foldStep (h p : Blk) : Blk := xorB (fwd p 12 h) h
theorem foldStep_ok {h : Blk} (hk : h.ok) (p : Blk) : (foldStep h p).ok := xorB_ok (fwd_ok p 12 h hk) hk
def piece (l : List UInt8) (i : Nat) : List UInt8 := (l.drop (16 * i)).take 16
/-- behind so many pieces of a text -/
def foldN (l : List UInt8) : Nat → Blk
  | 0 => zeroB
  | k + 1 => foldStep (foldN l k) (blkOf (piece l k))
theorem foldN_ok (l : List UInt8) (k : Nat) : (foldN l k).ok := by
  induction k with
  | zero => exact zeroB_ok
  | succ k ih => exact foldStep_ok ih _

/-- bytes of numbers -/
def bytesOf (xs : List Int) : List UInt8 := xs.map fun z => UInt8.ofNat z.toNat
/-- what stands behind a text of n bytes -/
def fillN (n : Nat) : Nat := 15 - n % 16
def padded (l : List UInt8) : List UInt8 := l ++ (128 :: (List.replicate (fillN l.length) 0 ++ (List.replicate 8 0 ++ bytesOf (bigL l.length 8))))
theorem padded_length (l : List UInt8) : (padded l).length = 16 * (l.length / 16 + 2) := by
  simp only [padded, List.length_append, List.length_cons, List.length_replicate, bytesOf, List.length_map, bigL_length, fillN]
  omega
/-- the fold of a text -/
def foldB (l : List UInt8) : Blk := foldN (padded l) (l.length / 16 + 2)
def foldS (s : ByteArray) : ByteArray := blkS (foldB s.data.toList)
theorem foldS_size (s : ByteArray) : (foldS s).size = 16 := blkS_size _
theorem foldB_ok (l : List UInt8) : (foldB l).ok := foldN_ok _ _

theorem piece_same (l r : List UInt8) (i : Nat) (h : 16 * (i + 1) ≤ l.length) : piece (l ++ r) i = piece l i := by
  unfold piece
  rw [List.drop_append_of_le_length (by omega), List.take_append_of_le_length (by simp; omega)]
theorem foldN_same (l r : List UInt8) (k : Nat) (h : 16 * k ≤ l.length) : foldN (l ++ r) k = foldN l k := by
  induction k with
  | zero => rfl
  | succ k ih => rw [foldN, foldN, ih (by omega), piece_same l r k (by omega)]
/-- the piece that the text ends in -/
def lastPiece (l : List UInt8) : List UInt8 := l.drop (16 * (l.length / 16)) ++ 128 :: List.replicate (fillN l.length) 0
theorem lastPiece_length (l : List UInt8) : (lastPiece l).length = 16 := by
  simp only [lastPiece, List.length_append, List.length_drop, List.length_cons, List.length_replicate, fillN]
  omega
theorem padded_split (l : List UInt8) : padded l = (l ++ 128 :: List.replicate (fillN l.length) 0) ++ (List.replicate 8 0 ++ bytesOf (bigL l.length 8)) := by
  simp [padded]
theorem piece_last (l : List UInt8) : piece (padded l) (l.length / 16) = lastPiece l := by
  rw [padded_split, piece_same _ _ _ (by simp only [List.length_append, List.length_cons, List.length_replicate, fillN]; omega)]
  unfold piece
  rw [List.drop_append_of_le_length (by omega)]
  exact List.take_of_length_le (Nat.le_of_eq (lastPiece_length l))
theorem piece_size (l : List UInt8) : piece (padded l) (l.length / 16 + 1) = List.replicate 8 0 ++ bytesOf (bigL l.length 8) := by
  rw [padded_split]
  unfold piece
  rw [List.drop_append_of_le_length (by simp only [List.length_append, List.length_cons, List.length_replicate, fillN]; omega), List.drop_of_length_le (by simp only [List.length_append, List.length_cons, List.length_replicate, fillN]; omega), List.nil_append]
  exact List.take_of_length_le (by simp [bytesOf, bigL_length])
theorem blkOf_size (n : Nat) (h : n < 18446744073709551616) : blkOf (List.replicate 8 0 ++ bytesOf (bigL n 8)) = ⟨0, 0, n / 4294967296, n % 4294967296⟩ := by
  simp only [List.replicate_succ, List.replicate_zero, blkOf, wordAt, bytesOf, bigL, List.map_cons, List.map_nil, List.cons_append, List.nil_append, Nat.mul_zero, List.drop_zero, List.take_succ_cons, List.take_zero, Nat.reduceMul, List.drop_succ_cons, val4, u8_of]
  congr 1
  · omega
  · omega
/-- the fold as the program makes it -/
theorem foldB_eq (l : List UInt8) (h : l.length < 18446744073709551616) : foldB l = foldStep (foldStep (foldN l (l.length / 16)) (blkOf (lastPiece l))) ⟨0, 0, l.length / 4294967296, l.length % 4294967296⟩ := by
  unfold foldB
  rw [show l.length / 16 + 2 = (l.length / 16 + 1) + 1 by omega, foldN, foldN, piece_last, piece_size, blkOf_size _ h]
  congr 2
  exact foldN_same _ _ _ (by omega)
end Go.Proofs.YtfpglpefofcdeaaGreatDoor
namespace Go.Proofs.YtfpglpefofcdeaaGreatDoor
open Go.RowKit
set_option linter.unusedVariables false

/-- a part, with how long it is ahead -/
def partL (p : ByteArray) : List UInt8 := bytesOf (bigL p.size 4) ++ p.data.toList
def rowL : List ByteArray → List UInt8
  | [] => []
  | p :: r => partL p ++ rowL r
def rowS (l : List ByteArray) : ByteArray := ⟨(rowL l).toArray⟩
theorem rowS_data (l : List ByteArray) : (rowS l).data.toList = rowL l := by simp [rowS]
theorem rowL_append (a b : List ByteArray) : rowL (a ++ b) = rowL a ++ rowL b := by
  induction a with
  | nil => rfl
  | cons p r ih => rw [List.cons_append, rowL, rowL, ih, List.append_assoc]
theorem partL_length (p : ByteArray) : (partL p).length = 4 + p.size := by
  simp [partL, bytesOf, bigL_length]
theorem big4_inj (m n : Nat) (hm : m < 4294967296) (hn : n < 4294967296) (h : bytesOf (bigL m 4) = bytesOf (bigL n 4)) : m = n := by
  simp only [bytesOf, bigL, List.map_cons, List.map_nil, List.cons.injEq, and_true] at h
  obtain ⟨h3, h2, h1, h0⟩ := h
  have e3 := congrArg UInt8.toNat h3
  have e2 := congrArg UInt8.toNat h2
  have e1 := congrArg UInt8.toNat h1
  have e0 := congrArg UInt8.toNat h0
  rw [u8_of, u8_of] at e0 e1 e2 e3
  omega
theorem row_inj (a : List ByteArray) : ∀ b : List ByteArray, (∀ p ∈ a, p.size < 4294967296) → (∀ p ∈ b, p.size < 4294967296) → rowL a = rowL b → a = b := by
  induction a with
  | nil =>
    intro b _ _ h
    cases b with
    | nil => rfl
    | cons q r =>
      have := congrArg List.length h
      rw [rowL, rowL, List.length_append, partL_length] at this
      simp only [List.length_nil] at this
      omega
  | cons p r ih =>
    intro b ha hb h
    cases b with
    | nil =>
      have := congrArg List.length h
      rw [rowL, rowL, List.length_append, partL_length] at this
      simp only [List.length_nil] at this
      omega
    | cons q t =>
      rw [rowL, rowL, partL, partL, List.append_assoc, List.append_assoc] at h
      obtain ⟨h1, h2⟩ := List.append_inj h (by simp [bytesOf, bigL_length])
      have hs := big4_inj _ _ (ha p (by simp)) (hb q (by simp)) h1
      obtain ⟨h3, h4⟩ := List.append_inj h2 (by simpa using hs)
      rw [ih t (fun x hx => ha x (by simp [hx])) (fun x hx => hb x (by simp [hx])) h4]
      congr 1
      exact ByteArray.ext (Array.toList_inj.1 h3)
/-- how many bytes a row has -/
def rowN : List ByteArray → Nat
  | [] => 0
  | p :: r => 4 + p.size + rowN r
theorem rowL_length (l : List ByteArray) : (rowL l).length = rowN l := by
  induction l with
  | nil => rfl
  | cons p r ih => rw [rowL, rowN, List.length_append, partL_length, ih]
theorem rowS_size (l : List ByteArray) : (rowS l).size = rowN l := by
  rw [← rowL_length]; simp [rowS, ByteArray.size]
theorem rowS_inj (a b : List ByteArray) (ha : ∀ p ∈ a, p.size < 4294967296) (hb : ∀ p ∈ b, p.size < 4294967296) : rowS a = rowS b ↔ a = b :=
  ⟨fun h => row_inj a b ha hb (by rw [← rowS_data, h, rowS_data]), fun h => by rw [h]⟩
end Go.Proofs.YtfpglpefofcdeaaGreatDoor
namespace Go.Proofs
open Go.Shelf
end Go.Proofs
namespace Go.Proofs
open Go.Shelf
def Tryz.laysB_ren : Go.Shelf.Ren := ⟨fun | 166 => 75 | 169 => 76 | 240 => 115 | 276 => 131 | n => n, fun | 9 => 9 | 3 => 3 | 4 => 4 | 20 => 20 | 0 => 0 | 5 => 5 | 72 => 126 | 70 => 124 | 37 => 104 | 75 => 129 | 127 => 161 | 164 => 178 | 80 => 134 | n => n, fun | n => n⟩
theorem Tryz.laysB166 : Go.Proofs.Lays.n166 Tryz.prog Tryz.laysB_ren := {
  mixed := by kernel_rfl
  f166 := Tryz.func75.trans (congrArg some (by kernel_rfl))
  f240 := Tryz.func115.trans (congrArg some (by kernel_rfl))
  f276 := Tryz.func131.trans (congrArg some (by kernel_rfl))
  t0 := Tryz.underlying0
  a0 := Tryz.isAgg0
  z0 := Tryz.sizeOf0
  v0 := Tryz.zeroValue0
  t3 := Tryz.underlying3
  a3 := Tryz.isAgg3
  z3 := Tryz.sizeOf3
  v3 := Tryz.zeroValue3
  t4 := Tryz.underlying4
  a4 := Tryz.isAgg4
  z4 := Tryz.sizeOf4
  v4 := Tryz.zeroValue4
  t9 := Tryz.underlying9
  a9 := Tryz.isAgg9
  z9 := Tryz.sizeOf9
  v9 := Tryz.zeroValue9
  t20 := Tryz.underlying20
  a20 := Tryz.isAgg20
  z20 := Tryz.sizeOf20
  v20 := Tryz.zeroValue20
  t37 := Tryz.underlying104
  a37 := Tryz.isAgg104
  z37 := Tryz.sizeOf104
  v37 := Tryz.zeroValue104
  t70 := Tryz.underlying124
  a70 := Tryz.isAgg124
  z70 := Tryz.sizeOf124
  v70 := Tryz.zeroValue124
  t72 := Tryz.underlying126
  a72 := Tryz.isAgg126
  z72 := Tryz.sizeOf126
  v72 := Tryz.zeroValue126
  t75 := Tryz.underlying129
  a75 := Tryz.isAgg129
  z75 := Tryz.sizeOf129
  v75 := Tryz.zeroValue129
  t164 := Tryz.underlying178
  a164 := Tryz.isAgg178
  z164 := Tryz.sizeOf178
  v164 := Tryz.zeroValue178 }
theorem Tryz.laysB169 : Go.Proofs.Lays.n169 Tryz.prog Tryz.laysB_ren := {
  mixed := by kernel_rfl
  f169 := Tryz.func76.trans (congrArg some (by kernel_rfl))
  t0 := Tryz.underlying0
  a0 := Tryz.isAgg0
  z0 := Tryz.sizeOf0
  v0 := Tryz.zeroValue0
  t3 := Tryz.underlying3
  a3 := Tryz.isAgg3
  z3 := Tryz.sizeOf3
  v3 := Tryz.zeroValue3
  t9 := Tryz.underlying9
  a9 := Tryz.isAgg9
  z9 := Tryz.sizeOf9
  v9 := Tryz.zeroValue9
  t37 := Tryz.underlying104
  a37 := Tryz.isAgg104
  z37 := Tryz.sizeOf104
  v37 := Tryz.zeroValue104
  t70 := Tryz.underlying124
  a70 := Tryz.isAgg124
  z70 := Tryz.sizeOf124
  v70 := Tryz.zeroValue124
  t72 := Tryz.underlying126
  a72 := Tryz.isAgg126
  z72 := Tryz.sizeOf126
  v72 := Tryz.zeroValue126
  t127 := Tryz.underlying161
  a127 := Tryz.isAgg161
  z127 := Tryz.sizeOf161
  v127 := Tryz.zeroValue161 }
theorem Tryz.Builder_ExtraB : Builder.Extra Tryz.prog Tryz.laysB_ren := {
  sizeBuilder := by kernel_rfl
  liesBuilder := by kernel_rfl
  t5 := Tryz.underlying5
  a5 := Tryz.isAgg5
  z5 := Tryz.sizeOf5
  v5 := Tryz.zeroValue5
  infoByte := by kernel_rfl
  cellsByte := by kernel_rfl
  sizeByte := by kernel_rfl
  neB5 := by decide }
end Go.Proofs
namespace Go.Proofs.YtfpglpefofcdeaaGreatDoor
open Go.ChangeShapes Go.WideShapes Go.ChangeAt Go.RowKit
set_option linter.unusedVariables false

/-- texts that lie in a row -/
def TRow (w : World) (ao : Option Addr) (l : List ByteArray) : Prop :=
  l = [] ∨ ∃ b off, ao = some ⟨b, off, none⟩ ∧ b < w.heap.size ∧ ∀ i s, l[i]? = some s → w.cell? ⟨b, off + i, none⟩ = some (.string s)
theorem TRow.below {w w' : World} {ao : Option Addr} {l : List ByteArray} (h : TRow w ao l) (hb : Below w.heap.size w w') : TRow w' ao l := by
  rcases h with h | ⟨b, off, e, hlt, hc⟩
  · exact .inl h
  · exact .inr ⟨b, off, e, Nat.lt_of_lt_of_le hlt hb.size, fun i s hi => (hb.cell (p := ⟨b, off + i, none⟩) hlt).trans (hc i s hi)⟩
/-- how many letters they have, and one each -/
def bulkT : List ByteArray → Nat
  | [] => 0
  | s :: r => s.size + 1 + bulkT r
theorem bulkT_mem {l : List ByteArray} {s : ByteArray} (h : s ∈ l) : s.size < bulkT l := by
  induction l with
  | nil => cases h
  | cons x r ih =>
    rcases List.mem_cons.1 h with rfl | h
    · simp only [bulkT]; omega
    · have := ih h
      simp only [bulkT]; omega
theorem bulkT_length (l : List ByteArray) : l.length ≤ bulkT l := by
  induction l with
  | nil => simp
  | cons x r ih => simp only [bulkT, List.length_cons]; omega
theorem strs_bulk {H : Type} (l : List ByteArray) : Rows.uptoBulkAll (strs l : List (DataW H)) = bulkT l := by
  induction l with
  | nil => rfl
  | cons x r ih =>
    have ih' : Rows.uptoBulkAll (List.map (fun s : ByteArray => DataW.lit (.string s.data.toList)) r : List (DataW H)) = bulkT r := ih
    simp only [strs, List.map_cons, Rows.uptoBulkAll, Rows.uptoBulk, bulkT, ih']
    have : x.data.toList.length = x.size := by simp
    omega
theorem cellsStrT : Tryz.prog.cellsOf 9 = 1 := by kernel_rfl
theorem cell_ltT {w : World} {a : Addr} {v : Value} (h : w.cell? a = some v) : a.block < w.heap.size := by
  rcases Nat.lt_or_ge a.block w.heap.size with h1 | h1
  · exact h1
  · unfold World.cell? at h
    rw [Array.getElem?_eq_none h1] at h
    cases h
theorem open_texts {H : Type} {enc : TypeId × Value → H} {W : World} {held : Bool} {ao : Option Addr} {len cap : Nat} {d : DataW H} {p : List MemPlace}
    (h : DataW.Trod enc Tryz.prog W 0 (fun _ => true) held 83 (.slice ao len cap) d p) :
    ∃ fs : List ByteArray, fs.length = len ∧ TRow W ao fs ∧ bulkT fs < Rows.uptoBulk d ∧ (∀ s ∈ fs, s.size ≤ maxLen) := by
  obtain ⟨fuel, hf⟩ := h
  rcases open_strings Tryz.underlying83 Tryz.underlying9 cellsStrT hf with ⟨hcs, hx⟩ | ⟨a, len', cap', ss, hcs, _, hl, hm, hz, hx, hcell, hsz⟩
  · simp [Value.cells] at hcs
    obtain ⟨rfl, rfl, rfl⟩ := hcs
    simp only [Prod.mk.injEq] at hx
    exact ⟨[], rfl, .inl rfl, by rw [hx.1]; simp [bulkT, Rows.uptoBulk], by simp⟩
  · simp [Value.cells] at hcs
    obtain ⟨rfl, rfl, rfl⟩ := hcs
    simp only [if_true] at hz
    simp only [Prod.mk.injEq] at hx
    refine ⟨ss.take len, by rw [List.length_take]; omega, ?_, ?_, fun s hs => hsz s (List.mem_of_mem_take hs)⟩
    · by_cases hl0 : len = 0
      · subst hl0; exact .inl rfl
      · obtain ⟨b, off, spot⟩ := a
        have hc0 := hcell 0 (by omega)
        have hspot : spot = none := by simpa [Addr.add] using World.cell?_spot hc0
        subst hspot
        refine .inr ⟨b, off, rfl, by simpa [Addr.add] using cell_ltT hc0, fun i s hi => ?_⟩
        have hi' : i < len := by
          rcases Nat.lt_or_ge i len with h | h
          · exact h
          · rw [List.getElem?_eq_none (by rw [List.length_take]; omega)] at hi; cases hi
        rw [List.getElem?_take_of_lt hi'] at hi
        have := hcell i (by omega)
        rw [WideShapes.add_plain] at this
        rw [this]
        simp [hi]
    · rw [hx.1]
      simp only [Rows.uptoBulk, strs_bulk]
      omega
end Go.Proofs.YtfpglpefofcdeaaGreatDoor
