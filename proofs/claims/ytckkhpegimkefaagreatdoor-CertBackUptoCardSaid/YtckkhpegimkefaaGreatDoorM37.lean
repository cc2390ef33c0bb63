/- How great a secret's D is. -/
import Derived.Test.YtckkhpegimkefaaGreatDoorM35
import Derived.Test.YtckkhpegimkefaaGreatDoorM36
import Derived.Shelf.Strings.AsciiSet
import Derived.Test.YtckkhpegimkefaaGreatDoorM00
import Derived.BigQuiet
import Derived.Deep.DeepCutAuto
import Derived.Lib.Strings
namespace Go.Proofs.YtckkhpegimkefaaGreatDoor
open Go.RowKit
set_option linter.unusedVariables false
set_option linter.unusedSimpArgs false
set_option maxRecDepth 100000

theorem secD_lt {p q : ByteArray} (h : secE p q = 0) : secD p q < B32 ^ 200 := by
  have hf : (isFacB p && isFacB q) = true := by
    cases hc : (isFacB p && isFacB q) with
    | true => rfl
    | false => rw [secE_form hc] at h; cases h
  have hp : isFacB p = true := by cases hc : isFacB p with | true => rfl | false => rw [hc] at hf; simp at hf
  have hq : isFacB q = true := by cases hc : isFacB q with | true => rfl | false => rw [hc, Bool.and_false] at hf; simp at hf
  have la := valN_96 p (fac_pos hp).2.1
  have lb := valN_96 q (fac_pos hq).2.1
  unfold secD
  generalize valN p.data.toList = a at *
  generalize valN q.data.toList = b at *
  have h1 := Nat.mul_lt_mul'' (Nat.lt_of_le_of_lt (Nat.sub_le a 1) la) (Nat.lt_of_le_of_lt (Nat.sub_le b 1) lb)
  rw [← Nat.pow_add] at h1
  generalize (a - 1) * (b - 1) = N at *
  have h2 : N * (3 - N % 3) ≤ N * 3 := Nat.mul_le_mul_left _ (by omega)
  have h3 : (N * (3 - N % 3) + 1) / 3 ≤ N + 1 := by omega
  have h4 : B32 ^ (24 + 24) + 1 ≤ B32 ^ 200 := Nat.pow_lt_pow_right B32_two (by decide)
  omega
end Go.Proofs.YtckkhpegimkefaaGreatDoor
namespace Go.Proofs.YtckkhpegimkefaaGreatDoor
open Go.RowKit
set_option linter.unusedVariables false
set_option linter.unusedSimpArgs false
set_option maxRecDepth 100000

end Go.Proofs.YtckkhpegimkefaaGreatDoor
namespace Go.Proofs
open Go.Shelf
def Tryz.lays227_ren : Go.Shelf.Ren := ⟨fun | 227 => 110 | n => n, fun | 9 => 9 | 116 => 149 | 4 => 4 | 0 => 0 | 3 => 3 | 5 => 5 | n => n, fun | n => n⟩
theorem Tryz.lays227 : Go.Proofs.Lays.n227 Tryz.prog Tryz.lays227_ren := {
  mixed := by kernel_rfl
  f227 := Tryz.func110.trans (congrArg some (by kernel_rfl))
  t0 := Tryz.underlying0
  a0 := Tryz.isAgg0
  z0 := Tryz.sizeOf0
  v0 := Tryz.zeroValue0
  t3 := Tryz.underlying3
  a3 := Tryz.isAgg3
  z3 := Tryz.sizeOf3
  v3 := Tryz.zeroValue3
  t4 := Tryz.underlying4
  a4 := Tryz.isAgg4
  z4 := Tryz.sizeOf4
  v4 := Tryz.zeroValue4
  t5 := Tryz.underlying5
  a5 := Tryz.isAgg5
  z5 := Tryz.sizeOf5
  v5 := Tryz.zeroValue5
  t9 := Tryz.underlying9
  a9 := Tryz.isAgg9
  z9 := Tryz.sizeOf9
  v9 := Tryz.zeroValue9
  t116 := Tryz.underlying149
  a116 := Tryz.isAgg149
  z116 := Tryz.sizeOf149 }
def Tryz.lays228_ren : Go.Shelf.Ren := ⟨fun | 228 => 126 | n => n, fun | 124 => 153 | 5 => 5 | 4 => 4 | 0 => 0 | 116 => 149 | n => n, fun | n => n⟩
theorem Tryz.lays228 : Go.Proofs.Lays.n228 Tryz.prog Tryz.lays228_ren := {
  mixed := by kernel_rfl
  f228 := Tryz.func126.trans (congrArg some (by kernel_rfl))
  t0 := Tryz.underlying0
  a0 := Tryz.isAgg0
  z0 := Tryz.sizeOf0
  v0 := Tryz.zeroValue0
  t4 := Tryz.underlying4
  a4 := Tryz.isAgg4
  z4 := Tryz.sizeOf4
  v4 := Tryz.zeroValue4
  t5 := Tryz.underlying5
  a5 := Tryz.isAgg5
  z5 := Tryz.sizeOf5
  v5 := Tryz.zeroValue5
  t116 := Tryz.underlying149
  a116 := Tryz.isAgg149
  z116 := Tryz.sizeOf149
  t124 := Tryz.underlying153
  a124 := Tryz.isAgg153
  z124 := Tryz.sizeOf153
  v124 := Tryz.zeroValue153 }
end Go.Proofs
namespace Go.Proofs.YtckkhpegimkefaaGreatDoor
open Go.RowKit
set_option linter.unusedVariables false

def digitsT : ByteArray := ⟨#[48, 49, 50, 51, 52, 53, 54, 55, 56, 57]⟩
/-- is a byte a digit? -/
def isDig (b : UInt8) : Bool := digitsT.data.toList.contains b
set_option maxRecDepth 100000 in
theorem isDig_iff (b : UInt8) : isDig b = true ↔ 48 ≤ b.toNat ∧ b.toNat ≤ 57 := by
  have h : ∀ n : Fin 256, isDig (UInt8.ofNat n.val) = decide (48 ≤ n.val ∧ n.val ≤ 57) := by decide
  have hb := h ⟨b.toNat, b.toNat_lt⟩
  simp only [UInt8.ofNat_toNat] at hb
  rw [hb, decide_eq_true_iff]
def allDig (s : ByteArray) : Bool := s.data.toList.all isDig
/-- the set of digits, in a block -/
def SetAt (w : World) (g : Nat) : Prop := ∀ x : UInt8, w.cell? ⟨g, x.toNat, none⟩ = some (.bool (isDig x))
theorem contains_any (g : Nat) (x : UInt8) (w : World) (h : SetAt w g) :
    Calls Tryz.prog 126 #[.pointer (some ⟨g, 0, none⟩), .int .u8 x.toNat] w fun e w' => e = .returned (.bool (isDig x)) ∧ w' = w :=
  Any.asciiSet_contains Tryz.lays228 g x (isDig x) w (h x)

/-- a byte of a text, as the walk reads it -/
theorem byte_run (st : ByteArray) (i : Nat) (x : UInt8) (hx : st.data.toList[i]? = some x) (wx : World) : (Instr.index 9 (.string st) (.int .i64 (i : Int))).run Tryz.prog wx = .ok (.int .u8 x.toNat) wx := by
  have hi : i < st.size := by
    have := (List.getElem?_eq_some_iff.1 hx).1
    simpa using this
  rw [run_index_string wx 9 st .i64 (i : Int) Tryz.underlying9, dif_pos ⟨by omega, by omega⟩]
  have e : st[(i : Int).toNat]'(by simpa using hi) = x := by
    have h2 := (List.getElem?_eq_some_iff.1 hx).2
    have h3 : st.data[i]'hi = x := by simpa using h2
    exact h3
  simp only [e]
theorem extract_list (s : ByteArray) (a b : Nat) : (s.extract a b).data.toList = (s.data.toList.drop a).take (b - a) := by
  rw [ByteArray.data_extract, Array.toList_extract, List.extract_eq_take_drop]
theorem slice_to (st : ByteArray) (j : Nat) (h : j ≤ st.size) (wx : World) : (Instr.slice 9 (.string st) none (some (.int .i64 (j : Int))) none).run Tryz.prog wx = .ok (.string (st.extract 0 j)) wx := by
  have hx := run_slice_string_to_if (P := Tryz.prog) wx 9 st .i64 (j : Int) Tryz.underlying9
  rw [if_pos ⟨by omega, by omega⟩, Int.toNat_natCast] at hx
  exact hx
theorem slice_from (st : ByteArray) (j : Nat) (h : j ≤ st.size) (wx : World) : (Instr.slice 9 (.string st) (some (.int .i64 (j : Int))) none none).run Tryz.prog wx = .ok (.string (st.extract j st.size)) wx := by
  have hx := run_slice_string_from_if (P := Tryz.prog) wx 9 st .i64 (j : Int) Tryz.underlying9
  rw [if_pos ⟨by omega, by omega⟩, Int.toNat_natCast] at hx
  exact hx
def restDig (s : ByteArray) (m : Nat) : Prop := (s.data.toList.drop m).all isDig = true
def lastBad (s : ByteArray) (m : Nat) : Prop := m = 0 ∨ ∃ x, s.data.toList[m - 1]? = some x ∧ isDig x = false
theorem all_drop (l : List UInt8) (m : Nat) (x : UInt8) (hx : l[m]? = some x) (h : (l.drop (m + 1)).all isDig = true) (hd : isDig x = true) : (l.drop m).all isDig = true := by
  obtain ⟨hlt, he⟩ := List.getElem?_eq_some_iff.1 hx
  rw [List.drop_eq_getElem_cons hlt, List.all_cons, he, hd, h]
  rfl

set_option maxRecDepth 100000 in
set_option maxHeartbeats 1000000 in
theorem trimR_any (s : ByteArray) (g : Nat) (w : World) (h : SetAt w g) (hs : (s.size : Int) ≤ 9223372036854775807) :
    Calls Tryz.prog 112 #[.string s, .pointer (some ⟨g, 0, none⟩)] w fun e w' => w' = w ∧ ∃ m, m ≤ s.size ∧ e = .returned (.string (s.extract 0 m)) ∧ restDig s m ∧ lastBad s m := by
  have N1 := hide (fun x => contains_any g x w h)
  clear h
  go_enter Tryz.func112, Tryz.ntmps112
  go_wp2
  go_loopw [0] (fun t wr => wr = w ∧ ∃ m, m ≤ s.size ∧ t = .string (s.extract 0 m) ∧ restDig s m) (fun t _ => match t with | .string st => st.size | _ => 0)
  case atStart => exact ⟨rfl, s.size, Nat.le_refl _, by rw [show s.extract 0 s.size = s from by simp], by unfold restDig; rw [List.drop_of_length_le (by simp)]; rfl⟩
  case round =>
    obtain ⟨rfl, m, hm, rfl, hall⟩ := hrel
    have hez : (s.extract 0 m).size = m := by rw [ByteArray.size_extract]; omega
    have HALL := hide hall
    clear hall
    by_cases h0 : m = 0
    · subst h0
      have hez' : ((s.extract 0 0).size : Int) = 0 := by omega
      have HST := hide (show s.extract 0 0 = s.extract 0 0 from rfl)
      generalize hst : s.extract 0 0 = st at *
      have HS := hide hst
      clear hst hez hm
      go_wp2
      go_ret
      exact ⟨by first | rfl | trivial, 0, Nat.zero_le _, by rw [unhide HS]; rfl, unhide HALL, (.inl rfl : lastBad s 0)⟩
    · obtain ⟨n, rfl⟩ : ∃ n, m = n + 1 := ⟨m - 1, by omega⟩
      have hl : n < s.data.toList.length := by simp; omega
      obtain ⟨x, hx⟩ : ∃ x, s.data.toList[n]? = some x := ⟨_, List.getElem?_eq_getElem hl⟩
      have hx2 : (s.extract 0 (n + 1)).data.toList[n]? = some x := by rw [extract_list, List.drop_zero, List.getElem?_take, if_pos (by omega)]; exact hx
      have hbr := fun wx => byte_run (s.extract 0 (n + 1)) n x hx2 wx
      have hsl := fun wx => slice_to (s.extract 0 (n + 1)) n (by omega) wx
      have hee : (s.extract 0 (n + 1)).extract 0 n = s.extract 0 n := by
        rw [ByteArray.extract_extract]
        congr 1
        omega
      rw [hee] at hsl
      have HX := hide hx
      have HS := hide (show s.extract 0 (n + 1) = s.extract 0 (n + 1) from rfl)
      generalize hst : s.extract 0 (n + 1) = st at *
      have HST := hide hst
      have hezi : (st.size : Int) = (n : Int) + 1 := by omega
      have hnI : (n : Int) ≤ 9223372036854775806 := by omega
      have hn0 : (0 : Int) ≤ (n : Int) := by omega
      have HZ := hide hez
      have HM := hide hm
      clear hst hx2 hee hl hx hez h0 hm
      cases hd : isDig x with
      | true =>
        have n1 := unhide N1 x
        rw [hd] at n1
        have M1 := hide n1
        have HD := hide (all_drop s.data.toList n x (unhide HX) (unhide HALL) hd)
        clear n1 hd
        go_wp2_with fail
        refine (unhide M1).mono ?_
        rintro e w1 ⟨rfl, rfl⟩
        go_wp2
        go_roundw
        case rel => exact ⟨by first | rfl | trivial, n, by have := unhide HM; omega, rfl, unhide HD⟩
        case measure =>
          have h1 := unhide HZ
          have h2 : (s.extract 0 n).size = n := by rw [ByteArray.size_extract]; have := unhide HM; omega
          simp only []
          omega
      | false =>
        have n1 := unhide N1 x
        rw [hd] at n1
        have M1 := hide n1
        have HD := hide (show lastBad s (n + 1) from .inr ⟨x, unhide HX, hd⟩)
        clear n1 hd
        go_wp2_with fail
        refine (unhide M1).mono ?_
        rintro e w1 ⟨rfl, rfl⟩
        go_wp2
        go_ret
        exact ⟨by first | rfl | trivial, n + 1, unhide HM, by rw [unhide HST]; rfl, unhide HALL, unhide HD⟩

def headDig (s : ByteArray) (k : Nat) : Prop := (s.data.toList.take k).all isDig = true
def nextBad (s : ByteArray) (k : Nat) : Prop := k = s.size ∨ ∃ x, s.data.toList[k]? = some x ∧ isDig x = false
theorem all_take (l : List UInt8) (m : Nat) (x : UInt8) (hx : l[m]? = some x) (h : (l.take m).all isDig = true) (hd : isDig x = true) : (l.take (m + 1)).all isDig = true := by
  obtain ⟨hlt, he⟩ := List.getElem?_eq_some_iff.1 hx
  rw [List.take_succ_eq_append_getElem hlt, List.all_append, h, he]
  simp [hd]
set_option maxRecDepth 100000 in
set_option maxHeartbeats 1000000 in
theorem trimL_any (s : ByteArray) (g : Nat) (w : World) (h : SetAt w g) (hs : (s.size : Int) ≤ 9223372036854775807) :
    Calls Tryz.prog 111 #[.string s, .pointer (some ⟨g, 0, none⟩)] w fun e w' => w' = w ∧ ∃ k, k ≤ s.size ∧ e = .returned (.string (s.extract k s.size)) ∧ headDig s k ∧ nextBad s k := by
  have N1 := hide (fun x => contains_any g x w h)
  clear h
  go_enter Tryz.func111, Tryz.ntmps111
  go_wp2
  go_loopw [0] (fun t wr => wr = w ∧ ∃ k, k ≤ s.size ∧ t = .string (s.extract k s.size) ∧ headDig s k) (fun t _ => match t with | .string st => st.size | _ => 0)
  case atStart => exact ⟨rfl, 0, Nat.zero_le _, by rw [show s.extract 0 s.size = s from by simp], rfl⟩
  case round =>
    obtain ⟨rfl, k, hk, rfl, hall⟩ := hrel
    have hez : (s.extract k s.size).size = s.size - k := by rw [ByteArray.size_extract]; omega
    have HALL := hide hall
    clear hall
    by_cases h0 : k = s.size
    · have hez' : ((s.extract k s.size).size : Int) = 0 := by omega
      have HK := hide (show nextBad s k from .inl h0)
      generalize hst : s.extract k s.size = st at *
      have HS := hide hst
      clear hst hez h0
      go_wp2
      go_ret
      exact ⟨by first | rfl | trivial, k, hk, by rw [unhide HS]; rfl, unhide HALL, unhide HK⟩
    · have hl : k < s.data.toList.length := by simp; omega
      obtain ⟨x, hx⟩ : ∃ x, s.data.toList[k]? = some x := ⟨_, List.getElem?_eq_getElem hl⟩
      have hx2 : (s.extract k s.size).data.toList[0]? = some x := by
        rw [extract_list, List.getElem?_take, if_pos (by omega), List.getElem?_drop]
        exact hx
      have hbr := fun wx => byte_run (s.extract k s.size) 0 x hx2 wx
      have hsl := fun wx => slice_from (s.extract k s.size) 1 (by omega) wx
      have hee : (s.extract k s.size).extract 1 (s.extract k s.size).size = s.extract (k + 1) s.size := by
        rw [hez, ByteArray.extract_extract]
        congr 1
        omega
      rw [hee] at hsl
      have HX := hide hx
      generalize hst : s.extract k s.size = st at *
      have HST := hide hst
      have hezi : (0 : Int) < (st.size : Int) := by omega
      have HZ := hide hez
      have HM := hide (show k + 1 ≤ s.size by omega)
      simp only [Int.cast_ofNat_Int] at hbr hsl
      clear hst hx2 hee hl hx hez h0 hk
      cases hd : isDig x with
      | true =>
        have n1 := unhide N1 x
        rw [hd] at n1
        have M1 := hide n1
        have HD := hide (show headDig s (k + 1) from all_take s.data.toList k x (unhide HX) (unhide HALL) hd)
        clear n1 hd
        go_wp2_with fail
        refine (unhide M1).mono ?_
        rintro e w1 ⟨rfl, rfl⟩
        go_wp2
        go_roundw
        case rel => exact ⟨by first | rfl | trivial, k + 1, unhide HM, rfl, unhide HD⟩
        case measure =>
          have h1 := unhide HZ
          have h2 : (s.extract (k + 1) s.size).size = s.size - (k + 1) := by rw [ByteArray.size_extract]; have := unhide HM; omega
          have h3 := unhide HM
          simp only []
          omega
      | false =>
        have n1 := unhide N1 x
        rw [hd] at n1
        have M1 := hide n1
        have HD := hide (show nextBad s k from .inr ⟨x, unhide HX, hd⟩)
        clear n1 hd
        go_wp2_with fail
        refine (unhide M1).mono ?_
        rintro e w1 ⟨rfl, rfl⟩
        go_wp2
        go_ret
        exact ⟨by first | rfl | trivial, k, by have := unhide HM; omega, by rw [unhide HST]; rfl, unhide HALL, unhide HD⟩

/-- both cuts together: nothing is left just where all is digits -/
theorem trim_empty (s : ByteArray) (m k : Nat) (hm : m ≤ s.size) (hr : restDig s m) (hb : lastBad s m) (hk : k ≤ (s.extract 0 m).size) (hh : headDig (s.extract 0 m) k) (hn : nextBad (s.extract 0 m) k) :
    ((s.extract 0 m).extract k (s.extract 0 m).size).toList.isEmpty = allDig s := by
  have hez : (s.extract 0 m).size = m := by rw [ByteArray.size_extract]; omega
  have hle : ((s.extract 0 m).extract k (s.extract 0 m).size).toList.length = m - k := by
    rw [Lib.toList_data]
    have : ((s.extract 0 m).extract k (s.extract 0 m).size).size = m - k := by rw [ByteArray.size_extract, hez]; omega
    rw [Array.length_toList]
    exact this
  cases ha : allDig s with
  | true =>
    rw [List.isEmpty_iff, ← List.length_eq_zero_iff, hle]
    rcases hb with hb | ⟨x, hx, hd⟩
    · omega
    · exfalso
      have := List.all_eq_true.1 ha x (List.mem_of_getElem? hx)
      rw [hd] at this
      cases this
  | false =>
    rw [List.isEmpty_eq_false_iff]
    intro e
    have hmk : m - k = 0 := by rw [← hle, e]; rfl
    have hkm : k = m := by omega
    have : allDig s = true := by
      unfold allDig
      rw [← List.take_append_drop m s.data.toList, List.all_append]
      have h1 : (s.data.toList.take m).all isDig = true := by
        have := hh
        unfold headDig at this
        rw [extract_list, List.drop_zero, List.take_take] at this
        rw [show min k (m - 0) = m by omega] at this
        exact this
      rw [h1]
      exact hr
    rw [ha] at this
    cases this

set_option maxRecDepth 100000 in
theorem zeroSet : ∀ w, (zeroValue 149).run Tryz.prog w = .ok (.agg (Array.replicate 256 (.bool false))) w := fun w => Tryz.zeroValue149 w
theorem makeSet_any (w : World) : Calls Tryz.prog 110 #[.string digitsT] w fun e w' => e = .returned (.tuple #[.agg (Lib.setCells digitsT.data.toList), .bool true]) ∧ w' = w.alloc (.cells (Lib.setCells digitsT.data.toList) 149) :=
  Any.strings_makeASCIISet Tryz.lays227 zeroSet (by kernel_rfl) digitsT w (by decide) (fun j b hb => by
    have hm := List.mem_of_getElem? hb
    have : ∀ b ∈ digitsT.data.toList, b.toNat < 128 := by decide
    exact this b hm)

set_option maxRecDepth 100000 in
set_option maxHeartbeats 1000000 in
theorem trimD_any (s : ByteArray) (w : World) (hs : (s.size : Int) ≤ 9223372036854775807) :
    Calls Tryz.prog 88 #[.string s, .string digitsT] w fun e w' => Below w.heap.size w w' ∧ ∃ t, e = .returned (.string t) ∧ t.toList.isEmpty = allDig s := by
  by_cases h0 : s.size = 0
  · have hse : s.toList.isEmpty = true := by
      rw [Lib.toList_data, List.isEmpty_iff]
      exact List.length_eq_zero_iff.1 (by simpa using h0)
    go_enter Tryz.func88, Tryz.ntmps88
    go_wp2
    go_ret
    refine ⟨Below.refl _ _, s, rfl, ?_⟩
    rw [hse, allDig]
    rw [Lib.toList_data] at hse
    rw [List.isEmpty_iff.1 hse]; rfl
  · have hse : s.toList.isEmpty = false := by
      rw [Lib.toList_data, List.isEmpty_eq_false_iff]
      exact fun e => h0 (by have := congrArg List.length e; simpa using this)
    have hde : digitsT.toList.isEmpty = false := by rw [Lib.toList_data]; rfl
    have hd10 : (digitsT.size : Int) = 10 := rfl
    have N1 := hide (makeSet_any w)
    have hcs : (Lib.setCells digitsT.data.toList).size = 256 := by rfl
    have hone := Lib.setCells_one digitsT.data.toList
    have hat : ∀ x : UInt8, ((w.alloc (.cells (Lib.setCells digitsT.data.toList) 149)).alloc (.cells (Lib.setCells digitsT.data.toList) 149)).cell? ⟨w.heap.size + 1, x.toNat, none⟩ = some (.bool (digitsT.data.toList.contains x)) := fun x => by
      rw [World.cell?_alloc_at _ _ _ _ (by simp), Lib.setCells_at]
    have hset : SetAt ((w.alloc (.cells (Lib.setCells digitsT.data.toList) 149)).alloc (.cells (Lib.setCells digitsT.data.toList) 149)) (w.heap.size + 1) := hat
    clear hat
    generalize hdt : digitsT = dt at hde hd10 N1 ⊢
    rw [hdt] at hcs hone hset
    generalize hcc : Lib.setCells dt.data.toList = cs at *
    have hsc : (storeCells ⟨w.heap.size + 1, 0, none⟩ cs.toList 0).run Tryz.prog ((w.alloc (.cells cs 149)).alloc (.cells Tryz.zeroCells149 149)) = .ok () ((w.alloc (.cells cs 149)).alloc (.cells cs 149)) := by
      have := run_storeCells_new (P := Tryz.prog) (w.alloc (.cells cs 149)) 149 Tryz.zeroCells149 cs (by rw [hcs]; rfl) (by rw [hcs]; rfl) hone
      simpa using this
    obtain ⟨w2, hw2⟩ : ∃ w2, w2 = (w.alloc (.cells cs 149)).alloc (.cells cs 149) := ⟨_, rfl⟩
    have hb2 : Below w.heap.size w w2 := by
      rw [hw2]; exact ((Below.refl _ _).alloc (Nat.le_refl _) _).alloc (by simp) _
    rw [← hw2] at hsc hset
    clear hw2
    have N2 := hide (trimR_any s (w.heap.size + 1) w2 hset hs)
    have N3 := hide (fun (t : ByteArray) (ht : (t.size : Int) ≤ 9223372036854775807) => trimL_any t (w.heap.size + 1) w2 hset ht)
    go_enter Tryz.func88, Tryz.ntmps88
    go_wp2_with fail
    refine (unhide N1).mono ?_
    rintro e w1 ⟨rfl, rfl⟩
    go_upto_region 6 with fail
    go_wp2_with fail
    refine (unhide N2).mono ?_
    rintro e w1 ⟨rfl, m, hm, rfl, hr, hb⟩
    have hz : ((s.extract 0 m).size : Int) ≤ 9223372036854775807 := by rw [ByteArray.size_extract]; omega
    have hN3 := hide (unhide N3 _ hz)
    go_wp2_with fail
    refine (unhide hN3).mono ?_
    rintro e w1 ⟨rfl, k, hk, rfl, hh, hn⟩
    have he := trim_empty s m k hm hr hb hk hh hn
    generalize (s.extract 0 m).extract k (s.extract 0 m).size = t at *
    go_wp2
    go_ret
    exact ⟨hb2, t, rfl, he⟩
end Go.Proofs.YtckkhpegimkefaaGreatDoor
namespace Go.Proofs.YtckkhpegimkefaaGreatDoor
open Go.RowKit
set_option linter.unusedVariables false

/-- a number within two others -/
def inB (n lo hi : Int) : Bool := decide (lo ≤ n ∧ n ≤ hi)
theorem inB_true {n lo hi : Int} : inB n lo hi = true ↔ lo ≤ n ∧ n ≤ hi := decide_eq_true_iff
theorem inB_false {n lo hi : Int} : inB n lo hi = false ↔ ¬ (lo ≤ n ∧ n ≤ hi) := decide_eq_false_iff_not
def digC (c : UInt8) : Bool := decide (48 ≤ c.toNat ∧ c.toNat ≤ 57)
def digB (s : ByteArray) : Bool := s.data.toList.all digC
def digitsB (s : ByteArray) (lo hi : Int) : Bool := digB s && inB s.size lo hi
theorem digB_take (s : ByteArray) (k : Nat) (h : k < s.size) : (s.data.toList.take (k + 1)).all digC = ((s.data.toList.take k).all digC && digC s[k]) := by
  have hk : k < s.data.toList.length := by rw [Array.length_toList]; exact h
  rw [List.take_add_one, List.getElem?_eq_getElem hk, List.all_append]
  simp
  rfl
theorem digB_not (s : ByteArray) (k : Nat) (h : (s.data.toList.take k).all digC = false) : digB s = false := by
  have e := List.take_append_drop k s.data.toList
  rw [digB, ← e, List.all_append, h, Bool.false_and]
theorem digC_false {c : UInt8} (h : digC c = false) : c.toNat < 48 ∨ 57 < c.toNat := by
  have := of_decide_eq_false h
  omega
theorem digC_true {c : UInt8} (h : digC c = true) : 48 ≤ c.toNat ∧ c.toNat ≤ 57 := of_decide_eq_true h
theorem digitsB_no {s : ByteArray} {lo hi : Int} (h : digB s = false) : digitsB s lo hi = false := by rw [digitsB, h, Bool.false_and]
theorem digitsB_yes {s : ByteArray} {lo hi : Int} (h : digB s = true) : digitsB s lo hi = inB s.size lo hi := by rw [digitsB, h, Bool.true_and]
set_option maxHeartbeats 1000000 in
theorem rdigits_any (s : ByteArray) (lo hi : Int) (hs : s.size ≤ maxLen) (w : World) :
    Calls Tryz.prog 70 #[.string s, .int .i64 lo, .int .i64 hi] w fun e w' => e = .returned (.bool (digitsB s lo hi)) ∧ w' = w := by
  have hs' : (s.size : Int) ≤ 9223372036854775807 := by simp only [maxLen] at hs; omega
  clear hs
  go_enter Tryz.func70, Tryz.ntmps70
  go_wp2
  go_loop [7] (fun i => ∃ k : Nat, k ≤ s.size ∧ i = .int .i64 k ∧ Hid ((s.data.toList.take k).all digC = true)) (fun i => s.size - (intOf i).toNat)
  case atStart => exact ⟨0, Nat.zero_le _, rfl, hide (by simp)⟩
  case round =>
    obtain ⟨k, hk, rfl, HA⟩ := hrel
    by_cases hlt : k < s.size
    · have hst := digB_take s k hlt
      rw [unhide HA, Bool.true_and] at hst
      cases hc : digC s[k] with
      | false =>
        have HF := hide (digitsB_no (lo := lo) (hi := hi) (digB_not s (k + 1) (hst.trans hc)))
        rcases digC_false hc with h1 | h1
        · have h2 : ((s[k].toNat : Nat) : Int) < 48 := by omega
          clear hst hc
          go_wp2
          go_ret
          exact ⟨ret_bool (unhide HF).symm, rfl⟩
        · have h2 : (57 : Int) < ((s[k].toNat : Nat) : Int) := by omega
          have h3 : ¬ ((s[k].toNat : Nat) : Int) < 48 := by omega
          clear hst hc
          go_wp2
          go_ret
          exact ⟨ret_bool (unhide HF).symm, rfl⟩
      | true =>
        have HS := hide (hst.trans hc)
        obtain ⟨h1, h1'⟩ := digC_true hc
        have h2 : ¬ (57 : Int) < ((s[k].toNat : Nat) : Int) := by omega
        have h3 : ¬ ((s[k].toNat : Nat) : Int) < 48 := by omega
        clear hst hc
        go_wp2
        go_round
        case rel => exact ⟨k + 1, by omega, by go_num, HS⟩
        case measure => simp [intOf]; omega
    · have HF : Hid (digB s = true) := hide (by have := unhide HA; rw [List.take_of_length_le (by simp; omega)] at this; exact this)
      by_cases hl : lo ≤ (s.size : Int)
      · have HM : Hid (digitsB s lo hi = decide ((s.size : Int) ≤ hi)) := hide (by rw [digitsB_yes (unhide HF)]; exact decide_eq_decide.2 (by omega))
        go_wp2
        go_ret
        exact ⟨ret_bool (unhide HM).symm, rfl⟩
      · have HM : Hid (digitsB s lo hi = false) := hide (by rw [digitsB_yes (unhide HF)]; exact decide_eq_false (by omega))
        go_wp2
        go_ret
        exact ⟨ret_bool (unhide HM).symm, rfl⟩
theorem digB_all (s : ByteArray) : digB s = allDig s := by
  unfold digB allDig
  congr 1
  funext b
  exact Bool.eq_iff_iff.2 (decide_eq_true_iff.trans (isDig_iff b).symm)
end Go.Proofs.YtckkhpegimkefaaGreatDoor
