/- A card's store: where a part lies. -/
import Derived.Test.YtajkbkljonejnaaGreatDoorM01
import Derived.Test.YtajkbkljonejnaaGreatDoorProg
import Derived.WalkKit
import Derived.ProofKit
import Derived.OpenShut
import Derived.ShutString
import Derived.ChangeOld
import Derived.Below
import Derived.Deep.Slices
import Derived.Test.YtajkbkljonejnaaGreatDoorM00
import Derived.Lib.Strings
import Derived.Deep.QuietTactic
namespace Go.Proofs.YtajkbkljonejnaaGreatDoor
open Go.RowKit
set_option linter.unusedVariables false
set_option linter.unusedSimpArgs false
set_option maxRecDepth 100000
theorem four_casesD (i : Nat) (h : i < 4) : i = 0 ∨ i = 1 ∨ i = 2 ∨ i = 3 := by omega
theorem sixteen_cases (i : Nat) (h : i < 16) : i = 0 ∨ i = 1 ∨ i = 2 ∨ i = 3 ∨ i = 4 ∨ i = 5 ∨ i = 6 ∨ i = 7 ∨ i = 8 ∨ i = 9 ∨ i = 10 ∨ i = 11 ∨ i = 12 ∨ i = 13 ∨ i = 14 ∨ i = 15 := by omega
set_option maxHeartbeats 4000000 in
theorem place_any (i sd : Nat) (w : World) (hi : i < 4) (hs : sd < 16) : Calls Tryz.prog 48 #[.int .i64 (i : Int), .int .i64 (sd : Int)] w fun e w' => e = .returned (.int .i64 (plK i sd : Int)) ∧ w' = w := by
  rcases four_casesD i hi with rfl | rfl | rfl | rfl <;> rcases sixteen_cases sd hs with rfl | rfl | rfl | rfl | rfl | rfl | rfl | rfl | rfl | rfl | rfl | rfl | rfl | rfl | rfl | rfl
  all_goals
    clear hi hs
    go_enter Tryz.func48, Tryz.ntmps48
    go_wp2
    go_ret
    exact ⟨ret_int (by first | kernel_rfl | decide | rfl), rfl⟩
end Go.Proofs.YtajkbkljonejnaaGreatDoor
namespace Go.Proofs.YtajkbkljonejnaaGreatDoor
set_option linter.unusedVariables false
set_option linter.unusedSimpArgs false
set_option maxRecDepth 100000
def wsP (M : Mm) (sd : Nat) (H N : Nat → ByteArray) : Nat → Mm × Nat
  | 0 => (M, sd)
  | j + 1 => (w1M (wsP M sd H N j).1 (wsP M sd H N j).2 j (H j) (N j), w1S (wsP M sd H N j).2 j (H j) (N j))
theorem wsM_wsP (M : Mm) (sd : Nat) (H N : Nat → ByteArray) : wsM M sd H N = (wrC (wsP M sd H N 4).1 0 (hdK (wsP M sd H N 4).2), (wsP M sd H N 4).2) := rfl
theorem wsP_same {M : Mm} {sd : Nat} {H N : Nat → ByteArray} {j : Nat} (h : N j = H j) : wsP M sd H N (j + 1) = wsP M sd H N j := by
  show (w1M _ _ _ _ _, w1S _ _ _ _) = _
  unfold w1M w1S
  rw [if_pos h, if_pos h]
theorem wsP_new {M : Mm} {sd : Nat} {H N : Nat → ByteArray} {j : Nat} (h : N j ≠ H j) : wsP M sd H N (j + 1) = (wrC (wsP M sd H N j).1 (plK j (flip (wsP M sd H N j).2 j)) (N j), flip (wsP M sd H N j).2 j) := by
  show (w1M _ _ _ _ _, w1S _ _ _ _) = _
  unfold w1M w1S
  rw [if_neg h, if_neg h]
theorem xor_flip (sd i : Nat) (hs : sd < 16) (hi : i < 4) : bits .xor .i64 (sd : Int) ((2 ^ i : Nat) : Int) = (flip sd i : Int) := by
  rcases four_casesD i hi with rfl | rfl | rfl | rfl <;> rcases sixteen_cases sd hs with rfl | rfl | rfl | rfl | rfl | rfl | rfl | rfl | rfl | rfl | rfl | rfl | rfl | rfl | rfl | rfl <;> decide
end Go.Proofs.YtajkbkljonejnaaGreatDoor
namespace Go.Proofs.YtajkbkljonejnaaGreatDoor
open Go.ChangeShapes Go.WideShapes Go.ChangeAt Go.RowKit Go.Deep
set_option linter.unusedVariables false
theorem cellsOfInt : Tryz.prog.cellsOf 3 = 1 := by kernel_rfl
theorem cellsOfBool : Tryz.prog.cellsOf 4 = 1 := by kernel_rfl
theorem cellsOfString : Tryz.prog.cellsOf 9 = 1 := by kernel_rfl
theorem cell_ltR {w : World} {a : Addr} {v : Value} (h : w.cell? a = some v) : a.block < w.heap.size := by
  rcases Nat.lt_or_ge a.block w.heap.size with h1 | h1
  · exact h1
  · unfold World.cell? at h
    rw [Array.getElem?_eq_none h1] at h
    cases h
end Go.Proofs.YtajkbkljonejnaaGreatDoor
namespace Go.Proofs.YtajkbkljonejnaaGreatDoor
open Go.ChangeShapes Go.WideShapes Go.ChangeAt Go.RowKit Go.Deep
set_option linter.unusedVariables false
set_option maxRecDepth 100000
structure XOrder where
  what : Int
  n : Int
  text : ByteArray
deriving Inhabited
def valOrder (x : XOrder) : Value := .agg #[.int .i64 x.what, .int .i64 x.n, .string x.text]
def okOrder (W : World) (x : XOrder) : Prop := (-9223372036854775808 ≤ x.what ∧ x.what ≤ 9223372036854775807) ∧ (-9223372036854775808 ≤ x.n ∧ x.n ≤ 9223372036854775807) ∧ x.text.size ≤ maxLen
theorem cellsOfOrder : Tryz.prog.cellsOf 94 = 3 := by kernel_rfl
theorem okOrder.below {W W' : World} {x : XOrder} (h : okOrder W x) (hb : Below W.heap.size W W') : okOrder W' x := by
  obtain ⟨h0, h1, h2⟩ := h
  exact ⟨h0, h1, h2⟩
theorem opencOrder {H : Type} {enc : TypeId × Value → H} {W : World} {k : Nat} {cs : List Value} {y : DataW H × List MemPlace}
    (h : DataW.trod enc Tryz.prog W 0 (fun _ => true) true k 94 cs = some y) :
    ∃ x : XOrder, cs = [.int .i64 x.what, .int .i64 x.n, .string x.text] ∧ okOrder W x := by
  obtain ⟨xs, k', _, _, hsz, hlen, hq⟩ := DataW.trod_struct Tryz.underlying94 h
  rw [cellsOfOrder] at hsz
  match cs, hsz with
  | [c0, c1, c2], _ =>
    match xs, hlen with
    | [y0, y1, y2], _ =>
      have h0 : DataW.trod enc Tryz.prog W 0 (fun _ => true) true k' 3 [c0] = some y0 := by simpa [cellsOfBool, cellsOfInt, cellsOfString] using hq 0 _ rfl
      obtain ⟨z0, e0, g0, w0⟩ := DataW.trod_int Tryz.underlying3 h0
      have h1 : DataW.trod enc Tryz.prog W 0 (fun _ => true) true k' 3 [c1] = some y1 := by simpa [cellsOfBool, cellsOfInt, cellsOfString] using hq 1 _ rfl
      obtain ⟨z1, e1, g1, w1⟩ := DataW.trod_int Tryz.underlying3 h1
      have h2 : DataW.trod enc Tryz.prog W 0 (fun _ => true) true k' 9 [c2] = some y2 := by simpa [cellsOfBool, cellsOfInt, cellsOfString] using hq 2 _ rfl
      obtain ⟨z2, e2, g2, w2⟩ := DataW.trod_string Tryz.underlying9 h2
      simp at e0 e1 e2
      subst e0
      subst e1
      subst e2
      exact ⟨⟨z0, z1, z2⟩, rfl, ⟨bounds_i64 w0, bounds_i64 w1, w2⟩⟩
def RowOrder (W : World) (ao : Option Addr) (l : List XOrder) : Prop :=
  (l = [] ∨ ∃ b off, ao = some ⟨b, off, none⟩ ∧ b < W.heap.size ∧ ∀ i x, l[i]? = some x → W.cell? ⟨b, off + i * 3, none⟩ = some (.int .i64 x.what) ∧ W.cell? ⟨b, off + i * 3 + 1, none⟩ = some (.int .i64 x.n) ∧ W.cell? ⟨b, off + i * 3 + 2, none⟩ = some (.string x.text)) ∧ (∀ x ∈ l, okOrder W x) ∧ l.length ≤ maxLen
theorem RowOrder.below {W W' : World} {ao : Option Addr} {l : List XOrder} (h : RowOrder W ao l) (hb : Below W.heap.size W W') : RowOrder W' ao l := by
  obtain ⟨h, ho, hm⟩ := h
  refine ⟨?_, fun x hx => (ho x hx).below hb, hm⟩
  rcases h with h | ⟨b, off, e, hlt, hc⟩
  · exact .inl h
  · refine .inr ⟨b, off, e, Nat.lt_of_lt_of_le hlt hb.size, fun i s hi => ?_⟩
    obtain ⟨c0, c1, c2⟩ := hc i s hi
    exact ⟨(hb.cell (p := ⟨b, off + i * 3, none⟩) hlt).trans c0, (hb.cell (p := ⟨b, off + i * 3 + 1, none⟩) hlt).trans c1, (hb.cell (p := ⟨b, off + i * 3 + 2, none⟩) hlt).trans c2⟩
theorem openrOrder {H : Type} {enc : TypeId × Value → H} {W : World} {k : Nat} {cs : List Value} {y : DataW H × List MemPlace}
    (h : DataW.trod enc Tryz.prog W 0 (fun _ => true) true k 27 cs = some y) :
    ∃ (ao : Option Addr) (l : List XOrder) (cap : Nat), cs = [.slice ao l.length cap] ∧ RowOrder W ao l ∧ l.length ≤ cap ∧ (l = [] ∨ ∃ es ss, y.1 = .slice es ss ∧ es.length = l.length) := by
  rcases open_slice Tryz.underlying27 h with ⟨rfl, rfl⟩ | ⟨a, len, cap, mm, nn, D, Pl, rfl, _, hl, hm, hmm, hx, hel⟩
  · exact ⟨none, [], 0, rfl, ⟨.inl rfl, by simp, by simp⟩, Nat.le_refl _, .inl rfl⟩
  · simp only [if_true] at hmm
    rw [cellsOfOrder] at hel
    obtain ⟨F, hF⟩ := choose_lt (α := XOrder) (n := mm) (p := fun i x => (W.cell? ((a.add (i * 3)).add 0) = some (.int .i64 x.what) ∧ W.cell? ((a.add (i * 3)).add 1) = some (.int .i64 x.n) ∧ W.cell? ((a.add (i * 3)).add 2) = some (.string x.text)) ∧ okOrder W x) (fun i hi => by
      obtain ⟨cs', h1, h2⟩ := hel i hi
      obtain ⟨x, rfl, hok⟩ := opencOrder h2
      obtain ⟨_, _, hc⟩ := World.cells?_some h1
      exact ⟨x, ⟨hc 0 (by omega), hc 1 (by omega), hc 2 (by omega)⟩, hok⟩)
    refine ⟨some a, (List.range len).map F, cap, by simp, ⟨?_, ?_, by rw [List.length_map, List.length_range]; omega⟩, by rw [List.length_map, List.length_range]; exact hl, .inr ⟨_, _, by rw [hx], by simp⟩⟩
    · by_cases hl0 : len = 0
      · subst hl0; exact .inl rfl
      · obtain ⟨b, off, spot⟩ := a
        have hc0 := (hF 0 (by omega)).1.1
        have hspot : spot = none := by simpa [Addr.add] using World.cell?_spot hc0
        subst hspot
        refine .inr ⟨b, off, rfl, by simpa [Addr.add] using cell_ltR hc0, fun i x hi => ?_⟩
        have hi' : i < len := by
          rcases Nat.lt_or_ge i len with h | h
          · exact h
          · rw [List.getElem?_eq_none (by simpa using h)] at hi; cases hi
        rw [List.getElem?_map, List.getElem?_range hi'] at hi
        obtain rfl : F i = x := by simpa using hi
        have := (hF i (by omega)).1
        simp only [WideShapes.add_plain, Nat.add_zero] at this
        exact this
    · intro x hx
      obtain ⟨i, hi, rfl⟩ := List.mem_map.1 hx
      exact (hF i (by have : i < len := by simpa using hi
                      omega)).2
theorem openROrder {H : Type} {enc : TypeId × Value → H} {W : World} {b0 : Nat} {r : Reach} {v : Value} {d : DataW H} {p : List MemPlace}
    (hv : Value.okWide Tryz.prog W r b0 27 v) (h : DataW.Trod enc Tryz.prog W 0 (fun _ => true) true 27 v d p) : ∃ (ao : Option Addr) (l : List XOrder) (cap : Nat), v = .slice ao l.length cap ∧ RowOrder W ao l ∧ (l = [] ∨ ∃ es ss, d = .slice es ss ∧ es.length = l.length) := by
  obtain ⟨a0, len, cap, rfl⟩ := okWide_slice Tryz.underlying27 hv
  obtain ⟨fuel, hf⟩ := h
  obtain ⟨ao, l, cap', hx, hr, _, hd⟩ := openrOrder hf
  simp [Value.cells] at hx
  obtain ⟨rfl, rfl, rfl⟩ := hx
  exact ⟨_, l, _, rfl, hr, hd⟩
end Go.Proofs.YtajkbkljonejnaaGreatDoor
namespace Go.Proofs.YtajkbkljonejnaaGreatDoor
open Go.RowKit
set_option linter.unusedVariables false
def inBO (n lo hi : Int) : Bool := decide (lo ≤ n ∧ n ≤ hi)
theorem inB_trueO {n lo hi : Int} : inBO n lo hi = true ↔ lo ≤ n ∧ n ≤ hi := decide_eq_true_iff
theorem inB_falseO {n lo hi : Int} : inBO n lo hi = false ↔ ¬ (lo ≤ n ∧ n ≤ hi) := decide_eq_false_iff_not
def digCO (c : UInt8) : Bool := decide (48 ≤ c.toNat ∧ c.toNat ≤ 57)
def digBO (s : ByteArray) : Bool := s.data.toList.all digCO
def digitsBO (s : ByteArray) (lo hi : Int) : Bool := digBO s && inBO s.size lo hi
theorem digB_takeO (s : ByteArray) (k : Nat) (h : k < s.size) : (s.data.toList.take (k + 1)).all digCO = ((s.data.toList.take k).all digCO && digCO s[k]) := by
  rw [take_snoc s k h, List.all_append]
  simp
theorem digB_notO (s : ByteArray) (k : Nat) (h : (s.data.toList.take k).all digCO = false) : digBO s = false := by
  have e := List.take_append_drop k s.data.toList
  rw [digBO, ← e, List.all_append, h, Bool.false_and]
theorem digC_falseO {c : UInt8} (h : digCO c = false) : c.toNat < 48 ∨ 57 < c.toNat := by
  have := of_decide_eq_false h
  omega
theorem digC_trueO {c : UInt8} (h : digCO c = true) : 48 ≤ c.toNat ∧ c.toNat ≤ 57 := of_decide_eq_true h
theorem digitsB_noO {s : ByteArray} {lo hi : Int} (h : digBO s = false) : digitsBO s lo hi = false := by rw [digitsBO, h, Bool.false_and]
theorem digitsB_yesO {s : ByteArray} {lo hi : Int} (h : digBO s = true) : digitsBO s lo hi = inBO s.size lo hi := by rw [digitsBO, h, Bool.true_and]
theorem within_any (n lo hi : Int) (w : World) :
    Calls Tryz.prog 46 #[.int .i64 n, .int .i64 lo, .int .i64 hi] w fun e w' => e = .returned (.bool (inBO n lo hi)) ∧ w' = w := by
  by_cases h : lo ≤ n
  · have HM : Hid (inBO n lo hi = decide (n ≤ hi)) := hide (decide_eq_decide.2 (by omega))
    go_enter Tryz.func46, Tryz.ntmps46
    go_wp2
    go_ret
    exact ⟨ret_bool (unhide HM).symm, rfl⟩
  · have HM : Hid (inBO n lo hi = false) := hide (decide_eq_false (by omega))
    go_enter Tryz.func46, Tryz.ntmps46
    go_wp2
    go_ret
    exact ⟨ret_bool (unhide HM).symm, rfl⟩
set_option maxHeartbeats 1000000 in
theorem digits_any (s : ByteArray) (lo hi : Int) (hs : s.size ≤ maxLen) (w : World) :
    Calls Tryz.prog 43 #[.string s, .int .i64 lo, .int .i64 hi] w fun e w' => e = .returned (.bool (digitsBO s lo hi)) ∧ w' = w := by
  have hs' : (s.size : Int) ≤ 9223372036854775807 := by simp only [maxLen] at hs; omega
  have N1 := hide (within_any s.size lo hi w)
  clear hs
  go_enter Tryz.func43, Tryz.ntmps43
  go_wp2
  go_loop [10] (fun i => ∃ k : Nat, k ≤ s.size ∧ i = .int .i64 k ∧ Hid ((s.data.toList.take k).all digCO = true)) (fun i => s.size - (intOf i).toNat)
  case atStart => exact ⟨0, Nat.zero_le _, rfl, hide (by simp)⟩
  case round =>
    obtain ⟨k, hk, rfl, HA⟩ := hrel
    by_cases hlt : k < s.size
    · have hst := digB_takeO s k hlt
      rw [unhide HA, Bool.true_and] at hst
      cases hc : digCO s[k] with
      | false =>
        have HF := hide (digitsB_noO (lo := lo) (hi := hi) (digB_notO s (k + 1) (hst.trans hc)))
        rcases digC_falseO hc with h1 | h1
        · have h2 : ((s[k].toNat : Nat) : Int) < 48 := by omega
          clear hst hc N1
          go_wp2
          go_ret
          exact ⟨ret_bool (unhide HF).symm, rfl⟩
        · have h2 : (57 : Int) < ((s[k].toNat : Nat) : Int) := by omega
          have h3 : ¬ ((s[k].toNat : Nat) : Int) < 48 := by omega
          clear hst hc N1
          go_wp2
          go_ret
          exact ⟨ret_bool (unhide HF).symm, rfl⟩
      | true =>
        have HS := hide (hst.trans hc)
        obtain ⟨h1, h1'⟩ := digC_trueO hc
        have h2 : ¬ (57 : Int) < ((s[k].toNat : Nat) : Int) := by omega
        have h3 : ¬ ((s[k].toNat : Nat) : Int) < 48 := by omega
        clear hst hc N1
        go_wp2
        go_round
        case rel => exact ⟨k + 1, by omega, by go_num, HS⟩
        case measure => simp [intOf]; omega
    · have HF : Hid (digBO s = true) := hide (by have := unhide HA; rw [List.take_of_length_le (by simp; omega)] at this; exact this)
      go_wp2_with fail
      refine (unhide N1).mono ?_
      rintro e w1 ⟨rfl, hw1⟩
      subst hw1
      go_wp2
      go_ret
      exact ⟨ret_bool (digitsB_yesO (unhide HF)).symm, rfl⟩
set_option maxHeartbeats 1000000 in
theorem rdigits_anyO (s : ByteArray) (lo hi : Int) (hs : s.size ≤ maxLen) (w : World) :
    Calls Tryz.prog 20 #[.string s, .int .i64 lo, .int .i64 hi] w fun e w' => e = .returned (.bool (digitsBO s lo hi)) ∧ w' = w := by
  have hs' : (s.size : Int) ≤ 9223372036854775807 := by simp only [maxLen] at hs; omega
  clear hs
  go_enter Tryz.func20, Tryz.ntmps20
  go_wp2
  go_loop [7] (fun i => ∃ k : Nat, k ≤ s.size ∧ i = .int .i64 k ∧ Hid ((s.data.toList.take k).all digCO = true)) (fun i => s.size - (intOf i).toNat)
  case atStart => exact ⟨0, Nat.zero_le _, rfl, hide (by simp)⟩
  case round =>
    obtain ⟨k, hk, rfl, HA⟩ := hrel
    by_cases hlt : k < s.size
    · have hst := digB_takeO s k hlt
      rw [unhide HA, Bool.true_and] at hst
      cases hc : digCO s[k] with
      | false =>
        have HF := hide (digitsB_noO (lo := lo) (hi := hi) (digB_notO s (k + 1) (hst.trans hc)))
        rcases digC_falseO hc with h1 | h1
        · have h2 : ((s[k].toNat : Nat) : Int) < 48 := by omega
          clear hst hc
          go_wp2
          go_ret
          exact ⟨ret_bool (unhide HF).symm, rfl⟩
        · have h2 : (57 : Int) < ((s[k].toNat : Nat) : Int) := by omega
          have h3 : ¬ ((s[k].toNat : Nat) : Int) < 48 := by omega
          clear hst hc
          go_wp2
          go_ret
          exact ⟨ret_bool (unhide HF).symm, rfl⟩
      | true =>
        have HS := hide (hst.trans hc)
        obtain ⟨h1, h1'⟩ := digC_trueO hc
        have h2 : ¬ (57 : Int) < ((s[k].toNat : Nat) : Int) := by omega
        have h3 : ¬ ((s[k].toNat : Nat) : Int) < 48 := by omega
        clear hst hc
        go_wp2
        go_round
        case rel => exact ⟨k + 1, by omega, by go_num, HS⟩
        case measure => simp [intOf]; omega
    · have HF : Hid (digBO s = true) := hide (by have := unhide HA; rw [List.take_of_length_le (by simp; omega)] at this; exact this)
      by_cases hl : lo ≤ (s.size : Int)
      · have HM : Hid (digitsBO s lo hi = decide ((s.size : Int) ≤ hi)) := hide (by rw [digitsB_yesO (unhide HF)]; exact decide_eq_decide.2 (by omega))
        go_wp2
        go_ret
        exact ⟨ret_bool (unhide HM).symm, rfl⟩
      · have HM : Hid (digitsBO s lo hi = false) := hide (by rw [digitsB_yesO (unhide HF)]; exact decide_eq_false (by omega))
        go_wp2
        go_ret
        exact ⟨ret_bool (unhide HM).symm, rfl⟩
theorem isPin_any (s : ByteArray) (hs : s.size ≤ maxLen) (w : World) :
    Calls Tryz.prog 44 #[.string s] w fun e w' => e = .returned (.bool (digitsBO s 4 12)) ∧ w' = w := by
  have N1 := hide (digits_any s 4 12 hs w)
  go_enter Tryz.func44, Tryz.ntmps44
  go_wp2_with fail
  refine (unhide N1).mono ?_
  rintro e w1 ⟨rfl, hw1⟩
  subst hw1
  go_wp2
  go_ret
  exact ⟨rfl, rfl⟩
def mostN (what : Int) : Int := if what = 1 ∨ what = 2 then 999999999999 else if what = 3 ∨ what = 7 then 255 else 0
theorem mostOf_any (what : Int) (w : World) :
    Calls Tryz.prog 67 #[.int .i64 what] w fun e w' => e = .returned (.int .i64 (mostN what)) ∧ w' = w := by
  have hcase : what = 1 ∨ (what ≠ 1 ∧ what = 2) ∨ (what ≠ 1 ∧ what ≠ 2 ∧ what = 3) ∨ (what ≠ 1 ∧ what ≠ 2 ∧ what ≠ 3 ∧ what = 7) ∨ (what ≠ 1 ∧ what ≠ 2 ∧ what ≠ 3 ∧ what ≠ 7) := by omega
  rcases hcase with h | ⟨h1, h⟩ | ⟨h1, h2, h⟩ | ⟨h1, h2, h3, h⟩ | ⟨h1, h2, h3, h⟩
  · subst h
    go_enter Tryz.func67, Tryz.ntmps67
    go_wp2
    go_ret
    exact ⟨rfl, rfl⟩
  · subst h
    go_enter Tryz.func67, Tryz.ntmps67
    go_wp2
    go_ret
    exact ⟨rfl, rfl⟩
  · subst h
    go_enter Tryz.func67, Tryz.ntmps67
    go_wp2
    go_ret
    exact ⟨rfl, rfl⟩
  · subst h
    go_enter Tryz.func67, Tryz.ntmps67
    go_wp2
    go_ret
    exact ⟨rfl, rfl⟩
  · have HM : Hid (mostN what = 0) := hide (by rw [mostN, if_neg (by omega), if_neg (by omega)])
    go_enter Tryz.func67, Tryz.ntmps67
    go_wp2
    go_ret
    exact ⟨ret_int (unhide HM).symm, rfl⟩
def textB (what : Int) (t : ByteArray) : Bool := if what = 7 then decide (t.size = 16) else if what = 8 then digitsBO t 4 12 else decide (t.size = 0)
theorem emptyO (s : ByteArray) : s.toList.isEmpty = decide (s.size = 0) := by
  rw [Lib.toList_data]
  have e : s.size = s.data.toList.length := by simp
  rw [e]
  generalize s.data.toList = m
  cases m <;> simp
theorem isText_any (what : Int) (t : ByteArray) (ht : t.size ≤ maxLen) (w : World) :
    Calls Tryz.prog 69 #[.int .i64 what, .string t] w fun e w' => e = .returned (.bool (textB what t)) ∧ w' = w := by
  have N1 := hide (isPin_any t ht w)
  have he := emptyO t
  by_cases h7 : what = 7
  · subst h7
    have HM : Hid (textB 7 t = decide ((t.size : Int) = 16)) := hide (by rw [textB, if_pos rfl]; exact decide_eq_decide.2 (by omega))
    clear he
    go_enter Tryz.func69, Tryz.ntmps69
    go_wp2
    go_ret
    exact ⟨ret_bool (by rw [unhide HM, Bool.eq_iff_iff]; simp), rfl⟩
  · by_cases h8 : what = 8
    · subst h8
      have HM : Hid (textB 8 t = digitsBO t 4 12) := hide rfl
      clear he
      go_enter Tryz.func69, Tryz.ntmps69
      go_wp2_with fail
      refine (unhide N1).mono ?_
      rintro e w1 ⟨rfl, hw1⟩
      subst hw1
      go_wp2
      go_ret
      exact ⟨rfl, rfl⟩
    · have HM : Hid (textB what t = decide (t.size = 0)) := hide (by rw [textB, if_neg h7, if_neg h8])
      generalize decide (t.size = 0) = q at *
      go_enter Tryz.func69, Tryz.ntmps69
      go_wp2
      go_ret
      exact ⟨ret_bool (unhide HM).symm, rfl⟩
end Go.Proofs.YtajkbkljonejnaaGreatDoor
namespace Go.Proofs.YtajkbkljonejnaaGreatDoor
open Go.RowKit
set_option linter.unusedVariables false
structure Quietly (P : Program) (ops : Array Oper) (C : World → Prop) (Q : Act → Prop) (l : List Oper) (a : Act) : Prop where
  out : wpQuiet P ops C Q l a
theorem Quietly.nil {P : Program} {ops : Array Oper} {C : World → Prop} {Q : Act → Prop} {a : Act} (h : Q a) : Quietly P ops C Q [] a := ⟨h⟩
theorem Quietly.step {P : Program} {ops : Array Oper} {C : World → Prop} {Q : Act → Prop} {a : Act} {o : Oper} {rest : List Oper}
    (h : ∀ K : Act → Prop, (∀ a, Quietly P ops C Q rest a → K a) → if Region.wanted o (yielded ops a.tmps) then o.quiet P a C K else K (a.put o.dst undef)) : Quietly P ops C Q (o :: rest) a :=
  ⟨wpQuiet_step fun K hK => h K fun a ha => hK a ha.out⟩
theorem wp_region_below {P : Program} {id : Nat} {Q : Exit → Act → World → Prop} {a : Act} {w : World} {l : List Oper} (w0 : World) (hb : Below w0.heap.size w0 w)
    (hm : P.follows .mixedOrders = true) (hB : Region.lexB .any l.toArray = true)
    (h : Quietly P l.toArray (fun w' => Below w0.heap.size w0 w') (fun a' => ∀ w', Below w0.heap.size w0 w' → Q .normal a' w') l a) : (Code.region id l.toArray true).wp P Q a w :=
  wp_region_quiet (C := fun w' => Below w0.heap.size w0 w') hm hB hb.drew (by simpa using h.out)
theorem calls_below {P : Program} {f : FuncId} {args : Array Value} {w0 w : World} {v : Value} (hb : Below w0.heap.size w0 w)
    (h : Calls P f args w fun e w' => e = .returned v ∧ Below w.heap.size w w') : Calls P f args w fun e w' => e = .returned v ∧ Below w0.heap.size w0 w' :=
  h.mono fun _ _ ⟨he, hk⟩ => ⟨he, hb.trans (hk.mono hb.size)⟩
end Go.Proofs.YtajkbkljonejnaaGreatDoor
namespace Go.Proofs.YtajkbkljonejnaaGreatDoor
end Go.Proofs.YtajkbkljonejnaaGreatDoor
