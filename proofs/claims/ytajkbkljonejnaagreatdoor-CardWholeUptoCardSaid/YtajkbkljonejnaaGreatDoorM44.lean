/- Deals of the program: DealText. -/
import Derived.Test.YtajkbkljonejnaaGreatDoorM38
import Derived.Test.YtajkbkljonejnaaGreatDoorM37
import Derived.Deep.AppendLies
import Derived.Deep.RegionHeld3
import Derived.Deep.RegionWith
import Derived.Deep.RegionLaw
import Derived.Test.YtajkbkljonejnaaGreatDoorM00
namespace Go.Proofs.YtajkbkljonejnaaGreatDoor
open Go.RowKit
set_option linter.unusedVariables false

def oneT (n : Int) : ByteArray := strOfNums [lowByte n]
def twoT (n : Int) : ByteArray := strOfNums [lowByte (n / 256), lowByte n]
theorem one_byteT (w : World) (x : Int) :
    (convert 55 9 (.slice (some ⟨w.heap.size, 0, none⟩) 1 1)).run Tryz.prog (w.alloc (.cells #[.int .u8 x] 5)) = .ok (.string (strOfNums [x])) (w.alloc (.cells #[.int .u8 x] 5)) :=
  one_byteP _ w x rfl
theorem two_bytesT (w : World) (x y : Int) :
    (convert 55 9 (.slice (some ⟨w.heap.size, 0, none⟩) 2 2)).run Tryz.prog (w.alloc (.cells #[.int .u8 x, .int .u8 y] 5)) = .ok (.string (strOfNums [x, y])) (w.alloc (.cells #[.int .u8 x, .int .u8 y] 5)) :=
  run_convert_bytes_arg (P := Tryz.prog) _ 55 5 Tryz.underlying55 Tryz.underlying5 w.heap.size 0 2 2 [x, y] rfl (fun i hi => by
    have h2 : i = 0 ∨ i = 1 := by omega
    rcases h2 with rfl | rfl <;> simp) 9 Tryz.underlying9
theorem tone_any (n : Int) (w : World) :
    Calls Tryz.prog 73 #[.int .i64 n] w fun e w' => e = .returned (.string (oneT n)) ∧ Below w.heap.size w w' := by
  have hcv := one_byteT
  have HB := hide (fun o : Obj => (Below.refl w.heap.size w).alloc (Nat.le_refl _) o)
  go_enter Tryz.func73, Tryz.ntmps73
  go_wp2
  go_ret
  exact ⟨rfl, unhide HB _⟩
theorem ttwo_any (n : Int) (w : World) :
    Calls Tryz.prog 28 #[.int .i64 n] w fun e w' => e = .returned (.string (twoT n)) ∧ Below w.heap.size w w' := by
  have hcv := two_bytesT
  have HB := hide (fun o : Obj => (Below.refl w.heap.size w).alloc (Nat.le_refl _) o)
  go_enter Tryz.func28, Tryz.ntmps28
  go_wp2
  go_ret
  exact ⟨rfl, unhide HB _⟩
def flagT (b : Bool) : Int := bif b then 1 else 0
theorem flag_any (b : Bool) (w : World) :
    Calls Tryz.prog 120 #[.bool b] w fun e w' => e = .returned (.int .i64 (flagT b)) ∧ Below w.heap.size w w' := by
  cases b <;>
  · go_enter Tryz.func120, Tryz.ntmps120
    go_wp2
    go_ret
    exact ⟨rfl, Below.refl _ _⟩
theorem cnumber_any (n k : Int) (w : World) (hn : n ≤ 9223372036854775807) :
    Calls Tryz.prog 74 #[.int .i64 n, .int .i64 k] w fun e w' => e = .returned (.string (numS n k)) ∧ Below w.heap.size w w' := by
  have N1 := hide (fun w => number_all n k w hn)
  generalize numS n k = s at *
  generalize numE n k = ne at *
  go_enter Tryz.func74, Tryz.ntmps74
  go_wp2_with fail
  refine (unhide N1 _).mono ?_
  rintro e w1 ⟨rfl, hb1⟩
  go_wp2
  go_ret
  exact ⟨rfl, hb1⟩
/-- how a deal is written -/
def dealT (d : XDeal) : ByteArray := numS d.shop 4 ++ numS d.trace 4 ++ numS d.amount 8 ++ oneT (flagT d.cash) ++ twoT d.day ++ twoT d.bits ++ d.nonce
def dealS (d : XDeal) : ByteArray := if dealE d = 0 then dealT d else ⟨#[]⟩
theorem oneT_size (n : Int) : (oneT n).size = 1 := by rw [oneT, strOfNums_size]; rfl
theorem twoT_size (n : Int) : (twoT n).size = 2 := by rw [twoT, strOfNums_size]; rfl
theorem deal_in {d : XDeal} (h : dealE d = 0) : (0 ≤ d.amount ∧ d.amount ≤ 999999999999) ∧ (0 ≤ d.shop ∧ d.shop ≤ 4294967295) ∧ (0 ≤ d.trace ∧ d.trace ≤ 4294967295) ∧ (0 ≤ d.day ∧ d.day ≤ 65535) ∧ (0 ≤ d.bits ∧ d.bits ≤ 4095) ∧ d.nonce.size = 8 := by
  unfold dealE at h
  cases h1 : inT d.amount 0 999999999999 with
  | false => rw [h1] at h; cases h
  | true =>
  cases h2 : inT d.shop 0 4294967295 with
  | false => rw [h1, h2] at h; cases h
  | true =>
  cases h3 : inT d.trace 0 4294967295 with
  | false => rw [h1, h2, h3] at h; cases h
  | true =>
  cases h4 : inT d.day 0 65535 with
  | false => rw [h1, h2, h3, h4] at h; cases h
  | true =>
  cases h5 : inT d.bits 0 4095 with
  | false => rw [h1, h2, h3, h4, h5] at h; cases h
  | true =>
    rw [h1, h2, h3, h4, h5] at h
    by_cases h8 : d.nonce.size = 8
    · exact ⟨inT_true.1 h1, inT_true.1 h2, inT_true.1 h3, inT_true.1 h4, inT_true.1 h5, h8⟩
    · have h' : (if d.nonce.size = 8 then (0 : Int) else 1) = 0 := h
      rw [if_neg h8] at h'; cases h'
end Go.Proofs.YtajkbkljonejnaaGreatDoor
namespace Go.Proofs.YtajkbkljonejnaaGreatDoor
open Go.RowKit
set_option linter.unusedVariables false

/-- a text with its tag -/
def leafC (x : Int × ByteArray) : List Value := [.int .i64 x.1, .string x.2, .slice none 0 0]
def leavesC : List (Int × ByteArray) → List Value
  | [] => []
  | x :: r => leafC x ++ leavesC r
theorem leavesC_snoc (l : List (Int × ByteArray)) (x : Int × ByteArray) : leavesC (l ++ [x]) = leavesC l ++ leafC x := by
  induction l with
  | nil => simp [leavesC]
  | cons y r ih => simp [leavesC, ih]
theorem leavesC_length (l : List (Int × ByteArray)) : (leavesC l).length = l.length * 3 := by
  induction l with
  | nil => rfl
  | cons y r ih => simp [leavesC, leafC, ih]; omega
theorem leavesC_at (l : List (Int × ByteArray)) (i : Nat) (x : Int × ByteArray) (h : l[i]? = some x) : (leavesC l)[i * 3]? = some (.int .i64 x.1) ∧ (leavesC l)[i * 3 + 1]? = some (.string x.2) ∧ (leavesC l)[i * 3 + 2]? = some (.slice none 0 0) := by
  induction l generalizing i with
  | nil => simp at h
  | cons y r ih =>
    cases i with
    | zero =>
      obtain rfl : y = x := by simpa using h
      exact ⟨rfl, rfl, rfl⟩
    | succ i =>
      obtain ⟨h0, h1, h2⟩ := ih i (by simpa using h)
      have e : ∀ j, (leavesC (y :: r))[(i + 1) * 3 + j]? = (leavesC r)[i * 3 + j]? := fun j => by
        rw [leavesC, List.getElem?_append_right (by simp [leafC]; omega)]
        congr 1
        simp [leafC]; omega
      exact ⟨(e 0).trans h0, (e 1).trans h1, (e 2).trans h2⟩
theorem alloc_keepT {w : World} {g : Nat} {o o' : Obj} (h : w.heap[g]? = some o) : (w.drew.alloc o').heap[g]? = some o := by
  rw [((Below.refl w.drew.heap.size w.drew).alloc (Nat.le_refl _) o').block g (block_ltQ h)]; exact h
theorem owns_setQ {w : World} {base b j : Nat} {e : TypeId} {size : Nat} {v u : Value} {n : Nat} {xs : List Value} (h : w.ownsRow base e size v n xs) (hb : b < base) : (w.setCell ⟨b, j, none⟩ u).ownsRow base e size v n xs := by
  refine ⟨h.1, ?_⟩
  rcases h.2 with h1 | ⟨g, cap, cur, h1, hB, hh, h2⟩
  · exact .inl h1
  · exact .inr ⟨g, cap, cur, h1, hB, (Below.heap_setCell _ _ _ _ (by show g ≠ b; omega)).trans hh, h2⟩

theorem set3 (L : List Value) (a b c x y z : Value) (m : Nat) (h : L.length = m) : (((L ++ [a, b, c]).set m x).set (m + 1) y).set (m + 2) z = L ++ [x, y, z] := by
  subst h
  induction L with
  | nil => rfl
  | cons u r ih => exact congrArg (List.cons u) ih
end Go.Proofs.YtajkbkljonejnaaGreatDoor
namespace Go.Proofs.YtajkbkljonejnaaGreatDoor
open Go.RowKit
set_option linter.unusedVariables false


/-- a text with its tag, as an item; one item of such -/
def leafI (x : Int × ByteArray) : It := .mk x.1 x.2 []
def nodeI (t : Int) (ls : List (Int × ByteArray)) : It := .mk t ⟨#[]⟩ (ls.map leafI)
/-- how much texts hold -/
def wtL (ls : List (Int × ByteArray)) : Nat := (ls.map fun x => 1 + x.2.size).sum
theorem wt_node (t : Int) (ls : List (Int × ByteArray)) : wt 2 [nodeI t ls] = 1 + wtL ls := by
  have h : ∀ ls : List (Int × ByteArray), ((ls.map leafI).map fun x => 1 + x.text.size + wt 0 x.list).sum = wtL ls := fun ls => by
    unfold wtL
    rw [List.map_map]
    rfl
  show ([nodeI t ls].map fun x => 1 + x.text.size + wt 1 x.list).sum = _
  simp only [List.map_cons, List.map_nil, List.sum_cons, List.sum_nil]
  have e : (nodeI t ls).text.size = 0 := rfl
  have e2 : wt 1 (nodeI t ls).list = wtL ls := h ls
  rw [e, e2]
  omega
def okL (ls : List (Int × ByteArray)) : Prop := ∀ x ∈ ls, x.1 ≤ 9223372036854775807 ∧ x.2.size ≤ maxLen
theorem ret_pairT {s t : ByteArray} {a b : Int} (h1 : s = t) (h2 : a = b) : Ending.returned (.tuple #[.string s, .int .i64 a]) = .returned (.tuple #[.string t, .int .i64 b]) := by rw [h1, h2]
/-- what print answers -/
def tellE (t : Int) (ls : List (Int × ByteArray)) (er : Int) : Int := if er = 0 then printsE (measD 2 [nodeI t ls]) else er
def tellS (t : Int) (ls : List (Int × ByteArray)) (er : Int) : ByteArray := if er = 0 then printsS 2 [nodeI t ls] else ⟨#[]⟩
end Go.Proofs.YtajkbkljonejnaaGreatDoor
namespace Go.Proofs.YtajkbkljonejnaaGreatDoor
open Go.RowKit
set_option linter.unusedVariables false

/-- how a length is written, whatever it is -/
def lenR (n : Nat) : List Int := if n < 128 then [(n : Int)] else if n < 256 then [129, (n : Int)] else 130 :: bigL n 2
theorem lenR_length (n : Nat) : (lenR n).length = lenLen n := by unfold lenR lenLen; split <;> (try split) <;> rfl
theorem lenR_small {n : Nat} (h : n < 65536) : lenR n = lenL n := by
  unfold lenR lenL
  split
  · rfl
  · split
    · rfl
    · simp only [bigL, Nat.pow_one, Nat.pow_zero, Nat.div_one]
      have e1 : ((n / 256 % 256 : Nat) : Int) = (n : Int) / 256 := by omega
      have e2 : ((n % 256 : Nat) : Int) = (n : Int) % 256 := by omega
      rw [e1, e2]
def szS (s : ByteArray) : ByteArray := strOfNums (lenR s.size) ++ s
def itS (t : Int) (s : ByteArray) : ByteArray := strOfNums [t] ++ szS s
theorem bytes1T (x : Int) (h0 : 0 ≤ x ∧ x < 256) (b cap : Nat) (w : World) (c0 : w.cell? ⟨b, 0, none⟩ = some (.int .i64 x)) :
    Calls Tryz.prog 54 #[.slice (some ⟨b, 0, none⟩) 1 cap] w fun e w' => e = .returned (.string (strOfNums [x])) ∧ Below w.heap.size w w' := by
  have h := bytes_one x b 0 cap w (World.block_lt_of_cell? w _ c0) c0
  rw [show lowByte x = x from by unfold lowByte; omega] at h
  exact h
theorem szS_size (s : ByteArray) : (szS s).size = lenLen s.size + s.size := by unfold szS; rw [ByteArray.size_append, strOfNums_size, lenR_length]
theorem itS_size (t : Int) (s : ByteArray) : (itS t s).size = 1 + (lenLen s.size + s.size) := by unfold itS; rw [ByteArray.size_append, strOfNums_size, szS_size]; rfl
/-- what outer answers -/
def outE (t : Int) (s : ByteArray) : Int := if 65535 < (itS t s).size then 2 else 0
def outS (t : Int) (s : ByteArray) : ByteArray := if 65535 < (itS t s).size then ⟨#[]⟩ else itS t s
theorem tRamount_any (n : Int) (w : World) :
    Calls Tryz.prog 21 #[.int .i64 n] w fun e w' => e = .returned (.bool (inT n 0 999999999999)) ∧ w' = w := by
  by_cases h1 : 0 ≤ n
  · by_cases h2 : n ≤ 999999999999
    · have HD : Hid (inT n 0 999999999999 = true) := hide (decide_eq_true ⟨h1, h2⟩)
      generalize inT n 0 999999999999 = r at *
      go_enter Tryz.func21, Tryz.ntmps21
      go_wp2
      go_ret
      exact ⟨ret_boolQ (unhide HD).symm, rfl⟩
    · have HD : Hid (inT n 0 999999999999 = false) := hide (decide_eq_false (fun h => h2 h.2))
      generalize inT n 0 999999999999 = r at *
      go_enter Tryz.func21, Tryz.ntmps21
      go_wp2
      go_ret
      exact ⟨ret_boolQ (unhide HD).symm, rfl⟩
  · have HD : Hid (inT n 0 999999999999 = false) := hide (decide_eq_false (fun h => h1 h.1))
    generalize inT n 0 999999999999 = r at *
    go_enter Tryz.func21, Tryz.ntmps21
    go_wp2
    go_ret
    exact ⟨ret_boolQ (unhide HD).symm, rfl⟩
theorem dealE_out {d : XDeal} (h : ¬ ((0 ≤ d.amount ∧ d.amount ≤ 999999999999) ∧ (0 ≤ d.shop ∧ d.shop ≤ 4294967295) ∧ (0 ≤ d.trace ∧ d.trace ≤ 4294967295) ∧ (0 ≤ d.day ∧ d.day ≤ 65535) ∧ (0 ≤ d.bits ∧ d.bits ≤ 4095))) : dealE d = 3 := by
  unfold dealE
  cases h1 : inT d.amount 0 999999999999 with
  | false => rfl
  | true =>
  cases h2 : inT d.shop 0 4294967295 with
  | false => rfl
  | true =>
  cases h3 : inT d.trace 0 4294967295 with
  | false => rfl
  | true =>
  cases h4 : inT d.day 0 65535 with
  | false => rfl
  | true =>
  cases h5 : inT d.bits 0 4095 with
  | false => rfl
  | true => exact absurd ⟨inT_true.1 h1, inT_true.1 h2, inT_true.1 h3, inT_true.1 h4, inT_true.1 h5⟩ h
theorem dealE_all {d : XDeal} (h1 : 0 ≤ d.amount ∧ d.amount ≤ 999999999999) (h2 : 0 ≤ d.shop ∧ d.shop ≤ 4294967295) (h3 : 0 ≤ d.trace ∧ d.trace ≤ 4294967295) (h4 : 0 ≤ d.day ∧ d.day ≤ 65535) (h5 : 0 ≤ d.bits ∧ d.bits ≤ 4095) : dealE d = if d.nonce.size = 8 then 0 else 1 := by
  unfold dealE
  rw [inT_true.2 h1, inT_true.2 h2, inT_true.2 h3, inT_true.2 h4, inT_true.2 h5]
  rfl
end Go.Proofs.YtajkbkljonejnaaGreatDoor
