/- Items as applications: appOf and Parse of the program. -/
import Derived.Test.YtolicaaifhfhcaaM41
namespace Go.Proofs.Ytolicaaifhfhcaa
open Go.RowKit
set_option linter.unusedVariables false

/-- the text of a tag within an item, as the program finds it -/
def gotT (n : Int) (d : Nat) (l : List It) : ByteArray := (findD n d l).getD ⟨#[]⟩
/-- the application of an item, as the program reads it -/
def appP (d : Nat) (x : It) : XApp := ⟨gotT 79 d x.list, gotT 80 d x.list, bits .andNot .i64 (readV (gotT 135 d x.list)) 128, (bits .and .i64 (readV (gotT 135 d x.list)) 128 != 0)⟩
theorem find_size (n : Int) : ∀ (d : Nat) (l : List It) (t : ByteArray), findD n d l = some t → t.size ≤ wt d l
  | 0, l, t, h => by cases h
  | d + 1, [], t, h => by cases h
  | d + 1, x :: r, t, h => by
    have e : findD n (d + 1) (x :: r) = match stepF n (findD n d) x with | some u => some u | none => findD n (d + 1) r := by
      show List.findSome? _ (x :: r) = _
      rw [List.findSome?_cons]
      cases stepF n (findD n d) x <;> rfl
    rw [e] at h
    have hw : wt (d + 1) (x :: r) = 1 + x.text.size + wt d x.list + wt (d + 1) r := by simp [wt]
    cases hs : stepF n (findD n d) x with
    | none =>
      rw [hs] at h
      have := find_size n (d + 1) r t h
      omega
    | some u =>
      rw [hs] at h
      obtain rfl : u = t := Option.some.inj h
      unfold stepF at hs
      split at hs
      · have := find_size n d x.list u hs
        omega
      · split at hs
        · obtain rfl := Option.some.inj hs
          omega
        · cases hs
theorem got_size (n : Int) (d : Nat) (l : List It) : (gotT n d l).size ≤ wt d l := by
  unfold gotT
  cases h : findD n d l with
  | none => exact Nat.zero_le _
  | some t => exact find_size n d l t h
theorem bits_bound (op : BinOp) (x y : Int) : -9223372036854775808 ≤ bits op .i64 x y ∧ bits op .i64 x y ≤ 9223372036854775807 := by
  unfold bits
  simp only
  rw [IntKind.wrap_i64]
  generalize (_ : Int) = z
  omega
theorem last_bits : ∀ (f : Fin 16) (c : Bool), bits .andNot .i64 ((f.val : Int) + (if c then 128 else 0)) 128 = f.val ∧ (bits .and .i64 ((f.val : Int) + (if c then 128 else 0)) 128 != 0) = c := by decide +kernel
theorem read_one (n : Int) (h0 : 0 ≤ n) (h1 : n < 256) : readV (strOfNums [n]) = n := by
  have hs : (strOfNums [n]).size = 1 := by rw [strOfNums_size]; rfl
  have hd : (strOfNums [n]).data.toList = [UInt8.ofNat n.toNat] := by simp [strOfNums]
  have hv : valN [UInt8.ofNat n.toNat] = n.toNat := by
    have : (UInt8.ofNat n.toNat).toNat = n.toNat := by rw [UInt8.toNat_ofNat']; omega
    simp [valN, this]
  unfold readV
  rw [hs, if_neg (by omega), hd, hv, if_neg (by omega)]
  omega
theorem find_leaf {n t : Int} {d : Nat} {s : ByteArray} {r : List It} (hm : madeV t = false) : findD n (d + 1) (.mk t s [] :: r) = if t = n then some s else findD n (d + 1) r := by
  show List.findSome? _ (_ :: r) = _
  rw [List.findSome?_cons]
  have e : stepF n (findD n d) (.mk t s []) = if t = n then some s else none := by
    unfold stepF
    rw [show (It.mk t s []).tag = t from rfl, hm]
    rfl
  rw [e]
  by_cases h : t = n
  · rw [if_pos h, if_pos h]
  · rw [if_neg h, if_neg h]; rfl
theorem made_79 : madeV 79 = false := by decide +kernel
theorem made_80 : madeV 80 = false := by decide +kernel
theorem made_135 : madeV 135 = false := by decide +kernel
theorem appP_item (x : XApp) (hs : sizedA x) (h0 : 0 ≤ x.prio) (h1 : x.prio ≤ 15) : appP 7 (itemI x) = x := by
  have e1 : gotT 79 7 (itemI x).list = x.name := by
    show (findD 79 (6 + 1) (.mk 79 x.name [] :: _)).getD _ = _
    rw [find_leaf made_79, if_pos rfl]; rfl
  have e2 : gotT 80 7 (itemI x).list = x.label := by
    show (findD 80 (6 + 1) (.mk 79 x.name [] :: .mk 80 x.label [] :: _)).getD _ = _
    rw [find_leaf made_79, if_neg (by decide), find_leaf made_80, if_pos rfl]; rfl
  have e3 : gotT 135 7 (itemI x).list = strOfNums [lastN x] := by
    show (findD 135 (6 + 1) (.mk 79 x.name [] :: .mk 80 x.label [] :: .mk 135 (strOfNums [lastN x]) [] :: [])).getD _ = _
    rw [find_leaf made_79, if_neg (by decide), find_leaf made_80, if_neg (by decide), find_leaf made_135, if_pos rfl]; rfl
  obtain ⟨p, hp⟩ := Int.eq_ofNat_of_zero_le h0
  have hl : lastN x = (p : Int) + (if x.confirm then 128 else 0) := by unfold lastN; rw [hp]
  have e4 : readV (gotT 135 7 (itemI x).list) = (p : Int) + (if x.confirm then 128 else 0) := by
    rw [e3, hl]
    refine read_one _ ?_ ?_
    · split <;> omega
    · split <;> omega
  obtain ⟨b1, b2⟩ := last_bits ⟨p, by omega⟩ x.confirm
  unfold appP
  rw [e4, e1, e2]
  simp only at b1 b2
  rw [b1, b2, ← hp]

theorem two_newP (w : World) (A B : Obj) : ((w.alloc A).alloc B).heap[w.heap.size]? = some A ∧ ((w.alloc A).alloc B).heap[w.heap.size + 1]? = some B := by
  constructor
  · have h := ((Below.refl (w.alloc A).heap.size (w.alloc A)).alloc (Nat.le_refl _) B).block w.heap.size (by simp)
    rw [h]; exact heap_alloc_new w A
  · exact new_blockP _ _ _ (by simp)

theorem appP_ok (d : Nat) (x : It) (W : World) (h : wt d x.list ≤ 1048576) : okApp W (appP d x) := by
  have h1 := got_size 79 d x.list
  have h2 := got_size 80 d x.list
  refine ⟨?_, ?_, ?_⟩
  rotate_left 2
  · exact bits_bound .andNot (readV (gotT 135 d x.list)) 128
  · show (gotT 79 d x.list).size ≤ maxLen
    unfold maxLen; omega
  · show (gotT 80 d x.list).size ≤ maxLen
    unfold maxLen; omega
/-- what is read -/
def readsL (s : ByteArray) : List XApp := (readA (appP 7) s).getD []
def readsE (s : ByteArray) : Int := if (readA (appP 7) s).isSome then 0 else 1
theorem parses_ne {s : ByteArray} (h : parsesE s ≠ 0) : readsL s = [] ∧ readsE s = 1 := by
  have : readA (appP 7) s = none := by unfold readA; rw [if_neg (fun hc => h hc.1)]
  unfold readsL readsE
  rw [this]
  exact ⟨rfl, rfl⟩
theorem ret_rowQ {ao : Option Addr} {n m c : Nat} {a b : Int} (h1 : n = m) (h2 : a = b) : Ending.returned (.tuple #[.slice ao n c, .int .i64 a]) = .returned (.tuple #[.slice ao m c, .int .i64 b]) := by rw [h1, h2]
theorem rowApp_nil (W : World) (ao : Option Addr) : RowApp W ao [] := ⟨.inl rfl, by simp, by simp⟩
theorem toList_neQ {x y : ByteArray} (h : x ≠ y) : (x.toList == y.toList) = false := by
  rw [beq_eq_false_iff_ne]
  intro e
  apply h
  rw [Lib.toList_data, Lib.toList_data] at e
  apply ByteArray.ext
  exact Array.toList_inj.1 e
end Go.Proofs.Ytolicaaifhfhcaa
