/- What is wrong with orders: checkOrders of the program. -/
import Derived.Test.YtajkbkljonejnaaGreatDoorM02
import Derived.BigQuiet
import Derived.WalkSmall
import Derived.Test.YtajkbkljonejnaaGreatDoorM00
import Derived.Shelf.Strings.Builder1
import Derived.Shelf.Strings.Builder2
import Derived.Shelf.Strings.BuilderF
import Derived.Shelf.Strings.Prefix
import Derived.Shelf.Bits.Mul64
import Derived.Shelf.Strings.Repeat
import Derived.Test.YtajkbkljonejnaaGreatDoorProg
namespace Go.Proofs.YtajkbkljonejnaaGreatDoor
open Go.RowKit
set_option linter.unusedVariables false
def okindB (x : XOrder) : Bool := !inBO x.what 1 8
def orangeB (x : XOrder) : Bool := !inBO x.n 0 (mostN x.what)
def oformB (x : XOrder) : Bool := !textB x.what x.text
theorem okind_any (x : XOrder) (w : World) :
    Calls Tryz.prog 65 #[valOrder x] w fun e w' => e = .returned (.bool (okindB x)) ∧ Below w.heap.size w w' := by
  obtain ⟨wh, n, tx⟩ := x
  have n1 := fun w => within_any wh 1 8 w
  have hbx := fun o : Obj => (Below.refl w.heap.size w).alloc (Nat.le_refl _) o
  have HB := hide hbx
  have HM : Hid (okindB ⟨wh, n, tx⟩ = !inBO wh 1 8) := hide rfl
  clear hbx
  unfold valOrder
  simp only
  generalize inBO wh 1 8 = q at *
  have N1 := hide n1
  clear n1
  go_enter Tryz.func65, Tryz.ntmps65
  go_wp2_with fail
  refine (unhide N1 _).mono ?_
  rintro e w1 ⟨rfl, hw1⟩
  subst hw1
  go_wp2
  go_ret
  exact ⟨ret_bool (unhide HM).symm, unhide HB _⟩
theorem orange_any (x : XOrder) (w : World) :
    Calls Tryz.prog 66 #[valOrder x] w fun e w' => e = .returned (.bool (orangeB x)) ∧ Below w.heap.size w w' := by
  obtain ⟨wh, n, tx⟩ := x
  have n1 := fun w => mostOf_any wh w
  have n2 := fun w => within_any n 0 (mostN wh) w
  have hbx := fun o : Obj => (Below.refl w.heap.size w).alloc (Nat.le_refl _) o
  have HB := hide hbx
  have HM : Hid (orangeB ⟨wh, n, tx⟩ = !inBO n 0 (mostN wh)) := hide rfl
  clear hbx
  unfold valOrder
  simp only
  generalize inBO n 0 (mostN wh) = q at *
  generalize mostN wh = m at *
  have N1 := hide n1; have N2 := hide n2
  clear n1 n2
  go_enter Tryz.func66, Tryz.ntmps66
  go_wp2_with fail
  go_quiet ((first | (go_at_call 67; exact Calls.quiet_of_same (unhide N1 _)) | (go_at_call 46; exact Calls.quiet_of_same (unhide N2 _))))
  go_wp2
  go_ret
  exact ⟨ret_bool (unhide HM).symm, below_drewN (unhide HB _) _⟩
theorem oform_any (x : XOrder) (hx : x.text.size ≤ maxLen) (w : World) :
    Calls Tryz.prog 68 #[valOrder x] w fun e w' => e = .returned (.bool (oformB x)) ∧ Below w.heap.size w w' := by
  obtain ⟨wh, n, tx⟩ := x
  have n1 := fun w => isText_any wh tx hx w
  have hbx := fun o : Obj => (Below.refl w.heap.size w).alloc (Nat.le_refl _) o
  have HB := hide hbx
  have HM : Hid (oformB ⟨wh, n, tx⟩ = !textB wh tx) := hide rfl
  clear hbx hx
  unfold valOrder
  simp only
  generalize textB wh tx = q at *
  have N1 := hide n1
  clear n1
  go_enter Tryz.func68, Tryz.ntmps68
  go_wp2_with fail
  refine (unhide N1 _).mono ?_
  rintro e w1 ⟨rfl, hw1⟩
  subst hw1
  go_wp2
  go_ret
  exact ⟨ret_bool (unhide HM).symm, unhide HB _⟩
theorem anyO_take {α : Type} (l : List α) (p : α → Bool) (k : Nat) (y : α) (h : l[k]? = some y) : (l.take (k + 1)).any p = ((l.take k).any p || p y) := by
  obtain ⟨hk, rfl⟩ := List.getElem?_eq_some_iff.1 h
  rw [List.take_succ_eq_append_getElem hk, List.any_append]
  simp
theorem anyO_of {α : Type} (l : List α) (p : α → Bool) (k : Nat) (h : (l.take k).any p = true) : l.any p = true := by
  have e := List.take_append_drop k l
  rw [← e, List.any_append, h, Bool.true_or]
set_option maxHeartbeats 1000000 in
theorem indexO_any (f : FuncId) (hff : f = 65 ∨ f = 66 ∨ f = 68) (p : XOrder → Bool) (hf : ∀ x : XOrder, x.text.size ≤ maxLen → ∀ w, Calls Tryz.prog f #[valOrder x] w fun e w' => e = .returned (.bool (p x)) ∧ Below w.heap.size w w')
    (l : List XOrder) (ao : Option Addr) (cap : Nat) (w : World) (hr : RowOrder w ao l) :
    Calls Tryz.prog 106 #[.slice ao l.length cap, .func (.func f) #[] #[]] w fun e w' => (∃ v : Int, e = .returned (.int .i64 v) ∧ decide (0 ≤ v) = l.any p) ∧ Below w.heap.size w w' := by
  rcases hff with rfl | rfl | rfl
  all_goals
    obtain ⟨hr, hok, hm⟩ := hr
    have HF0 := hide hf
    have HO := hide hok
    clear hf hok
    go_enter Tryz.func106, Tryz.ntmps106
    go_wp2
    go_loopw [8] (fun i wr => ∃ k : Nat, k ≤ l.length ∧ i = .int .i64 k ∧ Hid ((l.take k).any p = false) ∧ Below w.heap.size w wr) (fun i _ => l.length - (intOf i).toNat)
    case atStart => exact ⟨0, Nat.zero_le _, rfl, hide (by simp), Below.refl _ _⟩
    case round =>
      obtain ⟨k, hk, rfl, HA, hbw⟩ := hrel
      by_cases hlt : k < l.length
      · obtain ⟨y, hy⟩ : ∃ y, l[k]? = some y := ⟨_, List.getElem?_eq_getElem hlt⟩
        rcases hr with hnil | ⟨b, off, rfl, hb, hc⟩
        · rw [hnil] at hlt; simp at hlt
        obtain ⟨c0, c1, c2⟩ := hc k y hy
        have d0 : wr.cell? ⟨b, off + k * 3, none⟩ = _ := (hbw.cell (p := ⟨b, off + k * 3, none⟩) hb).trans c0
        have d1 : wr.cell? ⟨b, off + k * 3 + 1, none⟩ = _ := (hbw.cell (p := ⟨b, off + k * 3 + 1, none⟩) hb).trans c1
        have d2 : wr.cell? ⟨b, off + k * 3 + 2, none⟩ = _ := (hbw.cell (p := ⟨b, off + k * 3 + 2, none⟩) hb).trans c2
        have hs := anyO_take l p k y hy
        rw [unhide HA, Bool.false_or] at hs
        have hml : l.length ≤ 9223372036854775807 := by simpa [maxLen] using hm
        have n1 := unhide HF0 y (unhide HO y (List.mem_of_getElem? hy)).2.2 wr
        clear hc hm c0 c1 c2
        unfold valOrder at n1
        cases he : p y with
        | true =>
          have HF := hide (anyO_of l p (k + 1) (hs.trans he))
          rw [he] at n1
          have N1 := hide n1
          clear hs hy n1 he
          go_wp2_with fail
          refine (unhide N1).mono ?_
          rintro e w1 ⟨rfl, hb1⟩
          go_wp2
          go_ret
          exact ⟨⟨_, rfl, by rw [unhide HF]; simp⟩, hbw.trans (hb1.mono hbw.size)⟩
        | false =>
          have HS : Hid ((l.take (k + 1)).any p = false) := hide (hs.trans he)
          rw [he] at n1
          have N1 := hide n1
          clear hs hy n1 he
          go_wp2_with fail
          refine (unhide N1).mono ?_
          rintro e w1 ⟨rfl, hb1⟩
          go_wp2
          go_roundw
          case rel => exact ⟨k + 1, by omega, by go_num, HS, hbw.trans (hb1.mono hbw.size)⟩
          case measure => simp [intOf]; omega
      · have HF : Hid (l.any p = false) := hide (by have := unhide HA; rw [List.take_of_length_le (by omega)] at this; exact this)
        go_wp2
        go_ret
        exact ⟨⟨_, rfl, by rw [unhide HF]; rfl⟩, hbw⟩
theorem containsO_any (f : FuncId) (hff : f = 65 ∨ f = 66 ∨ f = 68) (p : XOrder → Bool) (hf : ∀ x : XOrder, x.text.size ≤ maxLen → ∀ w, Calls Tryz.prog f #[valOrder x] w fun e w' => e = .returned (.bool (p x)) ∧ Below w.heap.size w w')
    (l : List XOrder) (ao : Option Addr) (cap : Nat) (w : World) (hr : RowOrder w ao l) :
    Calls Tryz.prog 70 #[.slice ao l.length cap, .func (.func f) #[] #[]] w fun e w' => e = .returned (.bool (l.any p)) ∧ Below w.heap.size w w' := by
  have N1 := hide (indexO_any f hff p hf l ao cap w hr)
  clear hr hf
  generalize l.any p = q at *
  go_enter Tryz.func70, Tryz.ntmps70
  go_wp2_with fail
  refine (unhide N1).mono ?_
  rintro e w1 ⟨⟨v, rfl, hv⟩, hb1⟩
  have HV := hide hv
  clear hv
  go_wp2
  go_ret
  exact ⟨ret_bool (unhide HV), hb1⟩
def ordersE (key : ByteArray) (number : Int) (l : List XOrder) : Int :=
  if key.size ≠ 16 then 1 else bif !inBO number 1 65535 then 3 else if 8 < l.length then 2 else bif l.any okindB then 4 else bif l.any orangeB then 3 else bif l.any oformB then 1 else 0
set_option maxHeartbeats 1000000 in
theorem checkOrders_any (key : ByteArray) (number : Int) (l : List XOrder) (ao : Option Addr) (cap : Nat) (w : World) (hr : RowOrder w ao l) :
    Calls Tryz.prog 23 #[.string key, .int .i64 number, .slice ao l.length cap] w fun e w' => e = .returned (.int .i64 (ordersE key number l)) ∧ Below w.heap.size w w' := by
  have n0 := fun w => within_any number 1 65535 w
  have n1 := fun w' (hb : Below w.heap.size w w') => containsO_any _ (.inl rfl) okindB (fun x _ w => okind_any x w) l ao cap w' (hr.below hb)
  have n2 := fun w' (hb : Below w.heap.size w w') => containsO_any _ (.inr (.inl rfl)) orangeB (fun x _ w => orange_any x w) l ao cap w' (hr.below hb)
  have n3 := fun w' (hb : Below w.heap.size w w') => containsO_any _ (.inr (.inr rfl)) oformB (fun x hx w => oform_any x hx w) l ao cap w' (hr.below hb)
  clear hr
  by_cases hk : key.size = 16
  case neg =>
    have HE : Hid (ordersE key number l = 1) := hide (by rw [ordersE, if_pos hk])
    have hk' : ¬ (key.size : Int) = 16 := by omega
    clear n0 n1 n2 n3
    go_enter Tryz.func23, Tryz.ntmps23
    go_wp2
    go_ret
    exact ⟨ret_int (unhide HE).symm, Below.refl _ _⟩
  have hk' : (key.size : Int) = 16 := by omega
  have HE : Hid (ordersE key number l = bif !inBO number 1 65535 then 3 else if 8 < l.length then 2 else bif l.any okindB then 4 else bif l.any orangeB then 3 else bif l.any oformB then 1 else 0) := hide (by rw [ordersE, if_neg (by omega)])
  generalize inBO number 1 65535 = q0 at *
  generalize l.any okindB = q1 at *
  generalize l.any orangeB = q2 at *
  generalize l.any oformB = q3 at *
  have N0 := hide n0; have N1 := hide n1; have N2 := hide n2; have N3 := hide n3
  clear n0 n1 n2 n3 hk
  cases q0 with
  | false =>
    go_enter Tryz.func23, Tryz.ntmps23
    go_wp2_with fail
    refine (unhide N0 _).mono ?_
    rintro e w1 ⟨rfl, hw1⟩
    subst hw1
    go_wp2
    go_ret
    exact ⟨ret_int (unhide HE).symm, Below.refl _ _⟩
  | true =>
  by_cases h8 : 8 < l.length
  · have HE' : Hid (ordersE key number l = 2) := hide (by rw [unhide HE]; simp [h8])
    go_enter Tryz.func23, Tryz.ntmps23
    go_wp2_with fail
    refine (unhide N0 _).mono ?_
    rintro e w1 ⟨rfl, hw1⟩
    subst hw1
    go_wp2
    go_ret
    exact ⟨ret_int (unhide HE').symm, Below.refl _ _⟩
  have HE' : Hid (ordersE key number l = bif q1 then 4 else bif q2 then 3 else bif q3 then 1 else 0) := hide (by rw [unhide HE]; simp [h8])
  cases q1 with
  | true =>
    go_enter Tryz.func23, Tryz.ntmps23
    go_wp2_with fail
    refine (unhide N0 _).mono ?_
    rintro e w1 ⟨rfl, hw1⟩
    subst hw1
    go_wp2_with fail
    refine (unhide N1 _ (Below.refl _ _)).mono ?_
    rintro e w2 ⟨rfl, hb1⟩
    go_wp2
    go_ret
    exact ⟨ret_int (unhide HE').symm, hb1⟩
  | false =>
  cases q2 with
  | true =>
    go_enter Tryz.func23, Tryz.ntmps23
    go_wp2_with fail
    refine (unhide N0 _).mono ?_
    rintro e w1 ⟨rfl, hw1⟩
    subst hw1
    go_wp2_with fail
    refine (unhide N1 _ (Below.refl _ _)).mono ?_
    rintro e w2 ⟨rfl, hb1⟩
    go_wp2_with fail
    refine (unhide N2 _ hb1).mono ?_
    rintro e w3 ⟨rfl, hb2⟩
    go_wp2
    go_ret
    exact ⟨ret_int (unhide HE').symm, hb1.trans (hb2.mono hb1.size)⟩
  | false =>
  have HE2 : Hid (ordersE key number l = bif q3 then 1 else 0) := HE'
  clear HE HE'
  cases q3 with
  | true =>
    go_enter Tryz.func23, Tryz.ntmps23
    go_wp2_with fail
    refine (unhide N0 _).mono ?_
    rintro e w1 ⟨rfl, hw1⟩
    subst hw1
    go_wp2_with fail
    refine (unhide N1 _ (Below.refl _ _)).mono ?_
    rintro e w2 ⟨rfl, hb1⟩
    go_wp2_with fail
    refine (unhide N2 _ hb1).mono ?_
    rintro e w3 ⟨rfl, hb2⟩
    have hb3 := hb1.trans (hb2.mono hb1.size)
    go_wp2_with fail
    refine (unhide N3 _ hb3).mono ?_
    rintro e w4 ⟨rfl, hb4⟩
    go_wp2
    go_ret
    exact ⟨ret_int (unhide HE2).symm, hb3.trans (hb4.mono hb3.size)⟩
  | false =>
    go_enter Tryz.func23, Tryz.ntmps23
    go_wp2_with fail
    refine (unhide N0 _).mono ?_
    rintro e w1 ⟨rfl, hw1⟩
    subst hw1
    go_wp2_with fail
    refine (unhide N1 _ (Below.refl _ _)).mono ?_
    rintro e w2 ⟨rfl, hb1⟩
    go_wp2_with fail
    refine (unhide N2 _ hb1).mono ?_
    rintro e w3 ⟨rfl, hb2⟩
    have hb3 := hb1.trans (hb2.mono hb1.size)
    go_wp2_with fail
    refine (unhide N3 _ hb3).mono ?_
    rintro e w4 ⟨rfl, hb4⟩
    go_wp2
    go_ret
    exact ⟨ret_int (unhide HE2).symm, hb3.trans (hb4.mono hb3.size)⟩
end Go.Proofs.YtajkbkljonejnaaGreatDoor
namespace Go.Proofs.YtajkbkljonejnaaGreatDoor
open Go.RowKit
set_option linter.unusedVariables false
def rl (x n : Nat) : Nat := x * 2 ^ n % 4294967296 ||| x / 2 ^ (32 - n)
theorem or_add (a b k : Nat) (h : b < 2 ^ k) : a * 2 ^ k ||| b = a * 2 ^ k + b := by
  have := Nat.shiftLeft_add_eq_or_of_lt h a
  rw [Nat.shiftLeft_eq] at this
  exact this.symm
theorem rl12 (x : Nat) (h : x < 4294967296) : rl x 12 = x % 1048576 * 4096 + x / 1048576 := by
  unfold rl
  rw [show x * 2 ^ 12 % 4294967296 = (x % 1048576) * 2 ^ 12 by omega, or_add _ _ 12 (by omega)]
theorem rl16 (x : Nat) (h : x < 4294967296) : rl x 16 = x % 65536 * 65536 + x / 65536 := by
  unfold rl
  rw [show x * 2 ^ 16 % 4294967296 = (x % 65536) * 2 ^ 16 by omega, or_add _ _ 16 (by omega)]
theorem rl12_lt (x : Nat) (h : x < 4294967296) : rl x 12 < 4294967296 := by rw [rl12 x h]; omega
theorem rl16_lt (x : Nat) (h : x < 4294967296) : rl x 16 < 4294967296 := by rw [rl16 x h]; omega
theorem xor_lt32 {a b : Nat} (ha : a < 4294967296) (hb : b < 4294967296) : a ^^^ b < 4294967296 := Nat.xor_lt_two_pow (n := 32) ha hb
theorem xor_twice (a b : Nat) : (a ^^^ b) ^^^ b = a := by rw [Nat.xor_assoc, Nat.xor_self, Nat.xor_zero]
structure Blk where
  a : Nat
  b : Nat
  c : Nat
  d : Nat
def Blk.ok (v : Blk) : Prop := v.a < 4294967296 ∧ v.b < 4294967296 ∧ v.c < 4294967296 ∧ v.d < 4294967296
def Blk.at (v : Blk) : Nat → Nat
  | 0 => v.a
  | 1 => v.b
  | 2 => v.c
  | _ => v.d
theorem Blk.at_lt {v : Blk} (h : v.ok) (i : Nat) : v.at i < 4294967296 := by
  obtain ⟨h1, h2, h3, h4⟩ := h
  match i with
  | 0 => exact h1
  | 1 => exact h2
  | 2 => exact h3
  | n + 3 => exact h4
def added (k : Blk) (i : Nat) : Nat := k.at (i % 4) + i * 2654435769
def nextA (k : Blk) (i : Nat) (v : Blk) : Nat := (v.a + v.b + added k i) % 4294967296
def nextD (k : Blk) (i : Nat) (v : Blk) : Nat := rl (v.d ^^^ nextA k i v) 16
def nextC (k : Blk) (i : Nat) (v : Blk) : Nat := (v.c + nextD k i v) % 4294967296
def nextB (k : Blk) (i : Nat) (v : Blk) : Nat := rl (v.b ^^^ nextC k i v) 12
def rnd (k : Blk) (i : Nat) (v : Blk) : Blk := ⟨nextB k i v, nextC k i v, nextD k i v, nextA k i v⟩
def fwd (k : Blk) : Nat → Blk → Blk
  | 0, v => v
  | n + 1, v => rnd k n (fwd k n v)
theorem nextA_lt (k : Blk) (i : Nat) (v : Blk) : nextA k i v < 4294967296 := Nat.mod_lt _ (by decide)
theorem nextD_lt (k : Blk) (i : Nat) (v : Blk) (h : v.ok) : nextD k i v < 4294967296 := rl16_lt _ (xor_lt32 h.2.2.2 (nextA_lt k i v))
theorem nextC_lt (k : Blk) (i : Nat) (v : Blk) : nextC k i v < 4294967296 := Nat.mod_lt _ (by decide)
theorem nextB_lt (k : Blk) (i : Nat) (v : Blk) (h : v.ok) : nextB k i v < 4294967296 := rl12_lt _ (xor_lt32 h.2.1 (nextC_lt k i v))
theorem rnd_ok (k : Blk) (i : Nat) (v : Blk) (h : v.ok) : (rnd k i v).ok := ⟨nextB_lt k i v h, nextC_lt k i v, nextD_lt k i v h, nextA_lt k i v⟩
theorem fwd_ok (k : Blk) (n : Nat) (v : Blk) (h : v.ok) : (fwd k n v).ok := by
  induction n with
  | zero => exact h
  | succ n ih => exact rnd_ok k n _ ih
def blkL (v : Blk) : List Int := bigL v.a 4 ++ (bigL v.b 4 ++ (bigL v.c 4 ++ bigL v.d 4))
def wordAt (l : List UInt8) (j : Nat) : Nat := valN ((l.drop (4 * j)).take 4)
def blkOf (l : List UInt8) : Blk := ⟨wordAt l 0, wordAt l 1, wordAt l 2, wordAt l 3⟩
def blkS (v : Blk) : ByteArray := strOfNums (blkL v)
theorem wordAt_lt (l : List UInt8) (j : Nat) : wordAt l j < 4294967296 := by
  have h := valN_lt ((l.drop (4 * j)).take 4)
  have h2 : 256 ^ ((l.drop (4 * j)).take 4).length ≤ 256 ^ 4 := Nat.pow_le_pow_right (by omega) (by simp; omega)
  unfold wordAt
  omega
theorem blkOf_ok (l : List UInt8) : (blkOf l).ok := ⟨wordAt_lt l 0, wordAt_lt l 1, wordAt_lt l 2, wordAt_lt l 3⟩
theorem blkL_length (v : Blk) : (blkL v).length = 16 := by simp [blkL, bigL_length]
theorem blkS_size (v : Blk) : (blkS v).size = 16 := by rw [blkS, strOfNums_size, blkL_length]
theorem val4 (b0 b1 b2 b3 : UInt8) : valN [b0, b1, b2, b3] = ((b0.toNat * 256 + b1.toNat) * 256 + b2.toNat) * 256 + b3.toNat := by
  simp [valN]
theorem u8_of (n : Nat) : (UInt8.ofNat (((n % 256 : Nat) : Int)).toNat).toNat = n % 256 := by
  rw [Int.toNat_natCast, UInt8.toNat_ofNat']
  omega
theorem val_four (v : Nat) (h : v < 4294967296) : ((v / 256 ^ 3 % 256 * 256 + v / 256 ^ 2 % 256) * 256 + v / 256 ^ 1 % 256) * 256 + v / 256 ^ 0 % 256 = v := by omega
theorem blkOf_blkS (v : Blk) (h : v.ok) : blkOf (blkS v).data.toList = v := by
  obtain ⟨h1, h2, h3, h4⟩ := h
  cases v with | mk a b c d =>
  simp only at h1 h2 h3 h4
  simp only [blkOf, blkS, blkL, strOfNums_data, wordAt, bigL, List.map_cons, List.map_nil, List.cons_append, List.nil_append, Nat.mul_zero, List.drop_zero, List.take_succ_cons, List.take_zero, Nat.reduceMul, List.drop_succ_cons, val4, u8_of]
  rw [val_four a h1, val_four b h2, val_four c h3, val_four d h4]
def turnS (k s : ByteArray) : ByteArray := blkS (fwd (blkOf k.data.toList) 12 (blkOf s.data.toList))
theorem turnS_size (k s : ByteArray) : (turnS k s).size = 16 := blkS_size _
end Go.Proofs.YtajkbkljonejnaaGreatDoor
namespace Go.Proofs.YtajkbkljonejnaaGreatDoor
open Go.RowKit
set_option linter.unusedVariables false
def zeroB : Blk := ⟨0, 0, 0, 0⟩
theorem zeroB_ok : zeroB.ok := by unfold zeroB Blk.ok; decide
def xorB (u v : Blk) : Blk := ⟨u.a ^^^ v.a, u.b ^^^ v.b, u.c ^^^ v.c, u.d ^^^ v.d⟩
theorem xorB_ok {u v : Blk} (h : u.ok) (k : v.ok) : (xorB u v).ok := ⟨xor_lt32 h.1 k.1, xor_lt32 h.2.1 k.2.1, xor_lt32 h.2.2.1 k.2.2.1, xor_lt32 h.2.2.2 k.2.2.2⟩
def foldStep (h p : Blk) : Blk := xorB (fwd p 12 h) h
theorem foldStep_ok {h : Blk} (hk : h.ok) (p : Blk) : (foldStep h p).ok := xorB_ok (fwd_ok p 12 h hk) hk
def piece (l : List UInt8) (i : Nat) : List UInt8 := (l.drop (16 * i)).take 16
def foldN (l : List UInt8) : Nat → Blk
  | 0 => zeroB
  | k + 1 => foldStep (foldN l k) (blkOf (piece l k))
theorem foldN_ok (l : List UInt8) (k : Nat) : (foldN l k).ok := by
  induction k with
  | zero => exact zeroB_ok
  | succ k ih => exact foldStep_ok ih _
def bytesOf (xs : List Int) : List UInt8 := xs.map fun z => UInt8.ofNat z.toNat
def fillN (n : Nat) : Nat := 15 - n % 16
def padded (l : List UInt8) : List UInt8 := l ++ (128 :: (List.replicate (fillN l.length) 0 ++ (List.replicate 8 0 ++ bytesOf (bigL l.length 8))))
theorem padded_length (l : List UInt8) : (padded l).length = 16 * (l.length / 16 + 2) := by
  simp only [padded, List.length_append, List.length_cons, List.length_replicate, bytesOf, List.length_map, bigL_length, fillN]
  omega
def foldB (l : List UInt8) : Blk := foldN (padded l) (l.length / 16 + 2)
def foldS (s : ByteArray) : ByteArray := blkS (foldB s.data.toList)
theorem foldS_size (s : ByteArray) : (foldS s).size = 16 := blkS_size _
theorem foldB_ok (l : List UInt8) : (foldB l).ok := foldN_ok _ _
theorem piece_same (l r : List UInt8) (i : Nat) (h : 16 * (i + 1) ≤ l.length) : piece (l ++ r) i = piece l i := by
  unfold piece
  rw [List.drop_append_of_le_length (by omega), List.take_append_of_le_length (by simp; omega)]
theorem foldN_same (l r : List UInt8) (k : Nat) (h : 16 * k ≤ l.length) : foldN (l ++ r) k = foldN l k := by
  induction k with
  | zero => rfl
  | succ k ih => rw [foldN, foldN, ih (by omega), piece_same l r k (by omega)]
def lastPiece (l : List UInt8) : List UInt8 := l.drop (16 * (l.length / 16)) ++ 128 :: List.replicate (fillN l.length) 0
theorem lastPiece_length (l : List UInt8) : (lastPiece l).length = 16 := by
  simp only [lastPiece, List.length_append, List.length_drop, List.length_cons, List.length_replicate, fillN]
  omega
theorem padded_split (l : List UInt8) : padded l = (l ++ 128 :: List.replicate (fillN l.length) 0) ++ (List.replicate 8 0 ++ bytesOf (bigL l.length 8)) := by
  simp [padded]
theorem piece_last (l : List UInt8) : piece (padded l) (l.length / 16) = lastPiece l := by
  rw [padded_split, piece_same _ _ _ (by simp only [List.length_append, List.length_cons, List.length_replicate, fillN]; omega)]
  unfold piece
  rw [List.drop_append_of_le_length (by omega)]
  exact List.take_of_length_le (Nat.le_of_eq (lastPiece_length l))
theorem piece_size (l : List UInt8) : piece (padded l) (l.length / 16 + 1) = List.replicate 8 0 ++ bytesOf (bigL l.length 8) := by
  rw [padded_split]
  unfold piece
  rw [List.drop_append_of_le_length (by simp only [List.length_append, List.length_cons, List.length_replicate, fillN]; omega), List.drop_of_length_le (by simp only [List.length_append, List.length_cons, List.length_replicate, fillN]; omega), List.nil_append]
  exact List.take_of_length_le (by simp [bytesOf, bigL_length])
theorem blkOf_size (n : Nat) (h : n < 18446744073709551616) : blkOf (List.replicate 8 0 ++ bytesOf (bigL n 8)) = ⟨0, 0, n / 4294967296, n % 4294967296⟩ := by
  simp only [List.replicate_succ, List.replicate_zero, blkOf, wordAt, bytesOf, bigL, List.map_cons, List.map_nil, List.cons_append, List.nil_append, Nat.mul_zero, List.drop_zero, List.take_succ_cons, List.take_zero, Nat.reduceMul, List.drop_succ_cons, val4, u8_of]
  congr 1
  · omega
  · omega
theorem foldB_eq (l : List UInt8) (h : l.length < 18446744073709551616) : foldB l = foldStep (foldStep (foldN l (l.length / 16)) (blkOf (lastPiece l))) ⟨0, 0, l.length / 4294967296, l.length % 4294967296⟩ := by
  unfold foldB
  rw [show l.length / 16 + 2 = (l.length / 16 + 1) + 1 by omega, foldN, foldN, piece_last, piece_size, blkOf_size _ h]
  congr 2
  exact foldN_same _ _ _ (by omega)
end Go.Proofs.YtajkbkljonejnaaGreatDoor
namespace Go.Proofs.YtajkbkljonejnaaGreatDoor
open Go.RowKit
set_option linter.unusedVariables false
def partL (p : ByteArray) : List UInt8 := bytesOf (bigL p.size 4) ++ p.data.toList
def rowL : List ByteArray → List UInt8
  | [] => []
  | p :: r => partL p ++ rowL r
def rowS (l : List ByteArray) : ByteArray := ⟨(rowL l).toArray⟩
theorem rowS_data (l : List ByteArray) : (rowS l).data.toList = rowL l := by simp [rowS]
theorem rowL_append (a b : List ByteArray) : rowL (a ++ b) = rowL a ++ rowL b := by
  induction a with
  | nil => rfl
  | cons p r ih => rw [List.cons_append, rowL, rowL, ih, List.append_assoc]
theorem partL_length (p : ByteArray) : (partL p).length = 4 + p.size := by
  simp [partL, bytesOf, bigL_length]
def rowN : List ByteArray → Nat
  | [] => 0
  | p :: r => 4 + p.size + rowN r
theorem rowL_length (l : List ByteArray) : (rowL l).length = rowN l := by
  induction l with
  | nil => rfl
  | cons p r ih => rw [rowL, rowN, List.length_append, partL_length, ih]
theorem rowS_size (l : List ByteArray) : (rowS l).size = rowN l := by
  rw [← rowL_length]; simp [rowS, ByteArray.size]
end Go.Proofs.YtajkbkljonejnaaGreatDoor
namespace Go.Proofs
open Go.Shelf
def Tryz.lays105_ren : Go.Shelf.Ren := ⟨fun | 105 => 77 | 212 => 109 | 99 => 110 | 165 => 111 | 166 => 72 | 170 => 112 | 169 => 75 | 263 => 144 | 264 => 145 | 206 => 146 | 240 => 107 | 241 => 147 | 276 => 143 | 277 => 155 | n => n, fun | 9 => 9 | 3 => 3 | 4 => 4 | 20 => 20 | 0 => 0 | 46 => 136 | 109 => 170 | 5 => 5 | 72 => 122 | 76 => 125 | 51 => 129 | 146 => 198 | 53 => 137 | 148 => 200 | 70 => 120 | 37 => 55 | 75 => 124 | 127 => 169 | 164 => 196 | 80 => 128 | n => n, fun | n => n⟩
theorem Tryz.lays105 : Go.Proofs.Lays.n105 Tryz.prog Tryz.lays105_ren := {
  mixed := by kernel_rfl
  f99 := Tryz.func110.trans (congrArg some (by kernel_rfl))
  f105 := Tryz.func77.trans (congrArg some (by kernel_rfl))
  f165 := Tryz.func111.trans (congrArg some (by kernel_rfl))
  f166 := Tryz.func72.trans (congrArg some (by kernel_rfl))
  f169 := Tryz.func75.trans (congrArg some (by kernel_rfl))
  f170 := Tryz.func112.trans (congrArg some (by kernel_rfl))
  f206 := Tryz.func146.trans (congrArg some (by kernel_rfl))
  f212 := Tryz.func109.trans (congrArg some (by kernel_rfl))
  f240 := Tryz.func107.trans (congrArg some (by kernel_rfl))
  f241 := Tryz.func147.trans (congrArg some (by kernel_rfl))
  f263 := Tryz.func144.trans (congrArg some (by kernel_rfl))
  f264 := Tryz.func145.trans (congrArg some (by kernel_rfl))
  f276 := Tryz.func143.trans (congrArg some (by kernel_rfl))
  f277 := Tryz.func155.trans (congrArg some (by kernel_rfl))
  t0 := Tryz.underlying0
  a0 := Tryz.isAgg0
  z0 := Tryz.sizeOf0
  v0 := Tryz.zeroValue0
  t3 := Tryz.underlying3
  a3 := Tryz.isAgg3
  z3 := Tryz.sizeOf3
  v3 := Tryz.zeroValue3
  t4 := Tryz.underlying4
  a4 := Tryz.isAgg4
  z4 := Tryz.sizeOf4
  v4 := Tryz.zeroValue4
  t5 := Tryz.underlying5
  a5 := Tryz.isAgg5
  z5 := Tryz.sizeOf5
  v5 := Tryz.zeroValue5
  t9 := Tryz.underlying9
  a9 := Tryz.isAgg9
  z9 := Tryz.sizeOf9
  v9 := Tryz.zeroValue9
  t20 := Tryz.underlying20
  a20 := Tryz.isAgg20
  z20 := Tryz.sizeOf20
  v20 := Tryz.zeroValue20
  t37 := Tryz.underlying55
  a37 := Tryz.isAgg55
  z37 := Tryz.sizeOf55
  v37 := Tryz.zeroValue55
  t46 := Tryz.underlying136
  a46 := Tryz.isAgg136
  z46 := Tryz.sizeOf136
  v46 := Tryz.zeroValue136
  t51 := Tryz.underlying129
  a51 := Tryz.isAgg129
  z51 := Tryz.sizeOf129
  v51 := Tryz.zeroValue129
  t53 := Tryz.underlying137
  a53 := Tryz.isAgg137
  z53 := Tryz.sizeOf137
  v53 := Tryz.zeroValue137
  t70 := Tryz.underlying120
  a70 := Tryz.isAgg120
  z70 := Tryz.sizeOf120
  v70 := Tryz.zeroValue120
  t72 := Tryz.underlying122
  a72 := Tryz.isAgg122
  z72 := Tryz.sizeOf122
  v72 := Tryz.zeroValue122
  t75 := Tryz.underlying124
  a75 := Tryz.isAgg124
  z75 := Tryz.sizeOf124
  v75 := Tryz.zeroValue124
  t76 := Tryz.underlying125
  a76 := Tryz.isAgg125
  z76 := Tryz.sizeOf125
  v76 := Tryz.zeroValue125
  t109 := Tryz.underlying170
  a109 := Tryz.isAgg170
  z109 := Tryz.sizeOf170
  v109 := Tryz.zeroValue170
  t127 := Tryz.underlying169
  a127 := Tryz.isAgg169
  z127 := Tryz.sizeOf169
  v127 := Tryz.zeroValue169
  t146 := Tryz.underlying198
  a146 := Tryz.isAgg198
  z146 := Tryz.sizeOf198
  v146 := Tryz.zeroValue198
  t148 := Tryz.underlying200
  a148 := Tryz.isAgg200
  z148 := Tryz.sizeOf200
  v148 := Tryz.zeroValue200
  t164 := Tryz.underlying196
  a164 := Tryz.isAgg196
  z164 := Tryz.sizeOf196
  v164 := Tryz.zeroValue196 }
theorem Tryz.Builder_Extra_105 : Builder.Extra Tryz.prog Tryz.lays105_ren := {
  sizeBuilder := by kernel_rfl
  liesBuilder := by kernel_rfl
  t5 := Tryz.underlying5
  a5 := Tryz.isAgg5
  z5 := Tryz.sizeOf5
  v5 := Tryz.zeroValue5
  infoByte := by kernel_rfl
  cellsByte := by kernel_rfl
  sizeByte := by kernel_rfl
  neB5 := by decide }
end Go.Proofs
