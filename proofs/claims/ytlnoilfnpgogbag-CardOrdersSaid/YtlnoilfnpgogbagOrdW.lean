/- What is wrong with orders: checkOrders of the program. -/
import Derived.Test.YtlnoilfnpgogbagOrdP
import Derived.Test.YtlnoilfnpgogbagQB
import Derived.BigQuiet
import Derived.WalkSmall
namespace Go.Proofs.Ytlnoilfnpgogbag
open Go.RowKit
set_option linter.unusedVariables false

def okindB (x : XOrder) : Bool := !inB x.what 1 8
def orangeB (x : XOrder) : Bool := !inB x.n 0 (mostN x.what)
def oformB (x : XOrder) : Bool := !textB x.what x.text
theorem okind_any (x : XOrder) (w : World) :
    Calls Try.prog 72 #[valOrder x] w fun e w' => e = .returned (.bool (okindB x)) ∧ Below w.heap.size w w' := by
  obtain ⟨wh, n, tx⟩ := x
  have n1 := fun w => within_any wh 1 8 w
  have hbx := fun o : Obj => (Below.refl w.heap.size w).alloc (Nat.le_refl _) o
  have HB := hide hbx
  have HM : Hid (okindB ⟨wh, n, tx⟩ = !inB wh 1 8) := hide rfl
  clear hbx
  unfold valOrder
  simp only
  generalize inB wh 1 8 = q at *
  have N1 := hide n1
  clear n1
  go_enter Try.func72, Try.ntmps72
  go_wp2_with fail
  refine (unhide N1 _).mono ?_
  rintro e w1 ⟨rfl, hw1⟩
  subst hw1
  go_wp2
  go_ret
  exact ⟨ret_bool (unhide HM).symm, unhide HB _⟩
theorem orange_any (x : XOrder) (w : World) :
    Calls Try.prog 73 #[valOrder x] w fun e w' => e = .returned (.bool (orangeB x)) ∧ Below w.heap.size w w' := by
  obtain ⟨wh, n, tx⟩ := x
  have n1 := fun w => mostOf_any wh w
  have n2 := fun w => within_any n 0 (mostN wh) w
  have hbx := fun o : Obj => (Below.refl w.heap.size w).alloc (Nat.le_refl _) o
  have HB := hide hbx
  have HM : Hid (orangeB ⟨wh, n, tx⟩ = !inB n 0 (mostN wh)) := hide rfl
  clear hbx
  unfold valOrder
  simp only
  generalize inB n 0 (mostN wh) = q at *
  generalize mostN wh = m at *
  have N1 := hide n1; have N2 := hide n2
  clear n1 n2
  go_enter Try.func73, Try.ntmps73
  go_wp2_with fail
  go_quiet ((first | (go_at_call 74; exact Calls.quiet_of_same (unhide N1 _)) | (go_at_call 33; exact Calls.quiet_of_same (unhide N2 _))))
  go_wp2
  go_ret
  exact ⟨ret_bool (unhide HM).symm, below_drewN (unhide HB _) _⟩
theorem oform_any (x : XOrder) (hx : x.text.size ≤ maxLen) (w : World) :
    Calls Try.prog 75 #[valOrder x] w fun e w' => e = .returned (.bool (oformB x)) ∧ Below w.heap.size w w' := by
  obtain ⟨wh, n, tx⟩ := x
  have n1 := fun w => isText_any wh tx hx w
  have hbx := fun o : Obj => (Below.refl w.heap.size w).alloc (Nat.le_refl _) o
  have HB := hide hbx
  have HM : Hid (oformB ⟨wh, n, tx⟩ = !textB wh tx) := hide rfl
  clear hbx hx
  unfold valOrder
  simp only
  generalize textB wh tx = q at *
  have N1 := hide n1
  clear n1
  go_enter Try.func75, Try.ntmps75
  go_wp2_with fail
  refine (unhide N1 _).mono ?_
  rintro e w1 ⟨rfl, hw1⟩
  subst hw1
  go_wp2
  go_ret
  exact ⟨ret_bool (unhide HM).symm, unhide HB _⟩
theorem anyO_take {α : Type} (l : List α) (p : α → Bool) (k : Nat) (y : α) (h : l[k]? = some y) : (l.take (k + 1)).any p = ((l.take k).any p || p y) := by
  obtain ⟨hk, rfl⟩ := List.getElem?_eq_some_iff.1 h
  rw [List.take_succ_eq_append_getElem hk, List.any_append]
  simp
theorem anyO_of {α : Type} (l : List α) (p : α → Bool) (k : Nat) (h : (l.take k).any p = true) : l.any p = true := by
  have e := List.take_append_drop k l
  rw [← e, List.any_append, h, Bool.true_or]

set_option maxHeartbeats 1000000 in
theorem indexO_any (f : FuncId) (hff : f = 72 ∨ f = 73 ∨ f = 75) (p : XOrder → Bool) (hf : ∀ x : XOrder, x.text.size ≤ maxLen → ∀ w, Calls Try.prog f #[valOrder x] w fun e w' => e = .returned (.bool (p x)) ∧ Below w.heap.size w w')
    (l : List XOrder) (ao : Option Addr) (cap : Nat) (w : World) (hr : RowOrder w ao l) :
    Calls Try.prog 106 #[.slice ao l.length cap, .func (.func f) #[] #[]] w fun e w' => (∃ v : Int, e = .returned (.int .i64 v) ∧ decide (0 ≤ v) = l.any p) ∧ Below w.heap.size w w' := by
  rcases hff with rfl | rfl | rfl
  all_goals
    obtain ⟨hr, hok, hm⟩ := hr
    have HF0 := hide hf
    have HO := hide hok
    clear hf hok
    go_enter Try.func106, Try.ntmps106
    go_wp2
    go_loopw [8] (fun i wr => ∃ k : Nat, k ≤ l.length ∧ i = .int .i64 k ∧ Hid ((l.take k).any p = false) ∧ Below w.heap.size w wr) (fun i _ => l.length - (intOf i).toNat)
    case atStart => exact ⟨0, Nat.zero_le _, rfl, hide (by simp), Below.refl _ _⟩
    case round =>
      obtain ⟨k, hk, rfl, HA, hbw⟩ := hrel
      by_cases hlt : k < l.length
      · obtain ⟨y, hy⟩ : ∃ y, l[k]? = some y := ⟨_, List.getElem?_eq_getElem hlt⟩
        rcases hr with hnil | ⟨b, off, rfl, hb, hc⟩
        · rw [hnil] at hlt; simp at hlt
        obtain ⟨c0, c1, c2⟩ := hc k y hy
        have d0 : wr.cell? ⟨b, off + k * 3, none⟩ = _ := (hbw.cell (p := ⟨b, off + k * 3, none⟩) hb).trans c0
        have d1 : wr.cell? ⟨b, off + k * 3 + 1, none⟩ = _ := (hbw.cell (p := ⟨b, off + k * 3 + 1, none⟩) hb).trans c1
        have d2 : wr.cell? ⟨b, off + k * 3 + 2, none⟩ = _ := (hbw.cell (p := ⟨b, off + k * 3 + 2, none⟩) hb).trans c2
        have hs := anyO_take l p k y hy
        rw [unhide HA, Bool.false_or] at hs
        have hml : l.length ≤ 9223372036854775807 := by simpa [maxLen] using hm
        have n1 := unhide HF0 y (unhide HO y (List.mem_of_getElem? hy)).2.2 wr
        clear hc hm c0 c1 c2
        unfold valOrder at n1
        cases he : p y with
        | true =>
          have HF := hide (anyO_of l p (k + 1) (hs.trans he))
          rw [he] at n1
          have N1 := hide n1
          clear hs hy n1 he
          go_wp2_with fail
          refine (unhide N1).mono ?_
          rintro e w1 ⟨rfl, hb1⟩
          go_wp2
          go_ret
          exact ⟨⟨_, rfl, by rw [unhide HF]; simp⟩, hbw.trans (hb1.mono hbw.size)⟩
        | false =>
          have HS : Hid ((l.take (k + 1)).any p = false) := hide (hs.trans he)
          rw [he] at n1
          have N1 := hide n1
          clear hs hy n1 he
          go_wp2_with fail
          refine (unhide N1).mono ?_
          rintro e w1 ⟨rfl, hb1⟩
          go_wp2
          go_roundw
          case rel => exact ⟨k + 1, by omega, by go_num, HS, hbw.trans (hb1.mono hbw.size)⟩
          case measure => simp [intOf]; omega
      · have HF : Hid (l.any p = false) := hide (by have := unhide HA; rw [List.take_of_length_le (by omega)] at this; exact this)
        go_wp2
        go_ret
        exact ⟨⟨_, rfl, by rw [unhide HF]; rfl⟩, hbw⟩
theorem containsO_any (f : FuncId) (hff : f = 72 ∨ f = 73 ∨ f = 75) (p : XOrder → Bool) (hf : ∀ x : XOrder, x.text.size ≤ maxLen → ∀ w, Calls Try.prog f #[valOrder x] w fun e w' => e = .returned (.bool (p x)) ∧ Below w.heap.size w w')
    (l : List XOrder) (ao : Option Addr) (cap : Nat) (w : World) (hr : RowOrder w ao l) :
    Calls Try.prog 77 #[.slice ao l.length cap, .func (.func f) #[] #[]] w fun e w' => e = .returned (.bool (l.any p)) ∧ Below w.heap.size w w' := by
  have N1 := hide (indexO_any f hff p hf l ao cap w hr)
  clear hr hf
  generalize l.any p = q at *
  go_enter Try.func77, Try.ntmps77
  go_wp2_with fail
  refine (unhide N1).mono ?_
  rintro e w1 ⟨⟨v, rfl, hv⟩, hb1⟩
  have HV := hide hv
  clear hv
  go_wp2
  go_ret
  exact ⟨ret_bool (unhide HV), hb1⟩

/-- what is wrong with orders -/
def ordersE (key : ByteArray) (number : Int) (l : List XOrder) : Int :=
  if key.size ≠ 16 then 1 else bif !inB number 1 65535 then 3 else if 8 < l.length then 2 else bif l.any okindB then 4 else bif l.any orangeB then 3 else bif l.any oformB then 1 else 0

set_option maxHeartbeats 1000000 in
theorem checkOrders_any (key : ByteArray) (number : Int) (l : List XOrder) (ao : Option Addr) (cap : Nat) (w : World) (hr : RowOrder w ao l) :
    Calls Try.prog 40 #[.string key, .int .i64 number, .slice ao l.length cap] w fun e w' => e = .returned (.int .i64 (ordersE key number l)) ∧ Below w.heap.size w w' := by
  have n0 := fun w => within_any number 1 65535 w
  have n1 := fun w' (hb : Below w.heap.size w w') => containsO_any _ (.inl rfl) okindB (fun x _ w => okind_any x w) l ao cap w' (hr.below hb)
  have n2 := fun w' (hb : Below w.heap.size w w') => containsO_any _ (.inr (.inl rfl)) orangeB (fun x _ w => orange_any x w) l ao cap w' (hr.below hb)
  have n3 := fun w' (hb : Below w.heap.size w w') => containsO_any _ (.inr (.inr rfl)) oformB (fun x hx w => oform_any x hx w) l ao cap w' (hr.below hb)
  clear hr
  by_cases hk : key.size = 16
  case neg =>
    have HE : Hid (ordersE key number l = 1) := hide (by rw [ordersE, if_pos hk])
    have hk' : ¬ (key.size : Int) = 16 := by omega
    clear n0 n1 n2 n3
    go_enter Try.func40, Try.ntmps40
    go_wp2
    go_ret
    exact ⟨ret_int (unhide HE).symm, Below.refl _ _⟩
  have hk' : (key.size : Int) = 16 := by omega
  have HE : Hid (ordersE key number l = bif !inB number 1 65535 then 3 else if 8 < l.length then 2 else bif l.any okindB then 4 else bif l.any orangeB then 3 else bif l.any oformB then 1 else 0) := hide (by rw [ordersE, if_neg (by omega)])
  generalize inB number 1 65535 = q0 at *
  generalize l.any okindB = q1 at *
  generalize l.any orangeB = q2 at *
  generalize l.any oformB = q3 at *
  have N0 := hide n0; have N1 := hide n1; have N2 := hide n2; have N3 := hide n3
  clear n0 n1 n2 n3 hk
  cases q0 with
  | false =>
    go_enter Try.func40, Try.ntmps40
    go_wp2_with fail
    refine (unhide N0 _).mono ?_
    rintro e w1 ⟨rfl, hw1⟩
    subst hw1
    go_wp2
    go_ret
    exact ⟨ret_int (unhide HE).symm, Below.refl _ _⟩
  | true =>
  by_cases h8 : 8 < l.length
  · have HE' : Hid (ordersE key number l = 2) := hide (by rw [unhide HE]; simp [h8])
    go_enter Try.func40, Try.ntmps40
    go_wp2_with fail
    refine (unhide N0 _).mono ?_
    rintro e w1 ⟨rfl, hw1⟩
    subst hw1
    go_wp2
    go_ret
    exact ⟨ret_int (unhide HE').symm, Below.refl _ _⟩
  have HE' : Hid (ordersE key number l = bif q1 then 4 else bif q2 then 3 else bif q3 then 1 else 0) := hide (by rw [unhide HE]; simp [h8])
  cases q1 with
  | true =>
    go_enter Try.func40, Try.ntmps40
    go_wp2_with fail
    refine (unhide N0 _).mono ?_
    rintro e w1 ⟨rfl, hw1⟩
    subst hw1
    go_wp2_with fail
    refine (unhide N1 _ (Below.refl _ _)).mono ?_
    rintro e w2 ⟨rfl, hb1⟩
    go_wp2
    go_ret
    exact ⟨ret_int (unhide HE').symm, hb1⟩
  | false =>
  cases q2 with
  | true =>
    go_enter Try.func40, Try.ntmps40
    go_wp2_with fail
    refine (unhide N0 _).mono ?_
    rintro e w1 ⟨rfl, hw1⟩
    subst hw1
    go_wp2_with fail
    refine (unhide N1 _ (Below.refl _ _)).mono ?_
    rintro e w2 ⟨rfl, hb1⟩
    go_wp2_with fail
    refine (unhide N2 _ hb1).mono ?_
    rintro e w3 ⟨rfl, hb2⟩
    go_wp2
    go_ret
    exact ⟨ret_int (unhide HE').symm, hb1.trans (hb2.mono hb1.size)⟩
  | false =>
  have HE2 : Hid (ordersE key number l = bif q3 then 1 else 0) := HE'
  clear HE HE'
  cases q3 with
  | true =>
    go_enter Try.func40, Try.ntmps40
    go_wp2_with fail
    refine (unhide N0 _).mono ?_
    rintro e w1 ⟨rfl, hw1⟩
    subst hw1
    go_wp2_with fail
    refine (unhide N1 _ (Below.refl _ _)).mono ?_
    rintro e w2 ⟨rfl, hb1⟩
    go_wp2_with fail
    refine (unhide N2 _ hb1).mono ?_
    rintro e w3 ⟨rfl, hb2⟩
    have hb3 := hb1.trans (hb2.mono hb1.size)
    go_wp2_with fail
    refine (unhide N3 _ hb3).mono ?_
    rintro e w4 ⟨rfl, hb4⟩
    go_wp2
    go_ret
    exact ⟨ret_int (unhide HE2).symm, hb3.trans (hb4.mono hb3.size)⟩
  | false =>
    go_enter Try.func40, Try.ntmps40
    go_wp2_with fail
    refine (unhide N0 _).mono ?_
    rintro e w1 ⟨rfl, hw1⟩
    subst hw1
    go_wp2_with fail
    refine (unhide N1 _ (Below.refl _ _)).mono ?_
    rintro e w2 ⟨rfl, hb1⟩
    go_wp2_with fail
    refine (unhide N2 _ hb1).mono ?_
    rintro e w3 ⟨rfl, hb2⟩
    have hb3 := hb1.trans (hb2.mono hb1.size)
    go_wp2_with fail
    refine (unhide N3 _ hb3).mono ?_
    rintro e w4 ⟨rfl, hb4⟩
    go_wp2
    go_ret
    exact ⟨ret_int (unhide HE2).symm, hb3.trans (hb4.mono hb3.size)⟩
end Go.Proofs.Ytlnoilfnpgogbag
