/- CheckWays of both; which way applies, which goes well. -/
import Derived.Test.YtfpglpefofcdeaaGreatDoorM01
import Derived.Test.YtfpglpefofcdeaaGreatDoorM00
namespace Go.Proofs.YtfpglpefofcdeaaGreatDoor
open Go.RowKit
set_option linter.unusedVariables false

theorem waysE_long {v : XWays} (h : 20 < v.list.length) : waysE v = 2 := by rw [waysE, if_pos h]
theorem waysE_ok {v : XWays} (h : v.list.length ≤ 20) (hx : 0 ≤ v.x ∧ v.x ≤ 999999999999) (hy : 0 ≤ v.y ∧ v.y ≤ 999999999999) (hl : v.list.any (fun x => !inBw x) = false) : waysE v = 0 := by
  rw [waysE, if_neg (by omega), if_pos ⟨⟨hx, hy⟩, hl⟩]
theorem waysE_no {v : XWays} (h : v.list.length ≤ 20) (hn : ¬ (((0 ≤ v.x ∧ v.x ≤ 999999999999) ∧ (0 ≤ v.y ∧ v.y ≤ 999999999999)) ∧ v.list.any (fun x => !inBw x) = false)) : waysE v = 3 := by
  rw [waysE, if_neg (by omega), if_neg hn]
theorem waysE_zero {v : XWays} (h : waysE v = 0) : v.list.length ≤ 20 ∧ ((0 ≤ v.x ∧ v.x ≤ 999999999999) ∧ (0 ≤ v.y ∧ v.y ≤ 999999999999)) ∧ v.list.any (fun x => !inBw x) = false := by
  unfold waysE at h
  split at h
  · cases h
  · split at h
    · rename_i h1 h2; exact ⟨by omega, h2⟩
    · cases h

set_option maxHeartbeats 2000000 in
theorem checkWays_any (v : XWays) (w : World) (hr : RowWay w v.listo v.list) :
    Calls Tryz.prog 34 #[valWays v] w fun e w' => e = .returned (.int .i64 (waysE v)) ∧ Below w.heap.size w w' := by
  have n1 := fun w => isAmount_any v.x w
  have n2 := fun w => isAmount_any v.y w
  have n3 := fun w' (hb : Below w.heap.size w w') => containsF_any v.list v.listo v.listc w' (hr.below hb)
  have hbx := fun o : Obj => (Below.refl w.heap.size w).alloc (Nat.le_refl _) o
  have N3 := hide (fun o : Obj => n3 _ (hbx o))
  have HB := hide hbx
  have el := @waysE_long v
  have eo := @waysE_ok v
  have en := @waysE_no v
  clear hr n3 hbx
  unfold valWays
  generalize waysE v = E at *
  by_cases hl : 20 < v.list.length
  · have HE := hide (el hl)
    clear n1 n2 el eo en
    go_enter Tryz.func34, Tryz.ntmps34
    go_wp2
    go_ret
    exact ⟨ret_int (unhide HE).symm, unhide HB _⟩
  · clear el
    have hl' : v.list.length ≤ 20 := by omega
    have eo' := eo hl'
    have en' := en hl'
    clear eo en
    by_cases hx : 0 ≤ v.x ∧ v.x ≤ 999999999999
    · rw [decide_eq_true hx] at n1
      by_cases hy : 0 ≤ v.y ∧ v.y ≤ 999999999999
      · rw [decide_eq_true hy] at n2
        have eo2 := eo' hx hy
        have en2 : ¬ v.list.any (fun x => !inBw x) = false → E = 3 := fun h => en' (fun hh => h hh.2)
        clear eo' en' hx hy
        generalize v.list.any (fun x => !inBw x) = q at *
        have N1 := hide n1; have N2 := hide n2
        have HE : Hid (E = bif q then 3 else 0) := hide (by cases q with
          | true => exact en2 (by simp)
          | false => exact eo2 rfl)
        clear n1 n2 eo2 en2
        cases q <;>
        · go_enter Tryz.func34, Tryz.ntmps34
          go_wp2_with fail
          refine (unhide N1 _).mono ?_
          rintro e w1 ⟨rfl, hw1⟩
          subst hw1
          go_wp2_with fail
          refine (unhide N2 _).mono ?_
          rintro e w1 ⟨rfl, hw1⟩
          subst hw1
          go_wp2_with fail
          refine (unhide N3 _).mono ?_
          rintro e w1 ⟨rfl, hb1⟩
          go_wp2
          go_ret
          exact ⟨ret_int (by rw [unhide HE]; rfl), (unhide HB _).trans (hb1.mono (by simp))⟩
      · rw [decide_eq_false hy] at n2
        have HE := hide (en' (fun hh => hy hh.1.2))
        have N1 := hide n1; have N2 := hide n2
        clear n1 n2 eo' en' hx hy
        go_enter Tryz.func34, Tryz.ntmps34
        go_wp2_with fail
        refine (unhide N1 _).mono ?_
        rintro e w1 ⟨rfl, hw1⟩
        subst hw1
        go_wp2_with fail
        refine (unhide N2 _).mono ?_
        rintro e w1 ⟨rfl, hw1⟩
        subst hw1
        go_wp2
        go_ret
        exact ⟨ret_int (unhide HE).symm, unhide HB _⟩
    · rw [decide_eq_false hx] at n1
      have HE := hide (en' (fun hh => hx hh.1.1))
      have N1 := hide n1
      clear n1 n2 eo' en' hx
      go_enter Tryz.func34, Tryz.ntmps34
      go_wp2_with fail
      refine (unhide N1 _).mono ?_
      rintro e w1 ⟨rfl, hw1⟩
      subst hw1
      go_wp2
      go_ret
      exact ⟨ret_int (unhide HE).symm, unhide HB _⟩

/-- does a way apply? -/
def appB (x : XWay) (v : XWays) (s : XScene) : Bool :=
  if x.when = 1 then s.cash else if x.when = 2 then !s.cash else if x.when = 3 then inInts x.code s.able else
  if x.when = 4 then decide (s.amount < v.x) else if x.when = 5 then decide (v.x < s.amount) else if x.when = 6 then decide (s.amount < v.y) else if x.when = 7 then decide (v.y < s.amount) else true
/-- does a way that is gone go well? -/
def wellB (code : Int) (s : XScene) : Bool := if code = 5 then true else if code = 0 ∨ 5 < code then false else (inInts code s.able && inInts code s.well)

def WsAt (w : World) (g : Nat) (v : XWays) : Prop := w.heap[g]? = some (.cells #[.int .i64 v.x, .int .i64 v.y, .slice v.listo v.list.length v.listc] 28)
theorem block_ltW {w : World} {g : Nat} {o : Obj} (h : w.heap[g]? = some o) : g < w.heap.size := by
  rcases Nat.lt_or_ge g w.heap.size with h1 | h1
  · exact h1
  · rw [Array.getElem?_eq_none h1] at h
    cases h
theorem WsAt.below {w w' : World} {g : Nat} {v : XWays} (h : WsAt w g v) (hb : Below w.heap.size w w') : WsAt w' g v := (hb.block g (block_ltW h)).trans h
theorem WsAt.cells {w : World} {g : Nat} {v : XWays} (h : WsAt w g v) : w.cell? ⟨g, 0, none⟩ = some (.int .i64 v.x) ∧ w.cell? ⟨g, 1, none⟩ = some (.int .i64 v.y) ∧ w.cell? ⟨g, 2, none⟩ = some (.slice v.listo v.list.length v.listc) :=
  ⟨cell_of_row _ _ _ _ _ _ h, cell_of_row _ _ _ _ _ _ h, cell_of_row _ _ _ _ _ _ h⟩


end Go.Proofs.YtfpglpefofcdeaaGreatDoor
namespace Go.Proofs.YtfpglpefofcdeaaGreatDoor
open Go.RowKit

/-- the number that bytes say, the high one first -/
def valN (l : List UInt8) : Nat := l.foldl (fun n b => n * 256 + b.toNat) 0
theorem valN_snoc (l : List UInt8) (b : UInt8) : valN (l ++ [b]) = valN l * 256 + b.toNat := by simp [valN, List.foldl_append]
theorem foldl_ge (l : List UInt8) : ∀ a : Nat, a ≤ l.foldl (fun n b => n * 256 + b.toNat) a := by
  induction l with
  | nil => intro a; simp
  | cons b l ih => intro a; rw [List.foldl_cons]; exact Nat.le_trans (by omega) (ih _)
theorem valN_take_le (l : List UInt8) (k : Nat) : valN (l.take k) ≤ valN l := by
  rw (occs := .pos [2]) [← List.take_append_drop k l]
  unfold valN
  rw [List.foldl_append]
  exact foldl_ge _ _
theorem valN_lt (l : List UInt8) : valN l < 256 ^ l.length := by
  have h : ∀ (l : List UInt8) (a : Nat), l.foldl (fun n b => n * 256 + b.toNat) a < (a + 1) * 256 ^ l.length := by
    intro l
    induction l with
    | nil => intro a; simp
    | cons b l ih =>
      intro a
      rw [List.foldl_cons, List.length_cons, Nat.pow_succ]
      refine Nat.lt_of_lt_of_le (ih _) ?_
      have hb : b.toNat < 256 := b.toNat_lt
      calc (a * 256 + b.toNat + 1) * 256 ^ l.length ≤ ((a + 1) * 256) * 256 ^ l.length := Nat.mul_le_mul_right _ (by omega)
        _ = (a + 1) * (256 ^ l.length * 256) := by rw [Nat.mul_assoc, Nat.mul_comm 256]
  simpa [valN] using h l 0
set_option maxHeartbeats 1000000 in
theorem value_any (s : ByteArray) (w : World) (hs : s.size ≤ 8) (hv : valN s.data.toList ≤ 9223372036854775807) :
    Calls Tryz.prog 64 #[.string s] w fun e w' => e = .returned (.int .i64 (valN s.data.toList)) ∧ w' = w := by
  go_enter Tryz.func64, Tryz.ntmps64
  go_wp2
  go_loop [3, 4] (fun n i => ∃ k : Nat, k ≤ s.size ∧ i = .int .i64 k ∧ n = .int .i64 (valN (s.data.toList.take k))) (fun _ i => s.size - (intOf i).toNat)
  case atStart => exact ⟨0, Nat.zero_le _, rfl, rfl⟩
  case round =>
    obtain ⟨k, hk, rfl, rfl⟩ := hrel
    by_cases hlt : k < s.size
    · have hsn := valN_snoc (s.data.toList.take k) s[k]
      rw [← take_snoc s k hlt] at hsn
      have hle := valN_take_le s.data.toList (k + 1)
      obtain ⟨m, hm⟩ : ∃ m, m = valN (s.data.toList.take k) := ⟨_, rfl⟩
      rw [← hm] at hsn ⊢
      have hmb : (m : Int) * 256 + (s[k].toNat : Int) ≤ 9223372036854775807 := by omega
      have HS : Hid (valN (s.data.toList.take (k + 1)) = m * 256 + s[k].toNat) := hsn
      clear hsn hle hm hv
      go_wp2
      go_round
      case rel => exact ⟨k + 1, by omega, by go_num, by rw [HS.out]; go_num⟩
      case measure => simp [intOf]; omega
    · go_wp2
      go_ret
      exact ⟨ret_int (by rw [List.take_of_length_le (by simp; omega)]), rfl⟩

end Go.Proofs.YtfpglpefofcdeaaGreatDoor
namespace Go.Proofs.YtfpglpefofcdeaaGreatDoor
open Go.RowKit
set_option linter.unusedVariables false

/-- the row behind j rounds: zeros, then the low j bytes -/
def rowAt (n k j : Nat) : List Int := List.replicate (k - j) 0 ++ bigL n j
theorem rowAt_length (n k j : Nat) (h : j ≤ k) : (rowAt n k j).length = k := by simp [rowAt, bigL_length]; omega
theorem rowAt_set (n k j : Nat) (h : j < k) : (rowAt n k j).set (k - 1 - j) ((n / 256 ^ j % 256 : Nat) : Int) = rowAt n k (j + 1) := by
  unfold rowAt
  rw [show k - j = (k - (j + 1)) + 1 by omega, List.replicate_succ', List.append_assoc, show k - 1 - j = (List.replicate (k - (j + 1)) (0 : Int)).length + 0 by simp; omega, List.set_append_right _ _ (by omega)]
  simp [bigL]
theorem made_row (k : Nat) (n : Nat) : (madeCells #[Value.int .u8 0] k).toList = (rowAt n k 0).map (Value.int .u8) := by
  have e : rowAt n k 0 = List.replicate k 0 := by simp [rowAt, bigL]
  rw [e, List.map_replicate]
  apply List.ext_getElem
  · simp [madeCells]
  · intro i h1 h2
    simp [madeCells, Nat.mod_one]
theorem pow_256 (n j : Nat) : ((n : Int) / 2 ^ (8 * j)) = ((n / 256 ^ j : Nat) : Int) := by
  rw [Int.pow_mul]
  simp

set_option maxHeartbeats 1000000 in
theorem number_any (n k : Nat) (w : World) (h1 : 1 ≤ k) (h8 : k ≤ 8) (hn2 : n ≤ 9223372036854775807) (hf : n < 256 ^ k) :
    Calls Tryz.prog 52 #[.int .i64 n, .int .i64 k] w fun e w' => e = .returned (.tuple #[.string (strOfNums (bigL n k)), .int .i64 0]) ∧ Below w.heap.size w w' := by
  obtain ⟨i0, hi, hz0, hz1, hz2⟩ := info_parts infoByte
  have ht : ((n : Int) / 2 ^ (8 * k) != 0) = false := by rw [pow_256, Nat.div_eq_of_lt hf]; rfl
  have hk1 : decide ((k : Int) < 1) = false := by simp; omega
  have hk8 : decide ((8 : Int) < (k : Int)) = false := by simp; omega
  have hn0 : decide ((n : Int) < 0) = false := by simp
  clear hf
  go_enter Tryz.func52, Tryz.ntmps52
  go_wp2_with (at_make; refine wpList_make_full _ rfl _ _ 104 rfl w.heap.size 5 i0 (.int .u8 0) 1 Tryz.underlying104 hi hz0 hz1 .i64 .i64 _ _ k rfl rfl rfl rfl (by rw [hz2]; omega) (by unfold maxLen; omega) (Nat.le_refl _) ?_)
  intro w1 hown hgrow
  rw [made_row k n] at hown
  have hb : Below w.heap.size w w1 := (Below.refl _ _).grown hgrow (Nat.le_refl _) (fun q hq => by cases hq)
  clear hgrow hi hz0 hz1 hz2 hk1 hk8 hn0 ht
  go_wp2
  go_loopw [28] (fun i wr => ∃ j : Nat, j ≤ k ∧ i = .int .i64 j ∧ wr.ownsRow w.heap.size 5 1 (.slice (some ⟨w.heap.size, 0, none⟩) k k) k ((rowAt n k j).map (Value.int .u8)) ∧ Below w.heap.size w wr)
    (fun i _ => k - (intOf i).toNat)
  case atStart => exact ⟨0, Nat.zero_le _, rfl, hown, hb⟩
  case round =>
    obtain ⟨j, hj, rfl, hown, hnx⟩ := hrel
    by_cases hlt : j < k
    · have hfz := hown.frozenAt (k - 1 - j)
      have hca : wr.cell? ⟨w.heap.size, k - 1 - j, none⟩ = some (.int .u8 ((rowAt n k j).getD (k - 1 - j) 0)) := by
        rw [hown.cellAt (k - 1 - j) (by omega)]
        simp [List.getElem?_eq_getElem (show k - 1 - j < (rowAt n k j).length by rw [rowAt_length _ _ _ hj]; omega)]
      go_wp2
      go_roundw
      case rel =>
        refine ⟨j + 1, by omega, by go_num, ?_, hnx.setCell (Nat.le_refl _) _⟩
        have hs := (hown.stored (k - 1 - j) (.int .u8 ((n : Int) / 2 ^ (8 * j) % 256))).1
        rw [← rowAt_set n k j hlt, List.map_set]
        have e : ((n : Int) / 2 ^ (8 * j) % 256) = ((n / 256 ^ j % 256 : Nat) : Int) := by rw [pow_256]; rfl
        rw [e] at hs ⊢
        exact hs
      case measure => simp [intOf]; omega
    · have hkl : j = k := by omega
      subst hkl
      rcases owned_cells hown with ⟨hv, hn⟩ | ⟨g, cap', hv, _, hcl⟩
      · simp at hv
      · simp only [Value.slice.injEq, Option.some.injEq, Addr.mk.injEq, and_true, true_and] at hv
        obtain ⟨hg, hcap⟩ := hv
        subst hg hcap
        have hcv := run_convert_bytes_arg (P := Tryz.prog) wr 104 5 Tryz.underlying104 Tryz.underlying5 w.heap.size 0 j j _ (by rw [rowAt_length _ _ _ hj]) hcl 9 Tryz.underlying9
        rw [show rowAt n j j = bigL n j by simp [rowAt]] at hcv
        clear hown hcl
        go_wp2
        go_ret2
        exact ⟨rfl, hnx⟩

theorem number_no1 (n k : Int) (w : World) (h : k < 1 ∨ 8 < k) :
    Calls Tryz.prog 52 #[.int .i64 n, .int .i64 k] w fun e w' => e = .returned (.tuple #[.string ⟨#[]⟩, .int .i64 3]) ∧ w' = w := by
  rcases h with h | h
  · have hk1 : decide (k < 1) = true := by simp; omega
    go_enter Tryz.func52, Tryz.ntmps52
    go_wp2
    go_ret2
    exact ⟨rfl, rfl⟩
  · have hk1 : decide (k < 1) = false := by simp; omega
    have hk8 : decide (8 < k) = true := by simp; omega
    go_enter Tryz.func52, Tryz.ntmps52
    go_wp2
    go_ret2
    exact ⟨rfl, rfl⟩
theorem number_no2 (n k : Int) (w : World) (h1 : 1 ≤ k) (h8 : k ≤ 8) (h : n < 0) :
    Calls Tryz.prog 52 #[.int .i64 n, .int .i64 k] w fun e w' => e = .returned (.tuple #[.string ⟨#[]⟩, .int .i64 3]) ∧ w' = w := by
  have hk1 : decide (k < 1) = false := by simp; omega
  have hk8 : decide (8 < k) = false := by simp; omega
  have hn0 : decide (n < 0) = true := by simp; omega
  go_enter Tryz.func52, Tryz.ntmps52
  go_wp2
  go_ret2
  exact ⟨rfl, rfl⟩
theorem number_no3 (n k : Nat) (w : World) (h1 : 1 ≤ k) (h8 : k ≤ 8) (hn2 : n ≤ 9223372036854775807) (hf : 256 ^ k ≤ n) :
    Calls Tryz.prog 52 #[.int .i64 n, .int .i64 k] w fun e w' => e = .returned (.tuple #[.string ⟨#[]⟩, .int .i64 3]) ∧ w' = w := by
  have hp := Nat.div_pos hf (Nat.pow_pos (by omega))
  have ht : ((n : Int) / 2 ^ (8 * k) != 0) = true := by rw [pow_256, bne_iff_ne]; omega
  have hk1 : decide ((k : Int) < 1) = false := by simp; omega
  have hk8 : decide ((8 : Int) < (k : Int)) = false := by simp; omega
  have hn0 : decide ((n : Int) < 0) = false := by simp
  clear hf
  go_enter Tryz.func52, Tryz.ntmps52
  go_wp2
  go_ret2
  exact ⟨rfl, rfl⟩


theorem wraps_u64 (n : Int) (h₀ : 0 ≤ n) (h₁ : n < 2 ^ 64) : IntKind.u64.wrap n = n := by
  simp [IntKind.wrap, IntKind.bits, IntKind.signed]
  omega
theorem or_u64 (m b : Nat) (hb : b < 256) (h : (m : Int) * 256 + b ≤ 18446744073709551615) : bits .or .u64 ((m : Int) * 256) b = ((m * 256 + b : Nat) : Int) := by
  rw [bits_join .u64 64 (by decide) wraps_u64 8 _ _ (by omega) (by omega) (by omega) (by omega) (by omega) (by omega)]
  omega
theorem valN_lt8 (l : List UInt8) (h : l.length ≤ 8) : valN l ≤ 18446744073709551615 := by
  have h1 := valN_lt l
  have h2 : 256 ^ l.length ≤ 256 ^ 8 := Nat.pow_le_pow_right (by omega) h
  omega

/-- what is answered of a number that was read -/
def readOf (m : Nat) : Value := if 9223372036854775807 < m then .tuple #[.int .i64 0, .int .i64 3] else .tuple #[.int .i64 m, .int .i64 0]
theorem readOf_big {m : Nat} (h : 9223372036854775807 < m) : readOf m = .tuple #[.int .i64 0, .int .i64 3] := by rw [readOf, if_pos h]
theorem readOf_small {m : Nat} (h : ¬ 9223372036854775807 < m) : readOf m = .tuple #[.int .i64 m, .int .i64 0] := by rw [readOf, if_neg h]

set_option maxHeartbeats 1000000 in
theorem read_any (s : ByteArray) (w : World) (hs : s.size ≤ 8) :
    Calls Tryz.prog 123 #[.string s] w fun e w' => e = .returned (readOf (valN s.data.toList)) ∧ w' = w := by
  have hv := valN_lt8 s.data.toList hs
  go_enter Tryz.func123, Tryz.ntmps123
  go_wp2
  go_loop [4, 11] (fun n i => ∃ k : Nat, k ≤ s.size ∧ i = .int .i64 k ∧ n = .int .u64 (valN (s.data.toList.take k))) (fun _ i => s.size - (intOf i).toNat)
  case atStart => exact ⟨0, Nat.zero_le _, rfl, rfl⟩
  case round =>
    obtain ⟨k, hk, rfl, rfl⟩ := hrel
    by_cases hlt : k < s.size
    · have hsn := valN_snoc (s.data.toList.take k) s[k]
      rw [← take_snoc s k hlt] at hsn
      have hle := valN_take_le s.data.toList (k + 1)
      obtain ⟨m, hm⟩ : ∃ m, m = valN (s.data.toList.take k) := ⟨_, rfl⟩
      rw [← hm] at hsn ⊢
      have hmb : (m : Int) * 256 + (s[k].toNat : Int) ≤ 18446744073709551615 := by omega
      have HS : Hid (valN (s.data.toList.take (k + 1)) = m * 256 + s[k].toNat) := hsn
      clear hsn hle hm hv
      go_wp2
      go_round
      case rel => exact ⟨k + 1, by omega, by go_num, by rw [HS.out, or_u64 m _ (s[k].toNat_lt) hmb]⟩
      case measure => simp [intOf]; omega
    · obtain ⟨m, hm⟩ : ∃ m, m = valN s.data.toList := ⟨_, rfl⟩
      rw [List.take_of_length_le (by simp; omega), ← hm]
      rw [← hm] at hv
      have HM : Hid (m = valN s.data.toList) := hm
      clear hm
      by_cases hc : 9223372036854775807 < m
      · go_wp2
        go_ret2
        exact ⟨by rw [← HM.out, readOf_big hc]; rfl, rfl⟩
      · go_wp2
        go_ret2
        exact ⟨by rw [← HM.out, readOf_small hc]; rfl, rfl⟩
theorem read_long (s : ByteArray) (w : World) (hs : 8 < s.size) (hm : s.size ≤ maxLen) :
    Calls Tryz.prog 123 #[.string s] w fun e w' => e = .returned (.tuple #[.int .i64 0, .int .i64 2]) ∧ w' = w := by
  unfold maxLen at hm
  go_enter Tryz.func123, Tryz.ntmps123
  go_wp2
  go_ret2
  exact ⟨rfl, rfl⟩
theorem valN_cons (b : UInt8) (l : List UInt8) : valN (b :: l) = b.toNat * 256 ^ l.length + valN l := by
  have h : ∀ (l : List UInt8) (a : Nat), l.foldl (fun n b => n * 256 + b.toNat) a = a * 256 ^ l.length + l.foldl (fun n b => n * 256 + b.toNat) 0 := by
    intro l
    induction l with
    | nil => intro a; simp
    | cons b l ih =>
      intro a
      rw [List.foldl_cons, List.foldl_cons, List.length_cons, ih (a * 256 + b.toNat), ih (0 * 256 + b.toNat), Nat.pow_succ, Nat.add_mul]
      rw [show a * 256 * 256 ^ l.length = a * (256 ^ l.length * 256) by rw [Nat.mul_assoc, Nat.mul_comm 256], Nat.zero_mul, Nat.zero_add, Nat.add_assoc]
  show (b :: l).foldl _ 0 = _
  rw [List.foldl_cons, h]
  simp [valN]
theorem valN_eight (s : ByteArray) (h8 : s.size = 8) : 9223372036854775807 < valN s.data.toList ↔ 128 ≤ (s[0]'(by omega)).toNat := by
  match hl : s.data.toList with
  | [] => have : s.data.toList.length = 8 := by simpa using h8
          rw [hl] at this; simp at this
  | b :: l =>
    have hlen : s.data.toList.length = 8 := by simpa using h8
    have hb : s[0]'(by omega) = b := by
      have : s.data.toList[0]'(by omega) = b := by simp [hl]
      rw [← this]; rfl
    rw [hb, valN_cons]
    have hl7 : l.length = 7 := by rw [hl] at hlen; simpa using hlen
    have h1 := valN_lt l
    rw [hl7] at h1 ⊢
    omega
theorem value_eight (s : ByteArray) (w : World) (hs : s.size ≤ 8) (hv : ¬ 9223372036854775807 < valN s.data.toList) :
    Calls Tryz.prog 64 #[.string s] w fun e w' => e = .returned (.int .i64 (valN s.data.toList)) ∧ w' = w := value_any s w hs (by omega)


end Go.Proofs.YtfpglpefofcdeaaGreatDoor
namespace Go.Proofs.YtfpglpefofcdeaaGreatDoor
open Go.RowKit
set_option linter.unusedVariables false

abbrev numOk (n k : Int) : Prop := 1 ≤ k ∧ k ≤ 8 ∧ 0 ≤ n ∧ n < 256 ^ k.toNat
/-- what is answered: the text -/
def numS (n k : Int) : ByteArray := if numOk n k then strOfNums (bigL n.toNat k.toNat) else ⟨#[]⟩
/-- and the error -/
def numE (n k : Int) : Int := if numOk n k then 0 else 3
theorem numS_yes {n k : Int} (h : numOk n k) : numS n k = strOfNums (bigL n.toNat k.toNat) := by rw [numS, if_pos h]
theorem numS_no {n k : Int} (h : ¬ numOk n k) : numS n k = ⟨#[]⟩ := by rw [numS, if_neg h]
theorem numE_yes {n k : Int} (h : numOk n k) : numE n k = 0 := by rw [numE, if_pos h]
theorem numE_no {n k : Int} (h : ¬ numOk n k) : numE n k = 3 := by rw [numE, if_neg h]

theorem num_cases (n k : Int) : (k < 1 ∨ 8 < k) ∨ (1 ≤ k ∧ k ≤ 8 ∧ n < 0) ∨ ∃ n' k' : Nat, n = n' ∧ k = k' ∧ 1 ≤ k' ∧ k' ≤ 8 := by
  by_cases h1 : k < 1 ∨ 8 < k
  · exact .inl h1
  · by_cases h2 : n < 0
    · exact .inr (.inl ⟨by omega, by omega, h2⟩)
    · exact .inr (.inr ⟨n.toNat, k.toNat, by omega, by omega, by omega, by omega⟩)
theorem numOk_nat (n k : Nat) (h1 : 1 ≤ k) (h8 : k ≤ 8) : numOk n k ↔ n < 256 ^ k := by
  have e : ((n : Int) < 256 ^ ((k : Int)).toNat) ↔ n < 256 ^ k := by
    rw [Int.toNat_natCast, show ((256 : Int) ^ k) = ((256 ^ k : Nat) : Int) by simp]
    omega
  constructor
  · intro h
    exact e.1 h.2.2.2
  · intro h
    exact ⟨by omega, by omega, by omega, e.2 h⟩

theorem number_all (n k : Int) (w : World) (hn : n ≤ 9223372036854775807) :
    Calls Tryz.prog 52 #[.int .i64 n, .int .i64 k] w fun e w' => e = .returned (.tuple #[.string (numS n k), .int .i64 (numE n k)]) ∧ Below w.heap.size w w' := by
  rcases num_cases n k with h | ⟨h1, h8, h⟩ | ⟨n', k', rfl, rfl, h1, h8⟩
  · rw [numS_no (by rintro ⟨_, _, _, _⟩; omega), numE_no (by rintro ⟨_, _, _, _⟩; omega)]
    exact (number_no1 n k w h).mono fun e w' ⟨he, hw⟩ => ⟨he, by rw [hw]; exact Below.refl _ _⟩
  · rw [numS_no (by rintro ⟨_, _, _, _⟩; omega), numE_no (by rintro ⟨_, _, _, _⟩; omega)]
    exact (number_no2 n k w h1 h8 h).mono fun e w' ⟨he, hw⟩ => ⟨he, by rw [hw]; exact Below.refl _ _⟩
  · by_cases hf : n' < 256 ^ k'
    · rw [numS_yes ((numOk_nat n' k' h1 h8).2 hf), numE_yes ((numOk_nat n' k' h1 h8).2 hf)]
      exact number_any n' k' w h1 h8 (by omega) hf
    · rw [numS_no (fun h => hf ((numOk_nat n' k' h1 h8).1 h)), numE_no (fun h => hf ((numOk_nat n' k' h1 h8).1 h))]
      exact (number_no3 n' k' w h1 h8 (by omega) (by omega)).mono fun e w' ⟨he, hw⟩ => ⟨he, by rw [hw]; exact Below.refl _ _⟩

/-- what is read, and the error -/
def readV (s : ByteArray) : Int := if 8 < s.size then 0 else if 9223372036854775807 < valN s.data.toList then 0 else valN s.data.toList
def readE (s : ByteArray) : Int := if 8 < s.size then 2 else if 9223372036854775807 < valN s.data.toList then 3 else 0
theorem readOf_pair (s : ByteArray) (h : s.size ≤ 8) : readOf (valN s.data.toList) = .tuple #[.int .i64 (readV s), .int .i64 (readE s)] := by
  have h8 : ¬ 8 < s.size := by omega
  unfold readV readE
  rw [if_neg h8, if_neg h8]
  by_cases hc : 9223372036854775807 < valN s.data.toList
  · rw [readOf_big hc, if_pos hc, if_pos hc]
  · rw [readOf_small hc, if_neg hc, if_neg hc]
theorem read_all (s : ByteArray) (w : World) (hm : s.size ≤ maxLen) :
    Calls Tryz.prog 123 #[.string s] w fun e w' => e = .returned (.tuple #[.int .i64 (readV s), .int .i64 (readE s)]) ∧ w' = w := by
  by_cases h : 8 < s.size
  · unfold readV readE
    rw [if_pos h, if_pos h]
    exact read_long s w h hm
  · rw [← readOf_pair s (by omega)]
    exact read_any s w (by omega)

theorem valN_big (n k : Nat) : valN ((bigL n k).map fun z => UInt8.ofNat z.toNat) = n % 256 ^ k := by
  induction k with
  | zero => simp [bigL, valN, Nat.mod_one]
  | succ k ih =>
    simp only [bigL, List.map_cons]
    rw [valN_cons, ih, List.length_map, bigL_length]
    have e : (UInt8.ofNat (((n / 256 ^ k % 256 : Nat) : Int)).toNat).toNat = n / 256 ^ k % 256 := by
      rw [Int.toNat_natCast, UInt8.toNat_ofNat']
      omega
    rw [e, Nat.pow_succ, Nat.mod_mul, Nat.mul_comm, Nat.add_comm]
theorem read_num (n k : Int) (hn : n ≤ 9223372036854775807) (h : numOk n k) : readV (numS n k) = n ∧ readE (numS n k) = 0 := by
  rw [numS_yes h]
  obtain ⟨h1, h8, h0, hf⟩ := h
  obtain ⟨n', rfl⟩ := Int.eq_ofNat_of_zero_le h0
  obtain ⟨k', rfl⟩ := Int.eq_ofNat_of_zero_le (show 0 ≤ k by omega)
  have hf' : n' < 256 ^ k' := ((numOk_nat n' k' (by omega) (by omega)).1 ⟨h1, h8, h0, hf⟩)
  have hs : (strOfNums (bigL n' k')).size = k' := by rw [strOfNums_size, bigL_length]
  have hv : valN (strOfNums (bigL n' k')).data.toList = n' := by rw [strOfNums_data, valN_big, Nat.mod_eq_of_lt hf']
  simp only [Int.toNat_natCast]
  have c1 : ¬ 8 < (strOfNums (bigL n' k')).size := by omega
  have c2 : ¬ 9223372036854775807 < valN (strOfNums (bigL n' k')).data.toList := by omega
  unfold readV readE
  rw [if_neg c1, if_neg c1, if_neg c2, if_neg c2, hv]
  exact ⟨rfl, rfl⟩
theorem numS_size (n k : Int) : (numS n k).size ≤ 8 := by
  by_cases h : numOk n k
  · rw [numS_yes h, strOfNums_size, bigL_length]
    have := h.2.1
    omega
  · rw [numS_no h]
    show (0 : Nat) ≤ 8
    omega
end Go.Proofs.YtfpglpefofcdeaaGreatDoor
