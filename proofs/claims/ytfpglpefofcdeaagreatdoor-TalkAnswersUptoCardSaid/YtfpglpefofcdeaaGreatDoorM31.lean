/- The reference's Row. -/
import Derived.Test.YtfpglpefofcdeaaGreatDoorM10
import Derived.Test.YtfpglpefofcdeaaGreatDoorM02
import Derived.Test.YtfpglpefofcdeaaGreatDoorM00
import Derived.Deep.RegionHeld3
namespace Go.Proofs.YtfpglpefofcdeaaGreatDoor
open Go.RowKit
set_option linter.unusedVariables false

theorem rowS_nil : rowS [] = ⟨#[]⟩ := rfl
theorem rowS_take (fs : List ByteArray) (k : Nat) (s : ByteArray) (h : fs[k]? = some s) : rowS (fs.take (k + 1)) = rowS (fs.take k) ++ (strOfNums (bigL s.size 4) ++ s) := by
  apply ByteArray.ext
  apply Array.toList_inj.1
  rw [rowS_data, ByteArray.data_append, Array.toList_append, rowS_data, ByteArray.data_append, Array.toList_append, strOfNums_data, List.take_add_one, h, rowL_append]
  simp [rowL, partL, bytesOf]
theorem rowN_takeR (fs : List ByteArray) (k : Nat) : rowN (fs.take k) ≤ rowN fs := by
  rw [← rowL_length, ← rowL_length]
  conv => rhs; rw [← List.take_append_drop k fs]
  rw [rowL_append, List.length_append]
  omega

set_option maxHeartbeats 2000000 in
set_option maxRecDepth 100000 in
theorem rrow_any (fs : List ByteArray) (ao : Option Addr) (cap : Nat) (w : World) (hr : TRow w ao fs) (hn : (rowN fs : Int) ≤ 1099511627776) (hl : (fs.length : Int) ≤ 1099511627776) :
    Calls Tryz.prog 43 #[.slice ao fs.length cap] w fun e w' => e = .returned (.string (rowS fs)) ∧ Below w.heap.size w w' := by
  have HR := hide hr
  have HN := hide hn
  clear hr hn
  go_enter Tryz.func43, Tryz.ntmps43
  go_wp2
  go_loopw [3, 4] (fun s i wr => ∃ k : Nat, k ≤ fs.length ∧ i = .int .i64 k ∧ s = .string (rowS (fs.take k)) ∧ Below w.heap.size w wr) (fun _ i _ => fs.length - (intOf i).toNat)
  case atStart => exact ⟨0, Nat.zero_le _, rfl, rfl, Below.refl _ _⟩
  case round =>
    obtain ⟨k, hk, rfl, rfl, hbel⟩ := hrel
    by_cases hlt : k < fs.length
    · obtain ⟨s, hs⟩ : ∃ s, fs[k]? = some s := ⟨fs[k], List.getElem?_eq_getElem hlt⟩
      rcases (unhide HR) with hnil | ⟨b, off, rfl, hb, hc⟩
      · rw [hnil] at hlt; simp at hlt
      have hstep := rowS_take fs k s hs
      have hz1 : (rowS (fs.take (k + 1))).size ≤ rowN fs := by rw [rowS_size]; exact rowN_takeR fs (k + 1)
      have hz0 : (rowS (fs.take k)).size + (4 + s.size) ≤ rowN fs := by
        rw [hstep, ByteArray.size_append, ByteArray.size_append, strOfNums_size, bigL_length] at hz1
        exact hz1
      have hsb : (s.size : Int) ≤ 1099511627776 := by have := unhide HN; omega
      have hS : ((rowS (fs.take k)).size : Int) + (4 + (s.size : Int)) ≤ 1099511627776 := by have := unhide HN; omega
      have B0 := hide (fun w => big_any s.size 4 w (by decide) (by omega))
      have h4 : (strOfNums (bigL s.size 4)).size = 4 := by rw [strOfNums_size, bigL_length]
      generalize strOfNums (bigL s.size 4) = S4 at *
      have hbw : b < wr.heap.size := Nat.lt_of_lt_of_le hb hbel.size
      have hcw : wr.cell? ⟨b, off + k, none⟩ = some (.string s) := (hbel.cell (p := ⟨b, off + k, none⟩) hb).trans (hc k s hs)
      have C0 := hide (fun w1 (hw : Below wr.heap.size wr w1) => (hw.cell (p := ⟨b, off + k, none⟩) hbw).trans hcw)
      have HST := hide hstep
      have HW := hide hbel
      have hki : (k : Int) < (fs.length : Int) := by omega
      have hS1 : (S4 ++ s).size = 4 + s.size := by rw [ByteArray.size_append, h4]
      generalize rowS (fs.take k) = S at *
      have ha1 := fun w' => run_string_add_sum (P := Tryz.prog) w' S4 s (by omega)
      have ha2 := fun w' => run_string_add_sum (P := Tryz.prog) w' S (S4 ++ s) (by rw [hS1]; omega)
      clear hstep hz0 hz1 hbel hc hcw hs
      go_wp2_with fail
      refine wp_region_below wr (Below.refl _ _) (by kernel_rfl) (by kernel_rfl) ?_
      repeat (
        refine Quietly.step (fun K hK => ?_)
        go_simp
        first
          | (refine hK _ ?_; clear hK K)
          | (apply Exists.intro
             refine ⟨fun w1 hw1 => ?_, hK _ ?_⟩
             (first | rfl | (rw [unhide C0 w1 hw1]; exact ⟨rfl, rfl⟩) | (go_at_call 22; exact calls_below hw1 (unhide B0 _)))
             clear hK K))
      refine Quietly.nil ?_
      intro w2 hw2
      go_wp2
      go_roundw
      case rel => exact ⟨k + 1, by omega, by go_num, by rw [unhide HST], (unhide HW).trans (hw2.mono (unhide HW).size)⟩
      case measure => simp [intOf]; omega
    · rw [List.take_of_length_le (by omega)]
      go_wp2
      go_ret
      exact ⟨rfl, hbel⟩
end Go.Proofs.YtfpglpefofcdeaaGreatDoor
namespace Go.Proofs.YtfpglpefofcdeaaGreatDoor
open Go.RowKit
set_option linter.unusedVariables false

/-- the bits that are found of ways: an unknown one, none that goes well -/
def wBits (u n : Bool) : Int := (bif u then 2 else 0) + (bif n then 1 else 0)
/-- the way through the ways: from which one on, the last that was gone, whether one was unknown -/
def walkL (v : XWays) (s : XScene) : List XWay → Int → Bool → Int × Bool × Int
  | [], last, u => (last, false, wBits u true)
  | x :: r, last, u =>
    bif appB x v s then
      (bif wellB x.code s then (x.code, true, wBits (u || decide (5 < x.code)) false)
       else bif x.next then walkL v s r x.code (u || decide (5 < x.code)) else (x.code, false, wBits (u || decide (5 < x.code)) true))
    else walkL v s r last u
/-- what is wrong -/
def walkE (v : XWays) (s : XScene) : Int := if waysE v = 0 then (if 0 ≤ s.amount ∧ s.amount ≤ 999999999999 then 0 else 3) else waysE v
def walkA (v : XWays) (s : XScene) : Int × Bool × Int := if walkE v s = 0 then walkL v s v.list (-1) false else (0, false, 0)
def valWalked (a : Int × Bool × Int) : Value := .agg #[.int .i64 a.1, .bool a.2.1, .int .i64 a.2.2]

theorem wBits_or2 (u : Bool) : bits .or .i64 (wBits u false) 2 = wBits true false := by cases u <;> decide
theorem wBits_or1 (u : Bool) : bits .or .i64 (wBits u false) 1 = wBits u true := by cases u <;> decide

theorem heap_at (w : World) (o : Obj) (n : Nat) (h : n = w.heap.size) : (w.alloc o).heap[n]? = some o := by
  subst h
  show (w.heap.push o)[w.heap.size]? = some o
  simp
theorem heap_past (w : World) (o : Obj) (n : Nat) (h : n < w.heap.size) : (w.alloc o).heap[n]? = w.heap[n]? := by
  show (w.heap.push o)[n]? = _
  rw [Array.getElem?_push, if_neg (by omega)]



end Go.Proofs.YtfpglpefofcdeaaGreatDoor
namespace Go.Proofs.YtfpglpefofcdeaaGreatDoor
open Go.RowKit
set_option linter.unusedVariables false


set_option maxHeartbeats 2000000 in
theorem rways_any (v : XWays) (w : World) (hr : RowWay w v.listo v.list) :
    Calls Tryz.prog 40 #[valWays v] w fun e w' => e = .returned (.int .i64 (waysE v)) ∧ Below w.heap.size w w' := by
  obtain ⟨vx, vy, vo, vl, vc⟩ := v
  have n1 := fun w => ramount_any vx w
  have n2 := fun w => ramount_any vy w
  have el := @waysE_long ⟨vx, vy, vo, vl, vc⟩
  have eo := @waysE_ok ⟨vx, vy, vo, vl, vc⟩
  have en := @waysE_no ⟨vx, vy, vo, vl, vc⟩
  have hbx := fun o : Obj => (Below.refl w.heap.size w).alloc (Nat.le_refl _) o
  unfold valWays
  simp only at *
  generalize waysE ⟨vx, vy, vo, vl, vc⟩ = E at *
  by_cases hl : 20 < vl.length
  · have HE := hide (el hl)
    have HB := hide hbx
    clear n1 n2 el eo en hbx hr
    go_enter Tryz.func40, Tryz.ntmps40
    go_wp2
    go_ret
    exact ⟨ret_int (unhide HE).symm, unhide HB _⟩
  · clear el
    have hl' : vl.length ≤ 20 := by omega
    have he : ∀ q : Bool, q = (decide (0 ≤ vx ∧ vx ≤ 999999999999) && decide (0 ≤ vy ∧ vy ≤ 999999999999) && !(vl.any (fun x => !inBw x))) → E = bif q then 0 else 3 := fun q hq => by
      subst hq
      by_cases hx : 0 ≤ vx ∧ vx ≤ 999999999999
      · by_cases hy : 0 ≤ vy ∧ vy ≤ 999999999999
        · cases hz : vl.any (fun x => !inBw x) with
          | true => rw [en hl' (fun hh => by rw [hz] at hh; cases hh.2)]; simp
          | false => rw [eo hl' hx hy hz, decide_eq_true hx, decide_eq_true hy]; rfl
        · rw [en hl' (fun hh => hy hh.1.2), decide_eq_false hy]; simp
      · rw [en hl' (fun hh => hx hh.1.1), decide_eq_false hx]; simp
    have HE := hide he
    clear eo en he
    generalize decide (0 ≤ vx ∧ vx ≤ 999999999999) = q1 at *
    generalize decide (0 ≤ vy ∧ vy ≤ 999999999999) = q2 at *
    have N1 := hide n1; have N2 := hide n2
    have HB := hide hbx
    have HR := hide hr
    clear n1 n2 hbx hr
    have hcase : (q1 = false) ∨ (q1 = true ∧ q2 = false) ∨ (q1 = true ∧ q2 = true) := by cases q1 <;> cases q2 <;> simp
    have hok : ∃ q, q = (q1 && q2) := ⟨_, rfl⟩
    obtain ⟨q, hq⟩ := hok
    rw [← hq] at HE
    have HQ := hide hq
    clear hq
    rcases hcase with rfl | ⟨rfl, rfl⟩ | ⟨rfl, rfl⟩ <;>
    · go_enter Tryz.func40, Tryz.ntmps40
      go_wp2_with (first | (go_at_call_of 77 (Value.int .i64 vx); refine (unhide N1 _).mono ?_; rintro e w1 ⟨rfl, hw1⟩; subst hw1) | (go_at_call_of 77 (Value.int .i64 vy); refine (unhide N2 _).mono ?_; rintro e w1 ⟨rfl, hw1⟩; subst hw1))
      go_loopw [3, 21] (fun ov iv wr => ∃ k : Nat, k ≤ vl.length ∧ iv = .int .i64 k ∧ ov = .bool (q && !((vl.take k).any (fun x => !inBw x))) ∧ Below w.heap.size w wr) (fun _ i _ => vl.length - (intOf i).toNat)
      case atStart => exact ⟨0, Nat.zero_le _, rfl, by rw [unhide HQ]; simp, unhide HB _⟩
      case round =>
        obtain ⟨k, hk, rfl, rfl, hbw⟩ := hrel
        by_cases hlt : k < vl.length
        · obtain ⟨x, hx⟩ : ∃ x, vl[k]? = some x := ⟨_, List.getElem?_eq_getElem hlt⟩
          have hstep : (q && !((vl.take (k + 1)).any (fun x => !inBw x))) = ((q && !((vl.take k).any (fun x => !inBw x))) && inBw x) := by
            rw [anyW_take_succ vl _ k x hx]
            generalize (vl.take k).any (fun x => !inBw x) = t
            cases q <;> cases t <;> cases inBw x <;> rfl
          obtain ⟨hrr, _, _⟩ := (unhide HR).below hbw
          rcases hrr with hnil | ⟨b, off, rfl, hb, hc⟩
          · rw [hnil] at hlt; simp at hlt
          obtain ⟨d0, d1, d2⟩ := hc k x hx
          generalize (q && !((vl.take k).any (fun x => !inBw x))) = o at *
          generalize hn : (q && !((vl.take (k + 1)).any (fun x => !inBw x))) = o' at *
          have HN := hide hn
          have hal := fun o : Obj => hbw.alloc hbw.size o
          have HAL := hide hal
          clear hn hc hx hal hbw
          cases o with
          | false =>
            have HO : Hid (o' = false) := hide (by rw [hstep, Bool.false_and])
            clear hstep
            go_wp2
            go_roundw
            case rel => exact ⟨k + 1, by omega, by go_num, by rw [unhide HN, unhide HO], unhide HAL _⟩
            case measure => simp [intOf]; omega
          | true =>
            rw [Bool.true_and] at hstep
            have hcase : x.code < 0 ∨ (0 ≤ x.code ∧ 64 ≤ x.code) ∨ (0 ≤ x.code ∧ x.code < 64 ∧ x.when < 0) ∨ (0 ≤ x.code ∧ x.code < 64 ∧ 0 ≤ x.when ∧ 8 ≤ x.when) ∨ (0 ≤ x.code ∧ x.code < 64 ∧ 0 ≤ x.when ∧ x.when < 8) := by omega
            have hin : o' = decide ((0 ≤ x.code ∧ x.code ≤ 63) ∧ (0 ≤ x.when ∧ x.when ≤ 7)) := hstep
            rcases hcase with h1 | ⟨h1, h2⟩ | ⟨h1, h2, h3⟩ | ⟨h1, h2, h3, h4⟩ | ⟨h1, h2, h3, h4⟩
            case inr.inr.inr.inr =>
              have HO : Hid (o' = true) := hide (by rw [hin]; exact decide_eq_true (by omega))
              clear hstep hin
              go_wp2
              go_roundw
              case rel => exact ⟨k + 1, by omega, by go_num, by rw [unhide HN, unhide HO], unhide HAL _⟩
              case measure => simp [intOf]; omega
            all_goals
              have HO : Hid (o' = false) := hide (by rw [hin]; exact decide_eq_false (by omega))
              clear hstep hin
              go_wp2
              go_roundw
              case rel => exact ⟨k + 1, by omega, by go_num, by rw [unhide HN, unhide HO] <;> (congr 1; exact decide_eq_false (by omega)), unhide HAL _⟩
              case measure => simp [intOf]; omega
        · have hkl : vl.take k = vl := List.take_of_length_le (by omega)
          rw [hkl]
          clear hkl
          have hE := unhide HE _ rfl
          generalize (q && !(vl.any (fun x => !inBw x))) = o at *
          have HE2 := hide hE
          clear hE
          cases o <;>
          · go_wp2
            go_ret
            exact ⟨ret_int (unhide HE2).symm, hbw⟩
end Go.Proofs.YtfpglpefofcdeaaGreatDoor
