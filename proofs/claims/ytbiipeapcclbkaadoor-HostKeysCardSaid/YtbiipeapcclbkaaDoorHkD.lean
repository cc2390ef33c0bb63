/- host's checkPlan. -/
import Derived.Test.YtbiipeapcclbkaaDoorHkA
import Derived.Test.YtbiipeapcclbkaaDoorShHk
namespace Go.Proofs.YtbiipeapcclbkaaDoor
open Go.RowKit
set_option linter.unusedVariables false

def noKeyM (x : XMst) : Bool := decide (x.key.size ≠ 16)
def noKeyL (x : XLnk) : Bool := decide (x.key.size ≠ 16)
def noVer (x : XMst) : Bool := !inB x.version 0 255
def noShop (x : XLnk) : Bool := !inB x.shop 0 4294967295
theorem anyQ_take_succ {α : Type} (l : List α) (f : α → Bool) (k : Nat) (y : α) (h : l[k]? = some y) : (l.take (k + 1)).any f = ((l.take k).any f || f y) := by
  rw [List.take_add_one, h, List.any_append]; simp
theorem anyQ_of_take {α : Type} (l : List α) (f : α → Bool) (k : Nat) (h : (l.take k).any f = true) : l.any f = true := by
  rw [List.any_eq_true] at h ⊢
  obtain ⟨x, hx, hf⟩ := h
  exact ⟨x, List.mem_of_mem_take hx, hf⟩
theorem noKeyM_any (x : XMst) (w : World) : Calls Tryd.prog 25 #[valMst x] w fun e w' => e = .returned (.bool (noKeyM x)) ∧ Below w.heap.size w w' := by
  obtain ⟨v, k⟩ := x
  unfold valMst
  have HQ : Hid (noKeyM ⟨v, k⟩ = decide (k.size ≠ 16)) := hide rfl
  have HB := hide ((Below.refl w.heap.size w).alloc (Nat.le_refl _) (.cells #[.int .i64 v, .string k] 52))
  generalize noKeyM ⟨v, k⟩ = q at *
  by_cases h : k.size = 16
  · have hki : (k.size : Int) = 16 := by omega
    have HF : Hid (q = false) := hide ((unhide HQ).trans (decide_eq_false (fun e => e h)))
    clear h
    go_enter Tryd.func25, Tryd.ntmps25
    go_wp2
    go_ret
    exact ⟨ret_bool (unhide HF).symm, unhide HB⟩
  · have hki : ((k.size : Int) != 16) = true := by simpa using (show ¬ (k.size : Int) = 16 by omega)
    have HF : Hid (q = true) := hide ((unhide HQ).trans (decide_eq_true h))
    clear h
    go_enter Tryd.func25, Tryd.ntmps25
    go_wp2
    go_ret
    exact ⟨ret_bool (unhide HF).symm, unhide HB⟩
theorem noKeyL_any (x : XLnk) (w : World) : Calls Tryd.prog 26 #[valLnk x] w fun e w' => e = .returned (.bool (noKeyL x)) ∧ Below w.heap.size w w' := by
  obtain ⟨v, k⟩ := x
  unfold valLnk
  have HQ : Hid (noKeyL ⟨v, k⟩ = decide (k.size ≠ 16)) := hide rfl
  have HB := hide ((Below.refl w.heap.size w).alloc (Nat.le_refl _) (.cells #[.int .i64 v, .string k] 54))
  generalize noKeyL ⟨v, k⟩ = q at *
  by_cases h : k.size = 16
  · have hki : (k.size : Int) = 16 := by omega
    have HF : Hid (q = false) := hide ((unhide HQ).trans (decide_eq_false (fun e => e h)))
    clear h
    go_enter Tryd.func26, Tryd.ntmps26
    go_wp2
    go_ret
    exact ⟨ret_bool (unhide HF).symm, unhide HB⟩
  · have hki : ((k.size : Int) != 16) = true := by simpa using (show ¬ (k.size : Int) = 16 by omega)
    have HF : Hid (q = true) := hide ((unhide HQ).trans (decide_eq_true h))
    clear h
    go_enter Tryd.func26, Tryd.ntmps26
    go_wp2
    go_ret
    exact ⟨ret_bool (unhide HF).symm, unhide HB⟩
theorem noVer_any (x : XMst) (w : World) : Calls Tryd.prog 27 #[valMst x] w fun e w' => e = .returned (.bool (noVer x)) ∧ Below w.heap.size w w' := by
  obtain ⟨v, k⟩ := x
  unfold valMst noVer
  dsimp only
  have HB := hide ((Below.refl w.heap.size w).alloc (Nat.le_refl _) (.cells #[.int .i64 v, .string k] 52))
  have N0 := hide (fun w' => hwithin_any v 0 255 w')
  generalize inB v 0 255 = q at *
  go_enter Tryd.func27, Tryd.ntmps27
  go_wp2_with fail
  refine (unhide N0 _).mono ?_
  rintro e w1 ⟨rfl, hw1⟩
  have hw2 := hw1.symm
  subst hw2
  go_wp2
  go_ret
  exact ⟨rfl, unhide HB⟩
theorem noShop_any (x : XLnk) (w : World) : Calls Tryd.prog 28 #[valLnk x] w fun e w' => e = .returned (.bool (noShop x)) ∧ Below w.heap.size w w' := by
  obtain ⟨v, k⟩ := x
  unfold valLnk noShop
  dsimp only
  have HB := hide ((Below.refl w.heap.size w).alloc (Nat.le_refl _) (.cells #[.int .i64 v, .string k] 54))
  have N0 := hide (fun w' => hwithin_any v 0 4294967295 w')
  generalize inB v 0 4294967295 = q at *
  go_enter Tryd.func28, Tryd.ntmps28
  go_wp2_with fail
  refine (unhide N0 _).mono ?_
  rintro e w1 ⟨rfl, hw1⟩
  have hw2 := hw1.symm
  subst hw2
  go_wp2
  go_ret
  exact ⟨rfl, unhide HB⟩


set_option maxHeartbeats 1000000 in
theorem indexKm_any (l : List XMst) (ao : Option Addr) (cap : Nat) (w : World) (hr : RowMst w ao l) :
    Calls Tryd.prog 52 #[.slice ao l.length cap, .func (.func 25) #[] #[]] w fun e w' => (∃ v : Int, e = .returned (.int .i64 v) ∧ decide (0 ≤ v) = l.any noKeyM) ∧ Below w.heap.size w w' := by
  obtain ⟨hr, _, hm⟩ := hr
  go_enter Tryd.func52, Tryd.ntmps52
  go_wp2
  go_loopw [8] (fun i wr => ∃ k : Nat, k ≤ l.length ∧ i = .int .i64 k ∧ Hid ((l.take k).any noKeyM = false) ∧ Below w.heap.size w wr) (fun i _ => l.length - (intOf i).toNat)
  case atStart => exact ⟨0, Nat.zero_le _, rfl, hide (by simp), Below.refl _ _⟩
  case round =>
    obtain ⟨k, hk, rfl, HA, hbw⟩ := hrel
    by_cases hlt : k < l.length
    · obtain ⟨y, hy⟩ : ∃ y, l[k]? = some y := ⟨_, List.getElem?_eq_getElem hlt⟩
      rcases hr with hnil | ⟨b, off, rfl, hb, hc⟩
      · rw [hnil] at hlt; simp at hlt
      obtain ⟨c0, c1⟩ := hc k y hy
      have d0 : wr.cell? ⟨b, off + k * 2, none⟩ = _ := (hbw.cell (p := ⟨b, off + k * 2, none⟩) hb).trans c0
      have d1 : wr.cell? ⟨b, off + k * 2 + 1, none⟩ = _ := (hbw.cell (p := ⟨b, off + k * 2 + 1, none⟩) hb).trans c1
      have hs := anyQ_take_succ l noKeyM k y hy
      rw [unhide HA, Bool.false_or] at hs
      have hml : l.length ≤ 9223372036854775807 := by simpa [maxLen] using hm
      have n1 := noKeyM_any y wr
      clear hc hm c0 c1
      unfold valMst at n1
      cases he : noKeyM y with
      | true =>
        have HF := hide (anyQ_of_take l noKeyM (k + 1) (hs.trans he))
        rw [he] at n1
        have N1 := hide n1
        clear hs hy n1 he
        go_wp2_with fail
        refine (unhide N1).mono ?_
        rintro e w1 ⟨rfl, hb1⟩
        go_wp2
        go_ret
        exact ⟨⟨_, rfl, by rw [unhide HF]; simp⟩, hbw.trans (hb1.mono hbw.size)⟩
      | false =>
        have HS : Hid ((l.take (k + 1)).any noKeyM = false) := hide (hs.trans he)
        rw [he] at n1
        have N1 := hide n1
        clear hs hy n1 he
        go_wp2_with fail
        refine (unhide N1).mono ?_
        rintro e w1 ⟨rfl, hb1⟩
        go_wp2
        go_roundw
        case rel => exact ⟨k + 1, by omega, by go_num, HS, hbw.trans (hb1.mono hbw.size)⟩
        case measure => simp [intOf]; omega
    · have HF : Hid (l.any noKeyM = false) := hide (by have := unhide HA; rw [List.take_of_length_le (by omega)] at this; exact this)
      go_wp2
      go_ret
      exact ⟨⟨_, rfl, by rw [unhide HF]; rfl⟩, hbw⟩
theorem containsKm_any (l : List XMst) (ao : Option Addr) (cap : Nat) (w : World) (hr : RowMst w ao l) :
    Calls Tryd.prog 29 #[.slice ao l.length cap, .func (.func 25) #[] #[]] w fun e w' => e = .returned (.bool (l.any noKeyM)) ∧ Below w.heap.size w w' := by
  have N1 := hide (indexKm_any l ao cap w hr)
  clear hr
  generalize l.any noKeyM = q at *
  go_enter Tryd.func29, Tryd.ntmps29
  go_wp2_with fail
  refine (unhide N1).mono ?_
  rintro e w1 ⟨⟨v, rfl, hv⟩, hb1⟩
  have HV := hide hv
  clear hv
  go_wp2
  go_ret
  exact ⟨ret_bool (unhide HV), hb1⟩
set_option maxHeartbeats 1000000 in
theorem indexKl_any (l : List XLnk) (ao : Option Addr) (cap : Nat) (w : World) (hr : RowLnk w ao l) :
    Calls Tryd.prog 53 #[.slice ao l.length cap, .func (.func 26) #[] #[]] w fun e w' => (∃ v : Int, e = .returned (.int .i64 v) ∧ decide (0 ≤ v) = l.any noKeyL) ∧ Below w.heap.size w w' := by
  obtain ⟨hr, _, hm⟩ := hr
  go_enter Tryd.func53, Tryd.ntmps53
  go_wp2
  go_loopw [8] (fun i wr => ∃ k : Nat, k ≤ l.length ∧ i = .int .i64 k ∧ Hid ((l.take k).any noKeyL = false) ∧ Below w.heap.size w wr) (fun i _ => l.length - (intOf i).toNat)
  case atStart => exact ⟨0, Nat.zero_le _, rfl, hide (by simp), Below.refl _ _⟩
  case round =>
    obtain ⟨k, hk, rfl, HA, hbw⟩ := hrel
    by_cases hlt : k < l.length
    · obtain ⟨y, hy⟩ : ∃ y, l[k]? = some y := ⟨_, List.getElem?_eq_getElem hlt⟩
      rcases hr with hnil | ⟨b, off, rfl, hb, hc⟩
      · rw [hnil] at hlt; simp at hlt
      obtain ⟨c0, c1⟩ := hc k y hy
      have d0 : wr.cell? ⟨b, off + k * 2, none⟩ = _ := (hbw.cell (p := ⟨b, off + k * 2, none⟩) hb).trans c0
      have d1 : wr.cell? ⟨b, off + k * 2 + 1, none⟩ = _ := (hbw.cell (p := ⟨b, off + k * 2 + 1, none⟩) hb).trans c1
      have hs := anyQ_take_succ l noKeyL k y hy
      rw [unhide HA, Bool.false_or] at hs
      have hml : l.length ≤ 9223372036854775807 := by simpa [maxLen] using hm
      have n1 := noKeyL_any y wr
      clear hc hm c0 c1
      unfold valLnk at n1
      cases he : noKeyL y with
      | true =>
        have HF := hide (anyQ_of_take l noKeyL (k + 1) (hs.trans he))
        rw [he] at n1
        have N1 := hide n1
        clear hs hy n1 he
        go_wp2_with fail
        refine (unhide N1).mono ?_
        rintro e w1 ⟨rfl, hb1⟩
        go_wp2
        go_ret
        exact ⟨⟨_, rfl, by rw [unhide HF]; simp⟩, hbw.trans (hb1.mono hbw.size)⟩
      | false =>
        have HS : Hid ((l.take (k + 1)).any noKeyL = false) := hide (hs.trans he)
        rw [he] at n1
        have N1 := hide n1
        clear hs hy n1 he
        go_wp2_with fail
        refine (unhide N1).mono ?_
        rintro e w1 ⟨rfl, hb1⟩
        go_wp2
        go_roundw
        case rel => exact ⟨k + 1, by omega, by go_num, HS, hbw.trans (hb1.mono hbw.size)⟩
        case measure => simp [intOf]; omega
    · have HF : Hid (l.any noKeyL = false) := hide (by have := unhide HA; rw [List.take_of_length_le (by omega)] at this; exact this)
      go_wp2
      go_ret
      exact ⟨⟨_, rfl, by rw [unhide HF]; rfl⟩, hbw⟩
theorem containsKl_any (l : List XLnk) (ao : Option Addr) (cap : Nat) (w : World) (hr : RowLnk w ao l) :
    Calls Tryd.prog 30 #[.slice ao l.length cap, .func (.func 26) #[] #[]] w fun e w' => e = .returned (.bool (l.any noKeyL)) ∧ Below w.heap.size w w' := by
  have N1 := hide (indexKl_any l ao cap w hr)
  clear hr
  generalize l.any noKeyL = q at *
  go_enter Tryd.func30, Tryd.ntmps30
  go_wp2_with fail
  refine (unhide N1).mono ?_
  rintro e w1 ⟨⟨v, rfl, hv⟩, hb1⟩
  have HV := hide hv
  clear hv
  go_wp2
  go_ret
  exact ⟨ret_bool (unhide HV), hb1⟩
set_option maxHeartbeats 1000000 in
theorem indexKv_any (l : List XMst) (ao : Option Addr) (cap : Nat) (w : World) (hr : RowMst w ao l) :
    Calls Tryd.prog 52 #[.slice ao l.length cap, .func (.func 27) #[] #[]] w fun e w' => (∃ v : Int, e = .returned (.int .i64 v) ∧ decide (0 ≤ v) = l.any noVer) ∧ Below w.heap.size w w' := by
  obtain ⟨hr, _, hm⟩ := hr
  go_enter Tryd.func52, Tryd.ntmps52
  go_wp2
  go_loopw [8] (fun i wr => ∃ k : Nat, k ≤ l.length ∧ i = .int .i64 k ∧ Hid ((l.take k).any noVer = false) ∧ Below w.heap.size w wr) (fun i _ => l.length - (intOf i).toNat)
  case atStart => exact ⟨0, Nat.zero_le _, rfl, hide (by simp), Below.refl _ _⟩
  case round =>
    obtain ⟨k, hk, rfl, HA, hbw⟩ := hrel
    by_cases hlt : k < l.length
    · obtain ⟨y, hy⟩ : ∃ y, l[k]? = some y := ⟨_, List.getElem?_eq_getElem hlt⟩
      rcases hr with hnil | ⟨b, off, rfl, hb, hc⟩
      · rw [hnil] at hlt; simp at hlt
      obtain ⟨c0, c1⟩ := hc k y hy
      have d0 : wr.cell? ⟨b, off + k * 2, none⟩ = _ := (hbw.cell (p := ⟨b, off + k * 2, none⟩) hb).trans c0
      have d1 : wr.cell? ⟨b, off + k * 2 + 1, none⟩ = _ := (hbw.cell (p := ⟨b, off + k * 2 + 1, none⟩) hb).trans c1
      have hs := anyQ_take_succ l noVer k y hy
      rw [unhide HA, Bool.false_or] at hs
      have hml : l.length ≤ 9223372036854775807 := by simpa [maxLen] using hm
      have n1 := noVer_any y wr
      clear hc hm c0 c1
      unfold valMst at n1
      cases he : noVer y with
      | true =>
        have HF := hide (anyQ_of_take l noVer (k + 1) (hs.trans he))
        rw [he] at n1
        have N1 := hide n1
        clear hs hy n1 he
        go_wp2_with fail
        refine (unhide N1).mono ?_
        rintro e w1 ⟨rfl, hb1⟩
        go_wp2
        go_ret
        exact ⟨⟨_, rfl, by rw [unhide HF]; simp⟩, hbw.trans (hb1.mono hbw.size)⟩
      | false =>
        have HS : Hid ((l.take (k + 1)).any noVer = false) := hide (hs.trans he)
        rw [he] at n1
        have N1 := hide n1
        clear hs hy n1 he
        go_wp2_with fail
        refine (unhide N1).mono ?_
        rintro e w1 ⟨rfl, hb1⟩
        go_wp2
        go_roundw
        case rel => exact ⟨k + 1, by omega, by go_num, HS, hbw.trans (hb1.mono hbw.size)⟩
        case measure => simp [intOf]; omega
    · have HF : Hid (l.any noVer = false) := hide (by have := unhide HA; rw [List.take_of_length_le (by omega)] at this; exact this)
      go_wp2
      go_ret
      exact ⟨⟨_, rfl, by rw [unhide HF]; rfl⟩, hbw⟩
theorem containsKv_any (l : List XMst) (ao : Option Addr) (cap : Nat) (w : World) (hr : RowMst w ao l) :
    Calls Tryd.prog 29 #[.slice ao l.length cap, .func (.func 27) #[] #[]] w fun e w' => e = .returned (.bool (l.any noVer)) ∧ Below w.heap.size w w' := by
  have N1 := hide (indexKv_any l ao cap w hr)
  clear hr
  generalize l.any noVer = q at *
  go_enter Tryd.func29, Tryd.ntmps29
  go_wp2_with fail
  refine (unhide N1).mono ?_
  rintro e w1 ⟨⟨v, rfl, hv⟩, hb1⟩
  have HV := hide hv
  clear hv
  go_wp2
  go_ret
  exact ⟨ret_bool (unhide HV), hb1⟩
set_option maxHeartbeats 1000000 in
theorem indexKs_any (l : List XLnk) (ao : Option Addr) (cap : Nat) (w : World) (hr : RowLnk w ao l) :
    Calls Tryd.prog 53 #[.slice ao l.length cap, .func (.func 28) #[] #[]] w fun e w' => (∃ v : Int, e = .returned (.int .i64 v) ∧ decide (0 ≤ v) = l.any noShop) ∧ Below w.heap.size w w' := by
  obtain ⟨hr, _, hm⟩ := hr
  go_enter Tryd.func53, Tryd.ntmps53
  go_wp2
  go_loopw [8] (fun i wr => ∃ k : Nat, k ≤ l.length ∧ i = .int .i64 k ∧ Hid ((l.take k).any noShop = false) ∧ Below w.heap.size w wr) (fun i _ => l.length - (intOf i).toNat)
  case atStart => exact ⟨0, Nat.zero_le _, rfl, hide (by simp), Below.refl _ _⟩
  case round =>
    obtain ⟨k, hk, rfl, HA, hbw⟩ := hrel
    by_cases hlt : k < l.length
    · obtain ⟨y, hy⟩ : ∃ y, l[k]? = some y := ⟨_, List.getElem?_eq_getElem hlt⟩
      rcases hr with hnil | ⟨b, off, rfl, hb, hc⟩
      · rw [hnil] at hlt; simp at hlt
      obtain ⟨c0, c1⟩ := hc k y hy
      have d0 : wr.cell? ⟨b, off + k * 2, none⟩ = _ := (hbw.cell (p := ⟨b, off + k * 2, none⟩) hb).trans c0
      have d1 : wr.cell? ⟨b, off + k * 2 + 1, none⟩ = _ := (hbw.cell (p := ⟨b, off + k * 2 + 1, none⟩) hb).trans c1
      have hs := anyQ_take_succ l noShop k y hy
      rw [unhide HA, Bool.false_or] at hs
      have hml : l.length ≤ 9223372036854775807 := by simpa [maxLen] using hm
      have n1 := noShop_any y wr
      clear hc hm c0 c1
      unfold valLnk at n1
      cases he : noShop y with
      | true =>
        have HF := hide (anyQ_of_take l noShop (k + 1) (hs.trans he))
        rw [he] at n1
        have N1 := hide n1
        clear hs hy n1 he
        go_wp2_with fail
        refine (unhide N1).mono ?_
        rintro e w1 ⟨rfl, hb1⟩
        go_wp2
        go_ret
        exact ⟨⟨_, rfl, by rw [unhide HF]; simp⟩, hbw.trans (hb1.mono hbw.size)⟩
      | false =>
        have HS : Hid ((l.take (k + 1)).any noShop = false) := hide (hs.trans he)
        rw [he] at n1
        have N1 := hide n1
        clear hs hy n1 he
        go_wp2_with fail
        refine (unhide N1).mono ?_
        rintro e w1 ⟨rfl, hb1⟩
        go_wp2
        go_roundw
        case rel => exact ⟨k + 1, by omega, by go_num, HS, hbw.trans (hb1.mono hbw.size)⟩
        case measure => simp [intOf]; omega
    · have HF : Hid (l.any noShop = false) := hide (by have := unhide HA; rw [List.take_of_length_le (by omega)] at this; exact this)
      go_wp2
      go_ret
      exact ⟨⟨_, rfl, by rw [unhide HF]; rfl⟩, hbw⟩
theorem containsKs_any (l : List XLnk) (ao : Option Addr) (cap : Nat) (w : World) (hr : RowLnk w ao l) :
    Calls Tryd.prog 30 #[.slice ao l.length cap, .func (.func 28) #[] #[]] w fun e w' => e = .returned (.bool (l.any noShop)) ∧ Below w.heap.size w w' := by
  have N1 := hide (indexKs_any l ao cap w hr)
  clear hr
  generalize l.any noShop = q at *
  go_enter Tryd.func30, Tryd.ntmps30
  go_wp2_with fail
  refine (unhide N1).mono ?_
  rintro e w1 ⟨⟨v, rfl, hv⟩, hb1⟩
  have HV := hide hv
  clear hv
  go_wp2
  go_ret
  exact ⟨ret_bool (unhide HV), hb1⟩
/-- what is wrong with a plan's parts, one by one -/
def chkE (ms : List XMst) (ls : List XLnk) : Int := if ms = [] then 1 else if ms.any noKeyM = true then 1 else if ls.any noKeyL = true then 1 else if ms.any noVer = true then 3 else if ls.any noShop = true then 3 else 0
set_option maxRecDepth 100000 in
set_option maxHeartbeats 2000000 in
theorem checkPlan_any (ms : List XMst) (ls : List XLnk) (ma la : Option Addr) (mc lc : Nat) (w : World) (hm : RowMst w ma ms) (hl : RowLnk w la ls) :
    Calls Tryd.prog 14 #[.agg #[.slice ma ms.length mc, .slice la ls.length lc]] w fun e w' => e = .returned (.int .i64 (chkE ms ls)) ∧ Below w.heap.size w w' := by
  obtain ⟨W1, hW1⟩ : ∃ W1, W1 = w.alloc (.cells #[.slice ma ms.length mc, .slice la ls.length lc] 25) := ⟨_, rfl⟩
  have hB1 : Below w.heap.size w W1 := by rw [hW1]; exact (Below.refl _ _).alloc (Nat.le_refl _) _
  have hS1 : W1.heap.size = w.heap.size + 1 := by rw [hW1]; simp
  have hX1 : W1.heap[w.heap.size]? = some (.cells #[.slice ma ms.length mc, .slice la ls.length lc] 25 (0, 0)) := by rw [hW1]; exact heap_alloc_new _ _
  have hwl : w.heap.size < W1.heap.size := by omega
  have C0 := hide (fun w' (h : Below W1.heap.size W1 w') => (show w'.cell? ⟨w.heap.size, 0, none⟩ = some (.slice ma ms.length mc) from (cell_of_row _ _ 0 _ _ _ ((h.block _ hwl).trans hX1)).trans rfl))
  have C1 := hide (fun w' (h : Below W1.heap.size W1 w') => (show w'.cell? ⟨w.heap.size, 1, none⟩ = some (.slice la ls.length lc) from (cell_of_row _ _ 1 _ _ _ ((h.block _ hwl).trans hX1)).trans rfl))
  have hml : (ms.length : Int) ≤ 9223372036854775807 := by have := hm.2.2; unfold maxLen at this; omega
  have N1 := hide (fun w' (h : Below W1.heap.size W1 w') => containsKm_any ms ma mc w' ((hm.below hB1).below h))
  have N2 := hide (fun w' (h : Below W1.heap.size W1 w') => containsKl_any ls la lc w' ((hl.below hB1).below h))
  have N3 := hide (fun w' (h : Below W1.heap.size W1 w') => containsKv_any ms ma mc w' ((hm.below hB1).below h))
  have N4 := hide (fun w' (h : Below W1.heap.size W1 w') => containsKs_any ls la lc w' ((hl.below hB1).below h))
  have HPE : Hid (chkE ms ls = if ms = [] then 1 else if ms.any noKeyM = true then 1 else if ls.any noKeyL = true then 1 else if ms.any noVer = true then 3 else if ls.any noShop = true then 3 else 0) := hide rfl
  generalize chkE ms ls = pe at *
  generalize ms.any noKeyM = k1 at *
  generalize ls.any noKeyL = k2 at *
  generalize ms.any noVer = k3 at *
  generalize ls.any noShop = k4 at *
  have HW1 := hide hW1; have HB1 := hide hB1
  have c0 := unhide C0 W1 (Below.refl _ _)
  clear hW1 hB1 hS1 hX1 hm hl
  go_enter Tryd.func14, Tryd.ntmps14
  go_upto_region 5 with fail
  rw [← unhide HW1]
  by_cases hne : ms = []
  · subst hne
    have h1 : pe = 1 := by rw [unhide HPE, if_pos rfl]
    subst h1
    go_wp2
    go_ret
    exact ⟨rfl, unhide HB1⟩
  have hpe := unhide HPE
  rw [if_neg hne] at hpe
  have hpos : 0 < ms.length := List.length_pos_iff.2 hne
  have hnz : ¬ ms.length = 0 := by omega
  clear hne HPE
  go_wp2_with fail
  refine (unhide N1 _ (Below.refl _ _)).mono ?_
  rintro e w1 ⟨rfl, hb1⟩
  have c1 := unhide C1 w1 hb1; have c0 := unhide C0 w1 hb1
  have HBa := hide hb1
  clear hb1
  cases k1 with
  | true =>
    rw [if_pos rfl] at hpe
    subst hpe
    go_wp2
    go_ret
    exact ⟨rfl, (unhide HB1).trans ((unhide HBa).mono (unhide HB1).size)⟩
  | false =>
  rw [if_neg (by decide)] at hpe
  go_wp2_with fail
  refine (unhide N2 _ (unhide HBa)).mono ?_
  rintro e w2 ⟨rfl, hb2⟩
  have HBb := hide ((unhide HBa).trans (hb2.mono (unhide HBa).size))
  have c1 := unhide C1 w2 (unhide HBb); have c0 := unhide C0 w2 (unhide HBb)
  clear hb2
  cases k2 with
  | true =>
    rw [if_pos rfl] at hpe
    subst hpe
    go_wp2
    go_ret
    exact ⟨rfl, (unhide HB1).trans ((unhide HBb).mono (unhide HB1).size)⟩
  | false =>
  rw [if_neg (by decide)] at hpe
  go_wp2_with fail
  refine (unhide N3 _ (unhide HBb)).mono ?_
  rintro e w3 ⟨rfl, hb3⟩
  have HBc := hide ((unhide HBb).trans (hb3.mono (unhide HBb).size))
  have c1 := unhide C1 w3 (unhide HBc)
  clear hb3
  cases k3 with
  | true =>
    rw [if_pos rfl] at hpe
    subst hpe
    go_wp2
    go_ret
    exact ⟨rfl, (unhide HB1).trans ((unhide HBc).mono (unhide HB1).size)⟩
  | false =>
  rw [if_neg (by decide)] at hpe
  go_wp2_with fail
  refine (unhide N4 _ (unhide HBc)).mono ?_
  rintro e w4 ⟨rfl, hb4⟩
  have HBd := hide ((unhide HBc).trans (hb4.mono (unhide HBc).size))
  clear hb4
  cases k4 with
  | true =>
    rw [if_pos rfl] at hpe
    subst hpe
    go_wp2
    go_ret
    exact ⟨rfl, (unhide HB1).trans ((unhide HBd).mono (unhide HB1).size)⟩
  | false =>
    rw [if_neg (by decide)] at hpe
    subst hpe
    go_wp2
    go_ret
    exact ⟨rfl, (unhide HB1).trans ((unhide HBd).mono (unhide HB1).size)⟩
end Go.Proofs.YtbiipeapcclbkaaDoor
