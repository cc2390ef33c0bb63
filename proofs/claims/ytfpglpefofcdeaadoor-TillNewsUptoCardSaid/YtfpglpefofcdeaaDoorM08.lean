/- A till's plan: its root's modulus, what it knows, its masks. -/
import Derived.Test.YtfpglpefofcdeaaDoorM02
import Derived.Test.YtfpglpefofcdeaaDoorM03
import Derived.Test.YtfpglpefofcdeaaDoorM05
import Derived.Test.YtfpglpefofcdeaaDoorM07
import Derived.Test.YtfpglpefofcdeaaDoorM06
import Derived.Test.YtfpglpefofcdeaaDoorM01
import Derived.Maps.OwnSet
import Derived.Maps.OwnOps
import Derived.Maps.Views
import Derived.StringKeys
import Derived.Deep.RegionWith
import Derived.Lib.Strings
namespace Go.Proofs.YtfpglpefofcdeaaDoor
open Go.RowKit
set_option linter.unusedVariables false
set_option linter.unusedSimpArgs false
set_option maxRecDepth 100000

/-- is it a modulus? -/
def modB (s : ByteArray) : Bool := decide (40 ≤ s.size ∧ s.size ≤ 96 ∧ 127 < byteAt s 0 ∧ byteAt s (s.size - 1) % 2 = 1)
theorem at_byteN {s : ByteArray} {i : Nat} (h : i < s.size) : ∃ x : UInt8, s.data.toList[i]? = some x ∧ byteAt s i = x.toNat := by
  have hl : i < s.data.toList.length := by simpa using h
  refine ⟨s.data.toList[i], List.getElem?_eq_getElem hl, ?_⟩
  unfold byteAt
  rw [List.getD_eq_getElem?_getD, List.getElem?_eq_getElem hl]
  rfl
set_option maxHeartbeats 1000000 in
theorem cmod_any (s : ByteArray) (w : World) : Calls Tryd.prog 53 #[.string s] w fun e w' => e = .returned (.bool (modB s)) ∧ w' = w := by
  by_cases h1 : 40 ≤ s.size
  case neg =>
    have HQ : Hid (modB s = false) := hide (decide_eq_false (by omega))
    have t1 : ¬ (40 : Int) ≤ (s.size : Int) := by omega
    clear h1
    go_enter Tryd.func53, Tryd.ntmps53
    go_wp2
    go_ret
    exact ⟨ret_bool (unhide HQ).symm, rfl⟩
  have t1 : (40 : Int) ≤ (s.size : Int) := by omega
  by_cases h2 : s.size ≤ 96
  case neg =>
    have HQ : Hid (modB s = false) := hide (decide_eq_false (by omega))
    have t2 : ¬ (s.size : Int) ≤ 96 := by omega
    clear h1 h2
    go_enter Tryd.func53, Tryd.ntmps53
    go_wp2
    go_ret
    exact ⟨ret_bool (unhide HQ).symm, rfl⟩
  have t2 : (s.size : Int) ≤ 96 := by omega
  obtain ⟨x0, hx0, e0⟩ := at_byteN (s := s) (i := 0) (by omega)
  obtain ⟨x1, hx1, e1⟩ := at_byteN (s := s) (i := s.size - 1) (by omega)
  have b0 : ∀ wx, (Instr.index 9 (.string s) (.int .i64 0)).run Tryd.prog wx = .ok (.int .u8 x0.toNat) wx := fun wx => byte_run s 0 x0 hx0 wx
  have b1 : ∀ wx, (Instr.index 9 (.string s) (.int .i64 ((s.size : Int) - 1))).run Tryd.prog wx = .ok (.int .u8 x1.toNat) wx := fun wx => by
    have := byte_run s (s.size - 1) x1 hx1 wx
    rw [show (((s.size - 1 : Nat)) : Int) = (s.size : Int) - 1 by omega] at this
    exact this
  have HQ : Hid (modB s = (decide (128 ≤ (x0.toNat : Int)) && decide ((x1.toNat : Int) % 2 = 1))) := hide (by
    unfold modB
    rw [e0, e1, ← Bool.decide_and]
    exact decide_eq_decide.2 (by omega))
  have hl0 := x0.toNat_lt; have hl1 := x1.toNat_lt
  obtain ⟨m, hm⟩ : ∃ m : Int, m = (x0.toNat : Int) := ⟨_, rfl⟩
  obtain ⟨n, hn⟩ : ∃ n : Int, n = (x1.toNat : Int) := ⟨_, rfl⟩
  have hm2 : 0 ≤ m ∧ m ≤ 255 := by omega
  have hn2 : 0 ≤ n ∧ n ≤ 255 := by omega
  rw [← hm] at b0 HQ
  rw [← hn] at b1 HQ
  have hw : wrap64 ((s.size : Int) - 1) = (s.size : Int) - 1 := by first | (unfold wrap64; omega) | (simp [wrap64]; omega) | (simp [wrap64, IntKind.wrap, IntKind.bits, IntKind.signed]; omega)
  have hmod : IntKind.u8.wrap (n % 2) = n % 2 := by rw [IntKind.wrap_u8]; omega
  have htm : n.tmod 2 = n % 2 := Int.tmod_eq_emod_of_nonneg (by omega)
  generalize modB s = q at *
  clear e0 e1 hx0 hx1 hl0 hl1 hm hn h1 h2
  by_cases h3 : 128 ≤ m
  case neg =>
    have HQ2 : Hid (q = false) := hide (by rw [unhide HQ, decide_eq_false h3]; rfl)
    go_enter Tryd.func53, Tryd.ntmps53
    go_wp2
    go_ret
    exact ⟨ret_bool (unhide HQ2).symm, rfl⟩
  have HQ2 : Hid (q = decide (n % 2 = 1)) := hide (by rw [unhide HQ, decide_eq_true h3]; rfl)
  go_enter Tryd.func53, Tryd.ntmps53
  go_wp2
  go_ret
  exact ⟨ret_bool (by rw [unhide HQ2, Bool.eq_iff_iff]; simp), rfl⟩
set_option maxHeartbeats 1000000 in
theorem rmod_any (s : ByteArray) (w : World) : Calls Tryd.prog 12 #[.string s] w fun e w' => e = .returned (.bool (modB s)) ∧ w' = w := by
  by_cases h1 : 40 ≤ s.size
  case neg =>
    have HQ : Hid (modB s = false) := hide (decide_eq_false (by omega))
    have t1 : ¬ (40 : Int) ≤ (s.size : Int) := by omega
    clear h1
    go_enter Tryd.func12, Tryd.ntmps12
    go_wp2
    go_ret
    exact ⟨ret_bool (unhide HQ).symm, rfl⟩
  have t1 : (40 : Int) ≤ (s.size : Int) := by omega
  by_cases h2 : s.size ≤ 96
  case neg =>
    have HQ : Hid (modB s = false) := hide (decide_eq_false (by omega))
    have t2 : ¬ (s.size : Int) ≤ 96 := by omega
    clear h1 h2
    go_enter Tryd.func12, Tryd.ntmps12
    go_wp2
    go_ret
    exact ⟨ret_bool (unhide HQ).symm, rfl⟩
  have t2 : (s.size : Int) ≤ 96 := by omega
  obtain ⟨x0, hx0, e0⟩ := at_byteN (s := s) (i := 0) (by omega)
  obtain ⟨x1, hx1, e1⟩ := at_byteN (s := s) (i := s.size - 1) (by omega)
  have b0 : ∀ wx, (Instr.index 9 (.string s) (.int .i64 0)).run Tryd.prog wx = .ok (.int .u8 x0.toNat) wx := fun wx => byte_run s 0 x0 hx0 wx
  have b1 : ∀ wx, (Instr.index 9 (.string s) (.int .i64 ((s.size : Int) - 1))).run Tryd.prog wx = .ok (.int .u8 x1.toNat) wx := fun wx => by
    have := byte_run s (s.size - 1) x1 hx1 wx
    rw [show (((s.size - 1 : Nat)) : Int) = (s.size : Int) - 1 by omega] at this
    exact this
  have HQ : Hid (modB s = (decide (127 < (x0.toNat : Int)) && decide ((x1.toNat : Int) % 2 = 1))) := hide (by
    unfold modB
    rw [e0, e1, ← Bool.decide_and]
    exact decide_eq_decide.2 (by omega))
  have hl0 := x0.toNat_lt; have hl1 := x1.toNat_lt
  obtain ⟨m, hm⟩ : ∃ m : Int, m = (x0.toNat : Int) := ⟨_, rfl⟩
  obtain ⟨n, hn⟩ : ∃ n : Int, n = (x1.toNat : Int) := ⟨_, rfl⟩
  have hm2 : 0 ≤ m ∧ m ≤ 255 := by omega
  have hn2 : 0 ≤ n ∧ n ≤ 255 := by omega
  rw [← hm] at b0 HQ
  rw [← hn] at b1 HQ
  have hw : wrap64 ((s.size : Int) - 1) = (s.size : Int) - 1 := by first | (unfold wrap64; omega) | (simp [wrap64]; omega) | (simp [wrap64, IntKind.wrap, IntKind.bits, IntKind.signed]; omega)
  have hmod : IntKind.u8.wrap (n % 2) = n % 2 := by rw [IntKind.wrap_u8]; omega
  have htm : n.tmod 2 = n % 2 := Int.tmod_eq_emod_of_nonneg (by omega)
  generalize modB s = q at *
  clear e0 e1 hx0 hx1 hl0 hl1 hm hn h1 h2
  by_cases h3 : 127 < m
  case neg =>
    have HQ2 : Hid (q = false) := hide (by rw [unhide HQ, decide_eq_false h3]; rfl)
    go_enter Tryd.func12, Tryd.ntmps12
    go_wp2
    go_ret
    exact ⟨ret_bool (unhide HQ2).symm, rfl⟩
  have HQ2 : Hid (q = decide (n % 2 = 1)) := hide (by rw [unhide HQ, decide_eq_true h3]; rfl)
  go_enter Tryd.func12, Tryd.ntmps12
  go_wp2
  go_ret
  exact ⟨ret_bool (by rw [unhide HQ2, Bool.eq_iff_iff]; simp), rfl⟩
theorem conv1N (w : World) (x : Int) :
    (convert 114 9 (.slice (some ⟨w.heap.size, 0, none⟩) 1 1)).run Tryd.prog (w.alloc (.cells #[.int .u8 x] 5)) = .ok (.string (strOfNums [x])) (w.alloc (.cells #[.int .u8 x] 5)) :=
  run_convert_bytes_arg (P := Tryd.prog) _ 114 5 Tryd.underlying114 Tryd.underlying5 w.heap.size 0 1 1 [x] rfl (fun i hi => by
    obtain rfl : i = 0 := by simp at hi; omega
    simp) 9 Tryd.underlying9
set_option maxHeartbeats 1000000 in
theorem owner_any (s : ByteArray) (w : World) (hs : (s.size : Int) = 1) (ha : allDig s = true) : Calls Tryd.prog 52 #[.string s] w fun e w' => e = .returned (.bool true) ∧ Below w.heap.size w w' := by
  have n1 := fun w' => trim_any s w' (by omega)
  rw [ha] at n1
  unfold digitsT at n1
  have N1 := hide n1
  clear n1 ha
  go_enter Tryd.func52, Tryd.ntmps52
  go_wp2_with fail
  refine (unhide N1 _).mono ?_
  rintro e w1 ⟨hb, t, rfl, ht⟩
  have HB := hide hb
  clear hb
  go_wp2
  go_ret
  exact ⟨rfl, unhide HB⟩
set_option maxHeartbeats 2000000 in
theorem keyText_any (o m : ByteArray) (w : World) (ho : o.size = 1) (ha : allDig o = true) :
    Calls Tryd.prog 35 #[.agg #[.string o, .int .i64 0, .string m]] w fun e w' => (∃ t, e = .returned (.tuple #[.string t, .int .i64 (bif modB m then 0 else 1)])) ∧ Below w.heap.size w w' := by
  obtain ⟨W1, hW1⟩ : ∃ W1, W1 = w.alloc (.cells #[.string o, .int .i64 0, .string m] 96) := ⟨_, rfl⟩
  have hB1 : Below w.heap.size w W1 := by rw [hW1]; exact (Below.refl _ _).alloc (Nat.le_refl _) _
  have hX1 : W1.heap[w.heap.size]? = some (.cells #[.string o, .int .i64 0, .string m] 96 (0, 0)) := by rw [hW1]; exact heap_alloc_new _ _
  have hc : ∀ W, Below W1.heap.size W1 W → W.cell? ⟨w.heap.size, 0, none⟩ = some (.string o) ∧ W.cell? ⟨w.heap.size, 1, none⟩ = some (.int .i64 0) ∧ W.cell? ⟨w.heap.size, 2, none⟩ = some (.string m) := fun W hb => by
    have hx := (hb.block _ (World.block_lt_of_cell? W1 ⟨w.heap.size, 0, none⟩ (cell_of_row _ _ 0 _ _ _ hX1))).trans hX1
    exact ⟨cell_of_row _ _ 0 _ _ _ hx, cell_of_row _ _ 1 _ _ _ hx, cell_of_row _ _ 2 _ _ _ hx⟩
  have N0 := hide (fun W => owner_any o W (by omega) ha)
  have N1 := hide (fun W => cmod_any m W)
  have N2 := hide (fun W => number_any 0 2 W (by decide) (by decide) (by decide) (by decide))
  have HM : Hid (modB m = true → m.size ≤ 96) := hide (fun h => (of_decide_eq_true h).2.1)
  have hoi : (o.size : Int) = 1 := by omega
  have hzn : (strOfNums (bigL 0 2)).size = 2 := by rw [strOfNums_size, bigL_length]
  have h1w : IntKind.u8.wrap 1 = 1 := by rw [IntKind.wrap_u8]; rfl
  generalize strOfNums (bigL 0 2) = tl at *
  have HC := hide hc; have HB1 := hide hB1; have HW1 := hide hW1
  clear hc hB1 hX1 hW1 ha
  cases hm : modB m with
  | false =>
    rw [hm] at N1
    clear HM hm
    obtain ⟨c0, c1, c2⟩ := unhide HC W1 (Below.refl _ _)
    go_enter Tryd.func35, Tryd.ntmps35
    go_upto_region 1 with fail
    rw [← unhide HW1]
    go_wp2_with fail
    refine (unhide N0 _).mono ?_
    rintro e y1 ⟨rfl, k1⟩
    have HK := hide k1
    clear c0 c1 c2 k1
    obtain ⟨c0, c1, c2⟩ := unhide HC y1 (unhide HK)
    go_wp2_with fail
    refine (unhide N1 _).mono ?_
    rintro e y2 ⟨rfl, hy⟩
    have hy' := hy.symm
    subst hy'
    clear hy
    go_wp2
    go_ret2
    exact ⟨⟨_, rfl⟩, (unhide HB1).trans ((unhide HK).mono (unhide HB1).size)⟩
  | true =>
    rw [hm] at N1
    have hm96 := unhide HM hm
    clear HM hm
    obtain ⟨c0, c1, c2⟩ := unhide HC W1 (Below.refl _ _)
    go_enter Tryd.func35, Tryd.ntmps35
    go_upto_region 1 with fail
    rw [← unhide HW1]
    go_wp2_with fail
    refine (unhide N0 _).mono ?_
    rintro e y1 ⟨rfl, k1⟩
    have HK := hide k1
    clear c0 c1 c2 k1
    obtain ⟨c0, c1, c2⟩ := unhide HC y1 (unhide HK)
    go_wp2_with fail
    refine (unhide N1 _).mono ?_
    rintro e y2 ⟨rfl, hy⟩
    have hy' := hy.symm
    subst hy'
    clear hy
    go_wp2_with fail
    refine (unhide N2 _).mono ?_
    rintro e y3 ⟨rfl, k3⟩
    have HK3 := hide ((unhide HK).trans (k3.mono (unhide HK).size))
    clear c0 c1 c2 k3
    obtain ⟨c0, c1, c2⟩ := unhide HC y3 (unhide HK3)
    have d0 : (y3.alloc (.cells #[.int .u8 1] 5)).cell? ⟨w.heap.size, 0, none⟩ = some (.string o) := Lib.cell?_alloc_some _ c0
    have d2 : (y3.alloc (.cells #[.int .u8 1] 5)).cell? ⟨w.heap.size, 2, none⟩ = some (.string m) := Lib.cell?_alloc_some _ c2
    have hcv := conv1N y3 1
    have hz1 : (strOfNums [1]).size = 1 := by rw [strOfNums_size]; rfl
    generalize strOfNums [1] = s1 at *
    have a1 := fun wx => run_string_add_sum (P := Tryd.prog) wx s1 o (by omega)
    have a2 := fun wx => run_string_add_sum (P := Tryd.prog) wx (s1 ++ o) tl (by rw [ByteArray.size_append]; omega)
    have a3 := fun wx => run_string_add_sum (P := Tryd.prog) wx (s1 ++ o ++ tl) m (by rw [ByteArray.size_append, ByteArray.size_append]; omega)
    have HKZ := hide (fun x : Obj => ((unhide HB1).trans ((unhide HK3).mono (unhide HB1).size)).alloc ((unhide HB1).trans ((unhide HK3).mono (unhide HB1).size)).size x)
    go_wp2
    go_ret2
    exact ⟨⟨_, rfl⟩, unhide HKZ _⟩
set_option maxHeartbeats 1000000 in
theorem tmod_any (m : ByteArray) (w : World) : Calls Tryd.prog 22 #[.string m] w fun e w' => e = .returned (.bool (modB m)) ∧ Below w.heap.size w w' := by
  have N0 := hide (fun W => keyText_any ⟨#[48]⟩ m W rfl (by decide))
  generalize modB m = q at *
  cases q <;>
  · go_enter Tryd.func22, Tryd.ntmps22
    go_wp2_with fail
    refine (unhide N0 _).mono ?_
    rintro e w1 ⟨⟨t, rfl⟩, hb⟩
    have HB := hide hb
    clear hb
    go_wp2
    go_ret
    exact ⟨rfl, unhide HB⟩
end Go.Proofs.YtfpglpefofcdeaaDoor
namespace Go.Proofs.YtfpglpefofcdeaaDoor
open Go.RowKit Go.WideMaps Go.Maps
set_option linter.unusedVariables false

theorem lawS : Keyed Tryd.prog 9 := string_keyed Tryd.underlying9
theorem zeroI (w : World) : (zeroValue 3).run Tryd.prog w = .ok (.int .i64 0) w := by kernel_rfl

/-- the names, as bytes -/
def namesL (l : List XApp) : List (List UInt8) := l.map (fun a => a.name.data.toList)
/-- is one of the first k there ahead of itself? -/
def dupTo (ns : List (List UInt8)) : Nat → Bool
  | 0 => false
  | k + 1 => dupTo ns k || (ns.take k).contains (ns.getD k [])

end Go.Proofs.YtfpglpefofcdeaaDoor
namespace Go.Proofs.YtfpglpefofcdeaaDoor
open Go.RowKit
set_option linter.unusedVariables false

theorem anyP_take_succ {α : Type} (l : List α) (p : α → Bool) (k : Nat) (y : α) (h : l[k]? = some y) : (l.take (k + 1)).any p = ((l.take k).any p || p y) := by
  obtain ⟨hk, rfl⟩ := List.getElem?_eq_some_iff.1 h
  rw [List.take_succ_eq_append_getElem hk, List.any_append]
  simp
theorem anyP_of_take {α : Type} (l : List α) (p : α → Bool) (k : Nat) (h : (l.take k).any p = true) : l.any p = true := by
  have e := List.take_append_drop k l
  rw [← e, List.any_append, h, Bool.true_or]

def misB (x : XApp) : Bool := decide (x.name.size < 5 ∨ 16 < x.name.size ∨ x.label.size = 0 ∨ 64 < x.label.size)
def prioB (x : XApp) : Bool := decide (x.prio < 0 ∨ 15 < x.prio)
def knoB (x : XKnown) : Bool := decide (x.name.size = 0 ∨ 16 < x.name.size)
theorem empty_iff (s : ByteArray) : s.toList.isEmpty = decide (s.size = 0) := by
  rw [Lib.toList_data]
  have e : s.size = s.data.toList.length := by simp
  rw [e]
  generalize s.data.toList = m
  cases m <;> simp




/-- what is wrong with applications -/
def appsE (l : List XApp) : Int := if 20 < l.length then 2 else bif l.any misB then 1 else bif l.any prioB then 3 else bif dupTo (namesL l) l.length then 6 else 0

end Go.Proofs.YtfpglpefofcdeaaDoor
