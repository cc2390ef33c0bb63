/- clear: what Cut sorts by; what a cut is, plain. -/
import Derived.Test.YtdameincehiieaaClrO
import Derived.Test.YtdameincehiieaaLaySrt
import Derived.Deep.RegionWith
namespace Go.Proofs.Ytdameincehiieaa
open Go.RowKit Go.WideMaps Go.Maps Go.Sort
set_option linter.unusedVariables false
set_option maxRecDepth 100000

structure Ow where
  a : Int
  b : Int
  n : Int
deriving DecidableEq, Inhabited
def cellsO (o : Ow) : List Value := [.int .i64 o.a, .int .i64 o.b, .int .i64 o.n]
def cmpI (x y : Int) : Int := if x < y then -1 else if y < x then 1 else 0
def cmpO (x y : Ow) : Int := if cmpI x.a y.a ≠ 0 then cmpI x.a y.a else cmpI x.b y.b
def ltO (x y : Ow) : Prop := x.a < y.a ∨ x.a = y.a ∧ x.b < y.b
instance (x y : Ow) : Decidable (ltO x y) := inferInstanceAs (Decidable (_ ∨ _))
theorem cmpO_lt (x y : Ow) : ltOf cmpO x y = decide (ltO x y) := by
  unfold ltOf
  rw [decide_eq_decide]
  unfold cmpO cmpI ltO
  by_cases h1 : x.a < y.a
  · simp [h1]
  · by_cases h2 : y.a < x.a
    · simp [h1, h2]; omega
    · simp [h1, h2]
      by_cases h3 : x.b < y.b
      · simp [h3]; omega
      · by_cases h4 : y.b < x.b <;> simp [h3, h4]
theorem swoO : SWO (ltOf cmpO) where
  irrefl x := by rw [cmpO_lt]; unfold ltO; exact decide_eq_false (by omega)
  trans x y z h1 h2 := by
    rw [cmpO_lt] at *
    have a := of_decide_eq_true h1; have b := of_decide_eq_true h2
    exact decide_eq_true (by unfold ltO at *; omega)
  ntrans x y z h1 h2 := by
    rw [cmpO_lt] at *
    have a := of_decide_eq_false h1; have b := of_decide_eq_false h2
    exact decide_eq_false (by unfold ltO at *; omega)
def cutB (ow : Int → Int → Int) (a : Int) : Nat → List Ow
  | 0 => []
  | k + 1 => cutB ow a k ++ (if ow a ((k : Int) + 1) = 0 then [] else [⟨a, (k : Int) + 1, ow a ((k : Int) + 1)⟩])
def cutA (ow : Int → Int → Int) : Nat → List Ow
  | 0 => []
  | k + 1 => cutA ow k ++ cutB ow ((k : Int) + 1) 99
def cutL (ow : Int → Int → Int) : List Ow := cutA ow 99
theorem mem_cutB (ow : Int → Int → Int) (a : Int) (k : Nat) (o : Ow) : o ∈ cutB ow a k ↔ o.a = a ∧ 1 ≤ o.b ∧ o.b ≤ k ∧ o.n = ow o.a o.b ∧ o.n ≠ 0 := by
  induction k with
  | zero => simp [cutB]; omega
  | succ k ih =>
    rw [cutB, List.mem_append, ih]
    constructor
    · rintro (h | h)
      · exact ⟨h.1, h.2.1, by omega, h.2.2.2⟩
      · split at h
        · cases h
        · next hn => obtain rfl := List.mem_singleton.1 h; exact ⟨rfl, by show (1 : Int) ≤ k + 1; omega, by show (k : Int) + 1 ≤ _; omega, rfl, hn⟩
    · rintro ⟨rfl, h1, h2, h3, h4⟩
      by_cases e : o.b ≤ k
      · exact .inl ⟨rfl, h1, e, h3, h4⟩
      · right
        have e2 : o.b = (k : Int) + 1 := by omega
        rw [← e2, ← h3, if_neg h4, List.mem_singleton]
theorem mem_cutA (ow : Int → Int → Int) (k : Nat) (o : Ow) : o ∈ cutA ow k ↔ 1 ≤ o.a ∧ o.a ≤ k ∧ 1 ≤ o.b ∧ o.b ≤ 99 ∧ o.n = ow o.a o.b ∧ o.n ≠ 0 := by
  induction k with
  | zero => simp [cutA]; omega
  | succ k ih =>
    rw [cutA, List.mem_append, ih, mem_cutB]
    constructor
    · rintro (h | h)
      · exact ⟨h.1, by omega, h.2.2⟩
      · exact ⟨by omega, by omega, h.2⟩
    · rintro ⟨h1, h2, h3⟩
      by_cases e : o.a ≤ k
      · exact .inl ⟨h1, e, h3⟩
      · exact .inr ⟨by omega, h3⟩
theorem sorted_cutB (ow : Int → Int → Int) (a : Int) (k : Nat) : (cutB ow a k).Pairwise ltO := by
  induction k with
  | zero => exact List.Pairwise.nil
  | succ k ih =>
    rw [cutB, List.pairwise_append]
    refine ⟨ih, by split <;> simp, fun x hx y hy => ?_⟩
    split at hy
    · cases hy
    · obtain rfl := List.mem_singleton.1 hy
      have := (mem_cutB ow a k x).1 hx
      exact .inr ⟨this.1, by show x.b < (k : Int) + 1; omega⟩
theorem sorted_cutA (ow : Int → Int → Int) (k : Nat) : (cutA ow k).Pairwise ltO := by
  induction k with
  | zero => exact List.Pairwise.nil
  | succ k ih =>
    rw [cutA, List.pairwise_append]
    refine ⟨ih, sorted_cutB _ _ _, fun x hx y hy => ?_⟩
    have h1 := (mem_cutA ow k x).1 hx
    have h2 := (mem_cutB ow _ _ y).1 hy
    exact .inl (by omega)
theorem nodup_cutL (ow : Int → Int → Int) : (cutL ow).Nodup := (sorted_cutA ow 99).imp (fun h e => by subst e; unfold ltO at h; omega)
/-- a sorted list of just the debts is the cut -/
theorem cut_only {ow : Int → Int → Int} {l : List Ow} (hs : l.Pairwise (fun x y => ¬ ltO y x)) (hn : l.Nodup) (hm : ∀ o, o ∈ l ↔ o ∈ cutL ow) : l = cutL ow := by
  refine List.Perm.eq_of_pairwise (le := fun x y => ¬ ltO y x) ?_ hs ((sorted_cutA ow 99).imp (fun h => by unfold ltO at *; omega)) ((List.perm_ext_iff_of_nodup hn (nodup_cutL ow)).2 hm)
  intro x y hx hy h1 h2
  have e1 := (mem_cutA ow 99 x).1 ((hm x).1 hx)
  have e2 := (mem_cutA ow 99 y).1 hy
  obtain ⟨xa, xb, xn⟩ := x
  obtain ⟨ya, yb, yn⟩ := y
  unfold ltO at h1 h2
  dsimp only at *
  obtain rfl : xa = ya := by omega
  obtain rfl : xb = yb := by omega
  rw [e1.2.2.2.2.1, e2.2.2.2.2.1]
theorem isNaN_any (x : Int) (w : World) : Calls Try.prog 41 #[.int .i64 x] w fun e w' => e = .returned (.bool false) ∧ w' = w := by
  go_enter Try.func41, Try.ntmps41
  go_wp2
  go_ret
  exact ⟨rfl, rfl⟩
theorem compare_any (x y : Int) (w : World) : Calls Try.prog 37 #[.int .i64 x, .int .i64 y] w fun e w' => e = .returned (.int .i64 (cmpI x y)) ∧ w' = w := by
  have N1 := hide (isNaN_any x w); have N2 := hide (isNaN_any y w)
  by_cases h1 : x < y
  · have HM : Hid (cmpI x y = -1) := hide (by unfold cmpI; rw [if_pos h1])
    go_enter Try.func37, Try.ntmps37
    go_wp2_with fail
    refine (unhide N1).mono ?_
    rintro e w1 ⟨rfl, hw1⟩
    rw [hw1]
    clear hw1
    go_wp2_with fail
    refine (unhide N2).mono ?_
    rintro e w1 ⟨rfl, hw1⟩
    rw [hw1]
    clear hw1
    go_wp2
    go_ret
    exact ⟨ret_int (unhide HM).symm, rfl⟩
  · by_cases h2 : y < x
    · have HM : Hid (cmpI x y = 1) := hide (by unfold cmpI; rw [if_neg h1, if_pos h2])
      go_enter Try.func37, Try.ntmps37
      go_wp2_with fail
      refine (unhide N1).mono ?_
      rintro e w1 ⟨rfl, hw1⟩
      rw [hw1]
      clear hw1
      go_wp2_with fail
      refine (unhide N2).mono ?_
      rintro e w1 ⟨rfl, hw1⟩
      rw [hw1]
      clear hw1
      go_wp2
      go_ret
      exact ⟨ret_int (unhide HM).symm, rfl⟩
    · have HM : Hid (cmpI x y = 0) := hide (by unfold cmpI; rw [if_neg h1, if_neg h2])
      go_enter Try.func37, Try.ntmps37
      go_wp2_with fail
      refine (unhide N1).mono ?_
      rintro e w1 ⟨rfl, hw1⟩
      rw [hw1]
      clear hw1
      go_wp2_with fail
      refine (unhide N2).mono ?_
      rintro e w1 ⟨rfl, hw1⟩
      rw [hw1]
      clear hw1
      go_wp2
      go_ret
      exact ⟨ret_int (unhide HM).symm, rfl⟩
theorem or_any (x y : Int) (g cap : Nat) (w : World) (c0 : w.cell? ⟨g, 0, none⟩ = some (.int .i64 x)) (c1 : w.cell? ⟨g, 1, none⟩ = some (.int .i64 y)) :
    Calls Try.prog 36 #[.slice (some ⟨g, 0, none⟩) 2 cap] w fun e w' => e = .returned (.int .i64 (if x ≠ 0 then x else y)) ∧ w' = w := by
  obtain ⟨r, hr⟩ : ∃ r, r = (if x ≠ 0 then x else y) := ⟨_, rfl⟩
  rw [← hr]
  have HR := hide hr
  clear hr
  go_enter Try.func36, Try.ntmps36
  go_wp2
  go_loopw [8] (fun i wr => ∃ k : Nat, k ≤ 2 ∧ i = .int .i64 k ∧ wr = w ∧ Hid ((1 ≤ k → x = 0) ∧ (2 ≤ k → y = 0))) (fun i _ => 2 - (intOf i).toNat)
  case atStart => exact ⟨0, by omega, rfl, rfl, hide ⟨fun h => by omega, fun h => by omega⟩⟩
  case round =>
    obtain ⟨k, hk, rfl, hwr, HK⟩ := hrel
    rw [hwr]
    clear hwr
    have hk3 : k = 0 ∨ k = 1 ∨ k = 2 := by omega
    rcases hk3 with rfl | rfl | rfl
    · by_cases hx : x = 0
      · have hxb : (x != 0) = false := by simpa using hx
        have HX := hide hx
        clear hx
        go_wp2
        go_roundw
        case rel => exact ⟨1, by omega, rfl, by trivial, hide ⟨fun _ => unhide HX, fun h => by omega⟩⟩
        case measure => simp [intOf]
      · have hxb : (x != 0) = true := by simpa using hx
        have HX := hide hx
        clear hx
        go_wp2
        go_ret
        exact ⟨ret_int (by rw [unhide HR, if_pos (unhide HX)]), rfl⟩
    · by_cases hy : y = 0
      · have hxb : (y != 0) = false := by simpa using hy
        have HX := hide hy
        clear hy
        go_wp2
        go_roundw
        case rel => exact ⟨2, by omega, rfl, by trivial, hide ⟨fun _ => (unhide HK).1 (by omega), fun h => unhide HX⟩⟩
        case measure => simp [intOf]
      · have hxb : (y != 0) = true := by simpa using hy
        have HX := hide hy
        clear hy
        go_wp2
        go_ret
        exact ⟨ret_int (by rw [unhide HR, if_neg (by simpa using (unhide HK).1 (by omega))]), rfl⟩
    · go_wp2
      go_ret
      exact ⟨ret_int (by rw [unhide HR, if_neg (by simpa using (unhide HK).1 (by omega)), (unhide HK).2 (by omega)]), rfl⟩
theorem newC (w : World) (cs : Array Value) (e : TypeId) (j : Nat) : (w.alloc (.cells cs e)).cell? ⟨w.heap.size, j, none⟩ = cs[j]? := by
  unfold World.cell?
  rw [heap_alloc_new]
  simp
set_option maxHeartbeats 2000000 in
/-- what Cut sorts by -/
theorem cutCmp_any (x y : Ow) (W : World) : Calls Try.prog 35 #[.agg #[.int .i64 x.a, .int .i64 x.b, .int .i64 x.n], .agg #[.int .i64 y.a, .int .i64 y.b, .int .i64 y.n]] W fun e w' => e = .returned (.int .i64 (cmpO x y)) ∧ ∃ q os', w' = grow (W.drewN q) os' := by
  obtain ⟨xa, xb, xn⟩ := x
  obtain ⟨ya, yb, yn⟩ := y
  unfold cmpO
  dsimp only
  have N1 := hide (fun w => compare_any xa ya w)
  have N2 := hide (fun w => compare_any xb yb w)
  have N3 := hide (fun g cap w => or_any (cmpI xa ya) (cmpI xb yb) g cap w)
  generalize cmpI xa ya = c1 at *
  generalize cmpI xb yb = c2 at *
  generalize (if c1 ≠ 0 then c1 else c2) = r at *
  have e0 := heap_alloc_new W (.cells #[.int .i64 xa, .int .i64 xb, .int .i64 xn] 52)
  have e1 : ((W.alloc (.cells #[.int .i64 xa, .int .i64 xb, .int .i64 xn] 52)).alloc (.cells #[.int .i64 ya, .int .i64 yb, .int .i64 yn] 52)).heap[W.heap.size]? = some (.cells #[.int .i64 xa, .int .i64 xb, .int .i64 xn] 52) := (Below.heap_alloc _ _ _ (by simp)).trans e0
  have e2 : ((W.alloc (.cells #[.int .i64 xa, .int .i64 xb, .int .i64 xn] 52)).alloc (.cells #[.int .i64 ya, .int .i64 yb, .int .i64 yn] 52)).heap[W.heap.size + 1]? = some (.cells #[.int .i64 ya, .int .i64 yb, .int .i64 yn] 52) := by
    have := heap_alloc_new (W.alloc (.cells #[.int .i64 xa, .int .i64 xb, .int .i64 xn] 52)) (.cells #[.int .i64 ya, .int .i64 yb, .int .i64 yn] 52)
    rwa [show (W.alloc (.cells #[.int .i64 xa, .int .i64 xb, .int .i64 xn] 52)).heap.size = W.heap.size + 1 by simp] at this
  have e3 : ((W.alloc (.cells #[.int .i64 xa, .int .i64 xb, .int .i64 xn] 52)).alloc (.cells #[.int .i64 ya, .int .i64 yb, .int .i64 yn] 52)) = grow W #[.cells #[.int .i64 xa, .int .i64 xb, .int .i64 xn] 52, .cells #[.int .i64 ya, .int .i64 yb, .int .i64 yn] 52] := by
    rw [alloc_eq_grow, alloc_eq_grow, grow_grow]; rfl
  have e4 : ((W.alloc (.cells #[.int .i64 xa, .int .i64 xb, .int .i64 xn] 52)).alloc (.cells #[.int .i64 ya, .int .i64 yb, .int .i64 yn] 52)).heap.size = W.heap.size + 2 := by simp
  have HE := hide (And.intro e1 (And.intro e2 (And.intro e3 e4)))
  clear e0 e1 e2 e3 e4
  go_enter Try.func35, Try.ntmps35
  go_wp2_with fail
  generalize ((W.alloc (.cells #[.int .i64 xa, .int .i64 xb, .int .i64 xn] 52)).alloc (.cells #[.int .i64 ya, .int .i64 yb, .int .i64 yn] 52)) = V at *
  obtain ⟨e1, e2, e3, e4⟩ := unhide HE
  have HV := hide e3
  have hS : ∀ U : World, U.heap[W.heap.size]? = V.heap[W.heap.size]? → U.heap[W.heap.size + 1]? = V.heap[W.heap.size + 1]? → (U.cell? ⟨W.heap.size, 0, none⟩ = some (.int .i64 xa) ∧ U.cell? ⟨W.heap.size, 1, none⟩ = some (.int .i64 xb) ∧ U.cell? ⟨W.heap.size + 1, 0, none⟩ = some (.int .i64 ya) ∧ U.cell? ⟨W.heap.size + 1, 1, none⟩ = some (.int .i64 yb)) := fun U h1 h2 => by
    rw [e1] at h1; rw [e2] at h2
    refine ⟨?_, ?_, ?_, ?_⟩ <;> simp [World.cell?, h1, h2]
  have hs0 := hS V.drew rfl rfl
  have hs1 := hS (V.drew.alloc (.cells #[.int .i64 c1, .int .i64 c2] 3)) (Below.heap_alloc _ _ _ (by show _ < V.heap.size; omega)) (Below.heap_alloc _ _ _ (by show _ < V.heap.size; omega))
  have N4 := hide (unhide N3 V.heap.size 2 (V.drew.alloc (.cells #[.int .i64 c1, .int .i64 c2] 3)) (newC V.drew _ _ 0) (newC V.drew _ _ 1))
  clear e1 e2 e3 e4 HE N3 hS
  go_region_held3 (fun w' => w'.cell? ⟨W.heap.size, 0, none⟩ = some (.int .i64 xa) ∧ w'.cell? ⟨W.heap.size, 1, none⟩ = some (.int .i64 xb) ∧ w'.cell? ⟨W.heap.size + 1, 0, none⟩ = some (.int .i64 ya) ∧ w'.cell? ⟨W.heap.size + 1, 1, none⟩ = some (.int .i64 yb))
    (first
      | exact hs0
      | exact hs1)
    ((first
      | (go_at_call_of 37 (Value.int .i64 xa); refine (unhide N1 _).mono ?_; rintro e y1 ⟨rfl, rfl⟩)
      | (go_at_call_of 37 (Value.int .i64 xb); refine (unhide N2 _).mono ?_; rintro e y1 ⟨rfl, rfl⟩)
      | (go_at_call 36; refine (unhide N4).mono ?_; rintro e y1 ⟨rfl, rfl⟩)))
  all_goals
    go_wp2
    go_ret
    exact ⟨rfl, 1, _, by rw [unhide HV, alloc_eq_grow, grow_grow]; rfl⟩
end Go.Proofs.Ytdameincehiieaa
