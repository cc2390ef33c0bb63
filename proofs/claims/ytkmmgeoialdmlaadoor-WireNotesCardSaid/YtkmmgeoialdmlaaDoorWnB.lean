/- wire's fieldsOf: which fields a kind of notes has. -/
import Derived.Test.YtkmmgeoialdmlaaDoorWnA
namespace Go.Proofs.YtkmmgeoialdmlaaDoor
open Go.RowKit
set_option linter.unusedVariables false

theorem infoIntW : (Tryd.prog.info? 3).map (fun i => (i.zero, i.size, i.bytes)) = some (some (.int .i64 0), 1, 8) := by kernel_rfl
def cellsI (l : List Nat) : List Value := l.map fun n : Nat => Value.int .i64 (n : Int)
set_option maxRecDepth 100000 in
set_option maxHeartbeats 1000000 in
theorem toSeal_any (w : World) :
    Calls Tryd.prog 41 #[] w fun e w' => ∃ v, e = .returned v ∧ w'.ownsRow w.heap.size 3 1 v 11 (cellsI (List.range' 1 11)) ∧ Below w.heap.size w w' := by
  obtain ⟨i0, hi, hz0, hz1, hz2⟩ := info_parts infoIntW
  go_enter Tryd.func41, Tryd.ntmps41
  go_wp2
  go_loopw [1, 2] (fun v i wr => ∃ k : Nat, k ≤ 11 ∧ i = .int .i64 ((k + 1 : Nat) : Int) ∧ wr.ownsRow w.heap.size 3 1 v k (cellsI (List.range' 1 k)) ∧ Below w.heap.size w wr)
    (fun _ i _ => 12 - (intOf i).toNat)
  case atStart => exact ⟨0, Nat.zero_le _, rfl, World.ownsRow_nil _ _ _ _, Below.refl _ _⟩
  case round =>
    obtain ⟨k, hk, rfl, hown, hnx⟩ := hrel
    by_cases hlt : k < 11
    · have hlti : (k : Int) < 11 := by omega
      go_wp2_with (at_builtin; refine wpList_append_own _ rfl _ _ 65 rfl w.heap.size 3 i0 (.int .i64 0) 1 8 Tryd.underlying65 hi hz0 hz1 hz2 rfl (by decide) _ _ _ rfl (hown.alloc _) ⟨wr.heap.size, 0, none⟩ 1 1 [.int .i64 ((k : Int) + 1)] rfl rfl (cell_one_new _ _ _) ?c2 ?c3 ?c4 ?c5 ?_)
      case c2 => intro u hu; simp at hu; subst hu; rfl
      case c3 => unfold maxLen; omega
      case c4 => omega
      case c5 => have := hnx.size; simp; omega
      intro v' w1 hown' hgrow _
      have hb1 : Below w.heap.size w w1 := (hnx.alloc hnx.size _).grown hgrow (by have := hnx.size; simp; omega) (fun q hq => ((hown.lt q hq).1))
      have hown2 : w1.ownsRow w.heap.size 3 1 v' (k + 1) (cellsI (List.range' 1 (k + 1))) := by
        have e : cellsI (List.range' 1 (k + 1)) = cellsI (List.range' 1 k) ++ [.int .i64 ((k : Int) + 1)] := by
          unfold cellsI
          rw [List.range'_concat, List.map_append]
          congr 1
          simp
          omega
        rw [e]
        exact hown'
      clear hown' hgrow hown hnx
      go_wp2
      go_roundw
      case rel => exact ⟨k + 1, by omega, by go_num, hown2, hb1⟩
      case measure => simp [intOf]; omega
    · have hkl : k = 11 := by omega
      subst hkl
      go_wp2
      go_ret
      exact ⟨_, rfl, hown, hnx⟩
def FRowI (w : World) (v : Value) (l : List Nat) : Prop := (l = [] ∧ v = .slice none 0 0) ∨ (l ≠ [] ∧ ∃ g cap, v = .slice (some ⟨g, 0, none⟩) l.length cap ∧ g < w.heap.size ∧ ∀ i n : Nat, l[i]? = some n → w.cell? ⟨g, i, none⟩ = some (.int .i64 (n : Int)))
theorem FRowI.below {w w' : World} {v : Value} {l : List Nat} {B : Nat} (h : FRowI w v l) (hb : Below B w w') (hB : w.heap.size ≤ B) : FRowI w' v l := by
  rcases h with h | ⟨h0, g, cap, e, hg, hc⟩
  · exact .inl h
  · exact .inr ⟨h0, g, cap, e, Nat.lt_of_lt_of_le hg hb.size, fun i n hi => (hb.cell (p := ⟨g, i, none⟩) (Nat.lt_of_lt_of_le hg hB)).trans (hc i n hi)⟩
theorem FRowI.of_own {w : World} {base n : Nat} {v : Value} {l : List Nat} (h : w.ownsRow base 3 1 v n (cellsI l)) (h0 : l ≠ []) (hn : n = l.length) : FRowI w v l := by
  have h' := h
  obtain ⟨h1, h2⟩ := h
  rcases h2 with ⟨rfl, rfl⟩ | ⟨g, cap, cur, rfl, hg, hh, r⟩
  · cases l with
    | nil => exact absurd rfl h0
    | cons a r => simp at hn
  · have hlt : g < w.heap.size := by
      rcases Nat.lt_or_ge g w.heap.size with h | h
      · exact h
      · rw [Array.getElem?_eq_none h] at hh; cases hh
    refine .inr ⟨h0, g, cap, by rw [hn], hlt, fun i x hi => ?_⟩
    have := h'.cells (g := g) rfl i (.int .i64 (x : Int)) (by unfold cellsI; rw [List.getElem?_map, hi]; rfl)
    rw [show (⟨g, 0, none⟩ : Addr).add i = ⟨g, i, none⟩ from by unfold Addr.add; split <;> simp_all] at this
    exact this
theorem FRowI.new (w : World) (l : List Nat) (h0 : l ≠ []) (c : Nat) : FRowI (w.alloc (.cells (cellsI l).toArray 3)) (.slice (some ⟨w.heap.size, 0, none⟩) l.length c) l := by
  refine .inr ⟨h0, w.heap.size, c, rfl, by simp, fun i n hi => ?_⟩
  rw [cell_of_row _ _ i _ _ _ (heap_alloc_new w (.cells (cellsI l).toArray 3))]
  unfold cellsI
  rw [List.getElem?_toArray, List.getElem?_map, hi]; rfl
set_option maxRecDepth 100000 in
set_option maxHeartbeats 4000000 in
theorem fieldsOf_any (kind : Int) (w : World) :
    Calls Tryd.prog 28 #[.int .i64 kind] w fun e w' => ∃ v, e = .returned v ∧ FRowI w' v (fieldsL kind) ∧ Below w.heap.size w w' := by
  obtain ⟨i0, hi, hz0, hz1, hz2⟩ := info_parts infoIntW
  have N1 := hide (toSeal_any w)
  by_cases k1 : kind = 1
  · subst k1
    go_enter Tryd.func28, Tryd.ntmps28
    go_wp2_with fail
    refine (unhide N1).mono ?_
    rintro e w1 ⟨v, rfl, hown, hb⟩
    have hbs := hb.size
    go_wp2_with (at_builtin; refine wpList_append_own _ rfl _ _ 65 rfl w.heap.size 3 i0 (.int .i64 0) 1 8 Tryd.underlying65 hi hz0 hz1 hz2 rfl (by decide) _ _ _ rfl (hown.alloc _) ⟨w1.heap.size, 0, none⟩ 1 1 [.int .i64 16] rfl rfl (cell_one_new _ _ _) ?c2 ?c3 ?c4 ?c5 ?_)
    case c2 => intro u hu; simp at hu; subst hu; rfl
    case c3 => unfold maxLen; omega
    case c4 => omega
    case c5 => simp; omega
    intro v' w2 hown' hgrow _
    have hb2 : Below w.heap.size w w2 := (hb.alloc hb.size _).grown hgrow (by simp; omega) (fun q hq => ((hown.lt q hq).1))
    have hF : FRowI w2 v' (fieldsL 1) := FRowI.of_own (n := 12) (by rw [show cellsI (fieldsL 1) = cellsI (List.range' 1 11) ++ [Value.int .i64 16] from rfl]; exact hown') (by decide) rfl
    clear hown' hgrow hown
    go_wp2
    go_ret
    exact ⟨_, rfl, hF, hb2⟩
  by_cases k2 : kind = 2
  · subst k2
    go_enter Tryd.func28, Tryd.ntmps28
    go_wp2_with fail
    refine (unhide N1).mono ?_
    rintro e w1 ⟨v, rfl, hown, hb⟩
    have hbs := hb.size
    go_wp2_with (at_builtin; refine wpList_append_own _ rfl _ _ 65 rfl w.heap.size 3 i0 (.int .i64 0) 1 8 Tryd.underlying65 hi hz0 hz1 hz2 rfl (by decide) _ _ _ rfl (hown.alloc _) ⟨w1.heap.size, 0, none⟩ 1 1 [.int .i64 12] rfl rfl (cell_one_new _ _ _) ?c2 ?c3 ?c4 ?c5 ?_)
    case c2 => intro u hu; simp at hu; subst hu; rfl
    case c3 => unfold maxLen; omega
    case c4 => omega
    case c5 => simp; omega
    intro v' w2 hown' hgrow _
    have hb2 : Below w.heap.size w w2 := (hb.alloc hb.size _).grown hgrow (by simp; omega) (fun q hq => ((hown.lt q hq).1))
    have hF : FRowI w2 v' (fieldsL 2) := FRowI.of_own (n := 12) (by rw [show cellsI (fieldsL 2) = cellsI (List.range' 1 11) ++ [Value.int .i64 12] from rfl]; exact hown') (by decide) rfl
    clear hown' hgrow hown
    go_wp2
    go_ret
    exact ⟨_, rfl, hF, hb2⟩
  clear N1 hi hz0 hz1 hz2
  have hbel : ∀ o, Below w.heap.size w (w.alloc o) := fun o => (Below.refl _ _).alloc (Nat.le_refl _) _
  by_cases k3 : kind = 3
  · subst k3
    have hF := FRowI.new w (fieldsL 3) (by decide) 2
    go_enter Tryd.func28, Tryd.ntmps28
    go_wp2
    go_ret
    exact ⟨_, rfl, hF, hbel _⟩
  by_cases k4 : kind = 4
  · subst k4
    have hF := FRowI.new w (fieldsL 4) (by decide) 3
    go_enter Tryd.func28, Tryd.ntmps28
    go_wp2
    go_ret
    exact ⟨_, rfl, hF, hbel _⟩
  by_cases k11 : kind = 11
  · subst k11
    have hF := FRowI.new w (fieldsL 11) (by decide) 5
    go_enter Tryd.func28, Tryd.ntmps28
    go_wp2
    go_ret
    exact ⟨_, rfl, hF, hbel _⟩
  by_cases k12 : kind = 12
  · subst k12
    have hF := FRowI.new w (fieldsL 12) (by decide) 3
    go_enter Tryd.func28, Tryd.ntmps28
    go_wp2
    go_ret
    exact ⟨_, rfl, hF, hbel _⟩
  by_cases k13 : kind = 13
  · subst k13
    have hF := FRowI.new w (fieldsL 13) (by decide) 3
    go_enter Tryd.func28, Tryd.ntmps28
    go_wp2
    go_ret
    exact ⟨_, rfl, hF, hbel _⟩
  by_cases k14 : kind = 14
  · subst k14
    have hF := FRowI.new w (fieldsL 14) (by decide) 3
    go_enter Tryd.func28, Tryd.ntmps28
    go_wp2
    go_ret
    exact ⟨_, rfl, hF, hbel _⟩
  have hL : fieldsL kind = [] := by
    unfold fieldsL
    rw [if_neg k1, if_neg k2, if_neg k3, if_neg k4, if_neg k11, if_neg (by omega)]
  rw [hL]
  clear hbel hL
  go_enter Tryd.func28, Tryd.ntmps28
  go_wp2
  go_ret
  exact ⟨_, rfl, .inl ⟨rfl, rfl⟩, Below.refl _ _⟩
/-- the reference's: the same, as bytes -/
def fieldsB (k : Int) : ByteArray := ⟨((fieldsL k).map UInt8.ofNat).toArray⟩
set_option maxRecDepth 100000 in
set_option maxHeartbeats 4000000 in
theorem rfields_any (kind : Int) (w : World) :
    Calls Tryd.prog 30 #[.int .i64 kind] w fun e w' => e = .returned (.string (fieldsB kind)) ∧ w' = w := by
  by_cases hk : kind = 1 ∨ kind = 2 ∨ kind = 3 ∨ kind = 4 ∨ kind = 11 ∨ kind = 12 ∨ kind = 13 ∨ kind = 14
  · rcases hk with rfl | rfl | rfl | rfl | rfl | rfl | rfl | rfl
    all_goals
      go_enter Tryd.func30, Tryd.ntmps30
      go_wp2
      go_ret
      exact ⟨rfl, rfl⟩
  · have hL : fieldsB kind = ⟨#[]⟩ := by
      unfold fieldsB fieldsL
      rw [if_neg (by omega), if_neg (by omega), if_neg (by omega), if_neg (by omega), if_neg (by omega), if_neg (by omega)]; rfl
    rw [hL]
    have k1 : ¬ kind = 1 := by omega
    have k2 : ¬ kind = 2 := by omega
    have k3 : ¬ kind = 3 := by omega
    have k4 : ¬ kind = 4 := by omega
    have k11 : ¬ kind = 11 := by omega
    have k12 : ¬ kind = 12 := by omega
    have k13 : ¬ kind = 13 := by omega
    have k14 : ¬ kind = 14 := by omega
    clear hL hk
    go_enter Tryd.func30, Tryd.ntmps30
    go_wp2
    go_ret
    exact ⟨rfl, rfl⟩
set_option maxRecDepth 100000 in
set_option maxHeartbeats 2000000 in
theorem rfits_any (n : Int) (k : Nat) (hk : k ≤ 12) (w : World) :
    Calls Tryd.prog 31 #[.int .i64 n, .int .i64 (k : Int)] w fun e w' => e = .returned (.bool (decide (0 ≤ n ∧ n < ((10 ^ k : Nat) : Int)))) ∧ w' = w := by
  have hki : (k : Int) ≤ 12 := by omega
  obtain ⟨M, hM⟩ : ∃ M : Nat, M = 10 ^ k := ⟨_, rfl⟩
  rw [← hM]
  have HMM := hide hM
  clear hM
  go_enter Tryd.func31, Tryd.ntmps31
  go_wp2_with fail
  go_loop [5, 6] (fun mv iv => ∃ i m : Nat, i ≤ k ∧ iv = .int .i64 (i : Int) ∧ mv = .int .i64 (m : Int) ∧ m = 10 ^ i) (fun _ iv => k - (intOf iv).toNat)
  case atStart => exact ⟨0, 1, Nat.zero_le _, rfl, rfl, rfl⟩
  case round =>
    obtain ⟨i, m, hi, rfl, rfl, hm⟩ := hrel
    by_cases hlt : i < k
    · have hlti : (i : Int) < (k : Int) := by omega
      have hmb : m ≤ 10 ^ 12 := by rw [hm]; exact Nat.pow_le_pow_right (by decide) (by omega)
      have hmi : (m : Int) ≤ 1000000000000 := by have : (10 : Nat) ^ 12 = 1000000000000 := by decide
                                                 omega
      have HM : Hid (m * 10 = 10 ^ (i + 1)) := hide (by rw [hm, Nat.pow_succ])
      clear hm hmb
      go_wp2
      go_round
      case rel => exact ⟨i + 1, m * 10, by omega, by go_num, by go_num, unhide HM⟩
      case measure => simp [intOf]; omega
    · have hlti : ¬ (i : Int) < (k : Int) := by omega
      have hik : i = k := by omega
      have hmM : m = M := by rw [hm, hik, unhide HMM]
      subst hmM
      by_cases h0 : 0 ≤ n
      · have hd : decide (0 ≤ n) = true := decide_eq_true h0
        have HQ : Hid (decide (0 ≤ n ∧ n < (m : Int)) = decide (n < (m : Int))) := hide (decide_eq_decide.2 (by omega))
        clear hm
        go_wp2
        go_ret
        first | exact ⟨rfl, rfl⟩ | exact ⟨ret_bool (unhide HQ).symm, rfl⟩
      · have hd : decide (0 ≤ n) = false := decide_eq_false h0
        have HQ : Hid (decide (0 ≤ n ∧ n < (m : Int)) = false) := hide (decide_eq_false (by omega))
        clear hm
        go_wp2
        go_ret
        first | exact ⟨rfl, rfl⟩ | exact ⟨ret_bool (unhide HQ).symm, rfl⟩
end Go.Proofs.YtkmmgeoialdmlaaDoor
