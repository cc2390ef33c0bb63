/- Parse of the program; sameItems of the law, of one list that lies twice. -/
import Derived.Test.YtamamlpicookiahParseI
namespace Go.Proofs.Ytamamlpicookiah
open Go.RowKit
set_option linter.unusedVariables false

theorem item_wt {d : Nat} {s : ByteArray} {x : It} {r : ByteArray} (ih : ∀ s l, parseD d s = some l → wt d l ≤ s.size) (h : itemAt (parseD d) s = some (x, r)) : 1 + x.text.size + wt d x.list + r.size ≤ s.size := by
  have h1 := (tagSz_le s.data.toList).1
  unfold itemAt at h
  split at h
  · cases h
  · split at h
    · cases h
    · split at h
      · cases h
      · rename_i n k hl
        have hk := lenAt_lt hl
        rw [behind_size] at hk
        split at h
        · cases h
        · rename_i hn
          rw [behind_size, behind_size] at hn
          split at h
          · cases hp : parseD d ((behind (behind s (tagSz s.data.toList)) k).extract 0 n) with
            | none => rw [hp] at h; cases h
            | some l =>
              rw [hp] at h
              have e := Option.some.inj h
              have e1 := (Prod.ext_iff.1 e).1
              have e2 := (Prod.ext_iff.1 e).2
              simp only at e1 e2
              have := ih _ _ hp
              rw [ByteArray.size_extract, behind_size, behind_size] at this
              rw [← e1, ← e2, behind_size, behind_size, behind_size]
              simp only [It.text, It.list]
              have : (⟨#[]⟩ : ByteArray).size = 0 := rfl
              omega
          · have e := Option.some.inj h
            have e1 := (Prod.ext_iff.1 e).1
            have e2 := (Prod.ext_iff.1 e).2
            simp only at e1 e2
            rw [← e1, ← e2, behind_size, behind_size, behind_size]
            simp only [It.text, It.list, wt_nil]
            rw [ByteArray.size_extract, behind_size, behind_size]
            omega
theorem list_wt {d : Nat} (ih : ∀ s l, parseD d s = some l → wt d l ≤ s.size) : ∀ (f : Nat) (s : ByteArray) (l : List It), listP (parseD d) f s = some l → wt (d + 1) l ≤ s.size
  | 0, s, l, h => by
    unfold listP at h
    split at h
    · cases h; simp [wt]
    · cases h
  | f + 1, s, l, h => by
    by_cases hz : s.size = 0
    · rw [listP_empty _ _ hz] at h; cases h; simp [wt]
    · rw [listP_step hz] at h
      cases hi : itemAt (parseD d) s with
      | none => rw [hi] at h; cases h
      | some xr =>
        obtain ⟨x, r⟩ := xr
        rw [hi] at h
        simp only at h
        cases hr : listP (parseD d) f r with
        | none => rw [hr] at h; cases h
        | some m =>
          rw [hr] at h
          have h1 := item_wt ih hi
          have h2 := list_wt ih f r m hr
          have e : l = x :: m := (Option.some.inj h).symm
          rw [e]
          simp only [wt, List.map_cons, List.sum_cons] at h2 ⊢
          omega
theorem parse_wt : ∀ (d : Nat) (s : ByteArray) (l : List It), parseD d s = some l → wt d l ≤ s.size
  | 0, s, l, h => by simp [wt]
  | d + 1, s, l, h => list_wt (parse_wt d) s.size s l h

/-- what Parse answers -/
def parsesL (s : ByteArray) : List It := if 65535 < s.size then [] else (parseD 8 s).getD []
def parsesE (s : ByteArray) : Int := if 65535 < s.size then 2 else if (parseD 8 s).isSome then 0 else 1
theorem parses_wt (s : ByteArray) : wt 8 (parsesL s) ≤ 65535 := by
  unfold parsesL
  split
  · rw [wt_nil]; omega
  · cases h : parseD 8 s with
    | none => simp [wt_nil]
    | some l => have := parse_wt 8 s l h; simp only [Option.getD_some]; omega

set_option maxRecDepth 1000000 in
theorem parse_any (s : ByteArray) (w : World) (hs : s.size ≤ maxLen) :
    Calls Try.prog 19 #[.string s] w fun e w' => ∃ ao cap, e = .returned (.tuple #[.slice ao (parsesL s).length cap, .int .i64 (parsesE s)]) ∧ (parsesL s).length ≤ cap ∧ IRowA w' (fun b => w.heap.size ≤ b) 8 ao (parsesL s) ∧ Below w.heap.size w w' := by
  unfold maxLen at hs
  by_cases hb : 65535 < s.size
  · have h1 : parsesL s = [] := by unfold parsesL; rw [if_pos hb]
    have h2 : parsesE s = 2 := by unfold parsesE; rw [if_pos hb]
    rw [h1, h2]
    have t1 : decide (65535 < (s.size : Int)) = true := by simp; omega
    clear h1 h2
    go_enter Try.func19, Try.ntmps19
    go_wp2
    go_ret2
    exact ⟨none, 0, rfl, Nat.le_refl _, IRowA.nil _ _ _ _, Below.refl _ _⟩
  · have n1 := fun w => parseItems_any 8 (Nat.le_refl _) s w (by omega)
    have h1 : parsesL s = (parseD 8 s).getD [] := by unfold parsesL; rw [if_neg hb]
    have h2 : parsesE s = if (parseD 8 s).isSome then 0 else 1 := by unfold parsesE; rw [if_neg hb]
    rw [h1, h2]
    have hd : (9 : Int) - ((8 : Nat) : Int) = 1 := by omega
    rw [hd] at n1
    have t1 : decide (65535 < (s.size : Int)) = false := by simp; omega
    clear h1 h2 hd
    cases hp : parseD 8 s with
    | none =>
      rw [hp] at n1
      have N1 := hide n1
      clear n1 hp hb
      go_enter Try.func19, Try.ntmps19
      go_wp2_with fail
      refine (unhide N1 _).mono ?_
      rintro e w2 ⟨⟨v, n, cap, rfl⟩, hb2⟩
      go_wp2
      go_ret2
      first
        | exact ⟨none, 0, rfl, Nat.le_refl _, IRowA.nil _ _ _ _, hb2⟩
        | exact ⟨none, ⟨0, rfl⟩, IRowA.nil _ _ _ _, hb2⟩
    | some l =>
      rw [hp] at n1
      have N1 := hide n1
      clear n1 hp hb
      go_enter Try.func19, Try.ntmps19
      go_wp2_with fail
      refine (unhide N1 _).mono ?_
      rintro e w2 ⟨⟨ao, cap, rfl, hcap, hrow⟩, hb2⟩
      have HW := hide hrow
      clear hrow
      go_wp2
      go_ret2
      exact ⟨ao, cap, rfl, hcap, unhide HW, hb2⟩

theorem below_self (w : World) (q : Nat) : Below w.heap.size w (w.drewN q) := ⟨rfl, rfl, rfl, Nat.le_refl _, fun _ _ => rfl⟩

end Go.Proofs.Ytamamlpicookiah
