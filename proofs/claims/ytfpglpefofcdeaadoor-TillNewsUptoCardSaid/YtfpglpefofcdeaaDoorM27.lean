/- appendHead of the program, onto a row of one's own; a string appended in a region that draws. -/
import Derived.Test.YtfpglpefofcdeaaDoorM26
import Derived.Lib.AppendStr
import Derived.Deep.RegionHeld3
namespace Go.Proofs.YtfpglpefofcdeaaDoor
open Go.RowKit
set_option linter.unusedVariables false

/-- a length's bytes -/
def lenL (n : Nat) : List Int := if n < 128 then [(n : Int)] else if n < 256 then [129, (n : Int)] else [130, (n : Int) / 256, (n : Int) % 256]
theorem lenL_length (n : Nat) : (lenL n).length = lenLen n := by unfold lenL lenLen; split <;> (try split) <;> rfl

/-- two growths of one row, one behind the other -/
theorem grown_two {w w1 w2 : World} {row : Option Nat} {g : Nat} (h1 : w.grownBy w1 row) (o : Obj) (h2 : (w1.alloc o).grownBy w2 (some g)) (hg : row = some g ∨ w.heap.size ≤ g) : w.grownBy w2 row :=
  ⟨h2.os.trans h1.os, h2.tape.trans h1.tape, h2.output.trans h1.output, by have := h1.size; have := h2.size; simp at this; omega, fun k hk hne => by
    have hs := h1.size
    rw [h2.block k (by simp; omega) (fun e => by
      rcases hg with h | h
      · exact hne (by rw [h, ← e])
      · have := Option.some.inj e; omega), Below.heap_alloc _ _ _ (by omega)]
    exact h1.block k hk hne⟩

set_option maxRecDepth 100000 in
set_option maxHeartbeats 2000000 in
theorem appendHead_any (t l : Nat) (base n : Nat) (v : Value) (xs : List Value) (w : World) (ht : t < 16777216) (hl : l < 65536) (hown : w.ownsRow base 5 1 v n xs) (hn : n ≤ 900000) (hbase : base ≤ w.heap.size) :
    Calls Tryd.prog 84 #[v, .int .i64 t, .int .i64 l] w fun e w' => ∃ g cap, e = .returned (.slice (some ⟨g, 0, none⟩) (n + tagLen t + lenLen l) cap) ∧ w'.ownsRow base 5 1 (.slice (some ⟨g, 0, none⟩) (n + tagLen t + lenLen l) cap) (n + tagLen t + lenLen l) (xs ++ ((tagL t).map (Value.int .u8) ++ (lenL l).map (Value.int .u8))) ∧ w.grownBy w' v.ownBlock ∧ (v.ownBlock = some g ∨ w.heap.size ≤ g) := by
  obtain ⟨i0, hi, hz0, hz1, hz2⟩ := info_parts infoByte
  have N1 := hide (appendTag_any t base n v xs w ht hown (by omega) hbase)
  have h3 := tagLen_le t
  have HN := hide hn
  generalize tagLen t = k at *
  generalize (tagL t).map (Value.int .u8) = tl at *
  clear hown hn
  by_cases c1 : l < 128
  · have hL : lenLen l = 1 := by unfold lenLen; rw [if_pos c1]
    have hB : (lenL l).map (Value.int .u8) = [.int .u8 ((l : Int))] := by unfold lenL; rw [if_pos c1]; rfl
    rw [hL, hB]
    clear hL hB
    go_enter Tryd.func84, Tryd.ntmps84
    go_wp2_with fail
    refine (unhide N1).mono ?_
    rintro e w1 ⟨g1, cap1, rfl, own1, grow1, hg1⟩
    go_wp2_with (at_builtin; refine wpList_append_lies _ rfl _ _ 114 rfl base 5 i0 (.int .u8 0) 1 1 Tryd.underlying114 hi hz0 hz1 hz2 rfl (by decide) _ _ _ rfl (own1.alloc _) ⟨w1.heap.size, 0, none⟩ 1 1 [.int .u8 ((l : Int))] rfl rfl (cell_one_new _ _ _) ?c2 (by omega) ?c3 ?c4 ?c5 (w1.heap.size + 1) (by simp) ?_)
    case c2 => intro u hu; simp at hu; subst hu; rfl
    case c3 => have := unhide HN; unfold maxLen; omega
    case c4 => have := unhide HN; omega
    case c5 => have := grow1.size; simp; omega
    intro g cap w2 hown' hgrow hat hlt
    go_wp2
    go_ret
    exact ⟨_, _, rfl, by rw [← List.append_assoc]; first | exact hown' | (rw [List.append_assoc]; exact hown'), grown_two grow1 _ hgrow hg1, by
      rcases hat with h | h
      · have e : g1 = g := by simpa [Value.ownBlock] using h
        rw [← e]; exact hg1
      · right; have := grow1.size; omega⟩
  · by_cases c2 : l < 256
    · have hL : lenLen l = 2 := by unfold lenLen; rw [if_neg c1, if_pos c2]
      have hB : (lenL l).map (Value.int .u8) = [.int .u8 129, .int .u8 ((l : Int))] := by unfold lenL; rw [if_neg c1, if_pos c2]; rfl
      rw [hL, hB]
      clear hL hB
      go_enter Tryd.func84, Tryd.ntmps84
      go_wp2_with fail
      refine (unhide N1).mono ?_
      rintro e w1 ⟨g1, cap1, rfl, own1, grow1, hg1⟩
      go_wp2_with (at_builtin; refine wpList_append_lies _ rfl _ _ 114 rfl base 5 i0 (.int .u8 0) 1 1 Tryd.underlying114 hi hz0 hz1 hz2 rfl (by decide) _ _ _ rfl (own1.alloc _) ⟨w1.heap.size, 0, none⟩ 2 2 [.int .u8 129, .int .u8 ((l : Int))] rfl rfl (two_new _ _ _ _) ?c2 (by omega) ?c3 ?c4 ?c5 (w1.heap.size + 1) (by simp) ?_)
      case c2 => intro u hu; simp at hu; rcases hu with rfl | rfl <;> rfl
      case c3 => have := unhide HN; unfold maxLen; omega
      case c4 => have := unhide HN; omega
      case c5 => have := grow1.size; simp; omega
      intro g cap w2 hown' hgrow hat hlt
      go_wp2
      go_ret
      exact ⟨_, _, rfl, by rw [← List.append_assoc]; first | exact hown' | (rw [List.append_assoc]; exact hown'), grown_two grow1 _ hgrow hg1, by
        rcases hat with h | h
        · have e : g1 = g := by simpa [Value.ownBlock] using h
          rw [← e]; exact hg1
        · right; have := grow1.size; omega⟩
    · have hL : lenLen l = 3 := by unfold lenLen; rw [if_neg c1, if_neg c2]
      have hB : (lenL l).map (Value.int .u8) = [.int .u8 130, .int .u8 ((l : Int) / 256), .int .u8 ((l : Int) % 256)] := by unfold lenL; rw [if_neg c1, if_neg c2]; rfl
      rw [hL, hB]
      clear hL hB
      go_enter Tryd.func84, Tryd.ntmps84
      go_wp2_with fail
      refine (unhide N1).mono ?_
      rintro e w1 ⟨g1, cap1, rfl, own1, grow1, hg1⟩
      go_wp2_with (at_builtin; refine wpList_append_lies _ rfl _ _ 114 rfl base 5 i0 (.int .u8 0) 1 1 Tryd.underlying114 hi hz0 hz1 hz2 rfl (by decide) _ _ _ rfl (own1.alloc _) ⟨w1.heap.size, 0, none⟩ 3 3 [.int .u8 130, .int .u8 ((l : Int) / 256), .int .u8 ((l : Int) % 256)] rfl rfl (three_new _ _ _ _ _) ?c2 (by omega) ?c3 ?c4 ?c5 (w1.heap.size + 1) (by simp) ?_)
      case c2 => intro u hu; simp at hu; rcases hu with rfl | rfl | rfl <;> rfl
      case c3 => have := unhide HN; unfold maxLen; omega
      case c4 => have := unhide HN; omega
      case c5 => have := grow1.size; simp; omega
      intro g cap w2 hown' hgrow hat hlt
      go_wp2
      go_ret
      exact ⟨_, _, rfl, by rw [← List.append_assoc]; first | exact hown' | (rw [List.append_assoc]; exact hown'), grown_two grow1 _ hgrow hg1, by
        rcases hat with h | h
        · have e : g1 = g := by simpa [Value.ownBlock] using h
          rw [← e]; exact hg1
        · right; have := grow1.size; omega⟩

theorem wp_append_string {P : Program} (w : World) {o : Oper} {a : Act} {K : Act → World → Prop} {Q : Exit → Act → World → Prop} (sl x : Operand) (t u : TypeId)
    (ho : o.op = .call { callee := .builtin .append, args := #[sl, x], argTypes := #[t, u] })
    (base : Nat) (e : TypeId) (i : TypeInfo) (ht : P.underlying t = some (.slice e)) (hu : P.underlying u = some .string) (hi : P.info? e = some i) (hz : i.zero = some (.int .u8 0))
    (hsize : i.size = 1) (hby : i.bytes = 1)
    (v : Value) (n : Nat) (xs : List Value) (hs : a.eval sl = v) (hown : w.ownsRow base e 1 v n xs) (s : ByteArray) (hx : a.eval x = .string s)
    (h63 : n + s.size ≤ maxLen) (hbytes : n + s.size ≤ 140737488355328) (hbase : base ≤ w.heap.size)
    (h : ∀ v' w', w'.ownsRow base e 1 v' (n + s.size) (xs ++ Lib.strCells s) → w.grownBy w' v.ownBlock → K (a.put o.dst v') w') : o.wp P a w K Q := by
  obtain ⟨v', w', hr, h2, h3, h4⟩ := Lib.run_append_own_string (P := P) w base t u o.type e i ht hu hi hz hsize hby v n xs hown s h63 hbytes hbase
  unfold Oper.wp execOp
  simp only [ho, resolve, invoke, builtin, Sem.run_bind, Sem.run_pure, Result.andThen_ok, List.map_toArray, List.map_cons, List.map_nil, hs, hx, hr]
  exact h v' w' h2 h3
theorem step_append_string {P : Program} (w : World) {ops : Array Oper} {o : Oper} {a : Act} {K : Act → World → Prop} {Q : Exit → Act → World → Prop} {E : Prop} (hgd : o.guard = none) (sl x : Operand) (t u : TypeId)
    (ho : o.op = .call { callee := .builtin .append, args := #[sl, x], argTypes := #[t, u] })
    (base : Nat) (e : TypeId) (i : TypeInfo) (ht : P.underlying t = some (.slice e)) (hu : P.underlying u = some .string) (hi : P.info? e = some i) (hz : i.zero = some (.int .u8 0))
    (hsize : i.size = 1) (hby : i.bytes = 1)
    (v : Value) (n : Nat) (xs : List Value) (hs : a.eval sl = v) (hown : w.ownsRow base e 1 v n xs) (s : ByteArray) (hx : a.eval x = .string s)
    (h63 : n + s.size ≤ maxLen) (hbytes : n + s.size ≤ 140737488355328) (hbase : base ≤ w.heap.size)
    (h : ∀ v' w', w'.ownsRow base e 1 v' (n + s.size) (xs ++ Lib.strCells s) → w.grownBy w' v.ownBlock → K (a.put o.dst v') w') :
    if Region.wanted o (yielded ops a.tmps) = true then Oper.wp P o a w K Q else E := by
  have hw : Region.wanted o (yielded ops a.tmps) = true := by simp [Region.wanted, hgd]
  rw [if_pos hw]
  exact wp_append_string w sl x t u ho base e i ht hu hi hz hsize hby v n xs hs hown s hx h63 hbytes hbase h
end Go.Proofs.YtfpglpefofcdeaaDoor
