/- wire's messageOf. -/
import Derived.Test.YtkmmgeoialdmlaaDoorWireR
import Derived.Deep.AppendLies
import Derived.Deep.RegionLaw
namespace Go.Proofs.YtkmmgeoialdmlaaDoor
open Go.RowKit
set_option linter.unusedVariables false

theorem and_natW (a b : Nat) (ha : a < 2 ^ 63) (hb : b < 2 ^ 63) : bits .and .i64 (a : Int) (b : Int) = ((a &&& b : Nat) : Int) := (bits_nat .i64 63 (by decide) wraps_i64 a b ha hb).1
theorem or_natW (a b : Nat) (ha : a < 2 ^ 63) (hb : b < 2 ^ 63) : bits .or .i64 (a : Int) (b : Int) = ((a ||| b : Nat) : Int) := by
  have hx : a ||| b < 2 ^ 63 := Nat.or_lt_two_pow ha hb
  have hp : (2 : Nat) ^ 63 ≤ 2 ^ IntKind.i64.bits := by decide
  simp only [bits, BitVec.toNat_or, BitVec.toNat_ofInt]
  have ea : ((a : Int) % ((2 ^ IntKind.i64.bits : Nat) : Int)).toNat = a := by
    rw [← Int.natCast_emod, Int.toNat_natCast, Nat.mod_eq_of_lt (Nat.lt_of_lt_of_le ha hp)]
  have eb : ((b : Int) % ((2 ^ IntKind.i64.bits : Nat) : Int)).toNat = b := by
    rw [← Int.natCast_emod, Int.toNat_natCast, Nat.mod_eq_of_lt (Nat.lt_of_lt_of_le hb hp)]
  rw [ea, eb]
  exact wraps_i64 _ (by omega) (by exact_mod_cast hx)
theorem or_low (x b : Nat) (hx : x < 256) (hb : b < 256) : bits .or .i64 ((x : Int) * 256) (b : Int) = ((x * 256 + b : Nat) : Int) := by
  rw [show (x : Int) * 256 = ((x * 256 : Nat) : Int) by omega, or_natW (x * 256) b (by omega) (by omega)]
  congr 1
  have : x * 256 = x <<< 8 := by rw [Nat.shiftLeft_eq]
  rw [this, Nat.shiftLeft_add_eq_or_of_lt (by simpa using hb)]
theorem and_pow (T k : Nat) : T &&& 2 ^ k = if T / 2 ^ k % 2 = 1 then 2 ^ k else 0 := by
  apply Nat.eq_of_testBit_eq
  intro i
  rw [Nat.testBit_and, Nat.testBit_two_pow]
  by_cases h : k = i
  · subst h
    rw [Nat.testBit_eq_decide_div_mod_eq]
    split
    · rename_i h1
      rw [Nat.testBit_two_pow]
      simp [h1]
    · rename_i h1
      simp [h1]
  · split
    · rw [Nat.testBit_two_pow]
      simp [h]
    · simp [h]
theorem and_bit (T n : Nat) (hT : T < 65536) (h1 : 1 ≤ n) (h16 : n ≤ 16) : (bits .and .i64 (T : Int) ((bitN n : Nat) : Int) != 0) = decide (T / 2 ^ (16 - n) % 2 = 1) := by
  have hp : bitN n < 2 ^ 63 := Nat.pow_lt_pow_right (by decide) (by omega)
  rw [and_natW T (bitN n) (by omega) hp]
  unfold bitN
  rw [and_pow]
  have hpos : 0 < 2 ^ (16 - n) := Nat.pow_pos (by decide)
  by_cases h : T / 2 ^ (16 - n) % 2 = 1
  · rw [decide_eq_true h, if_pos h, bne_iff_ne]
    omega
  · rw [decide_eq_false h, if_neg h]
    rfl
def cellsPt (l : List Prt) : List Value := l.flatMap fun p => [.int .i64 p.1, .string p.2]
theorem cellsPt_snoc (l : List Prt) (p : Prt) : cellsPt (l ++ [p]) = cellsPt l ++ [.int .i64 p.1, .string p.2] := by simp [cellsPt]
theorem infoPart : (Tryd.prog.info? 45).map (fun i => (i.zero, i.size, i.bytes)) = some (some (.agg #[.int .i64 0, .string ⟨#[]⟩]), 2, 24) := by kernel_rfl
/-- a call of a Go function with one or two arguments, as a step of a region that draws -/
theorem step_call1 {P : Program} {ops : Array Oper} {o : Oper} {a : Act} {w : World} {K : Act → World → Prop} {Q : Exit → Act → World → Prop} {E : Prop} (hgd : o.guard = none) (f : FuncId) (x : Operand) (ts : Array TypeId)
    (ho : o.op = .call { callee := .value (.func f), args := #[x], argTypes := ts }) (v : Value) (hx : a.eval x = v) (hf : ∀ args w, (callFunc f args).run P w = .ok (.enter f args) w)
    {S : Ending → World → Prop} (hc : Calls P f #[v] w S) (hv : ∀ e w', S e w' → ∃ v, e = .returned v ∧ K (a.put o.dst v) w') :
    if Region.wanted o (yielded ops a.tmps) = true then Oper.wp P o a w K Q else E := by
  have hw : Region.wanted o (yielded ops a.tmps) = true := by simp [Region.wanted, hgd]
  rw [if_pos hw]
  obtain ⟨dst, op, ty, pos, after, guard⟩ := o
  cases ho
  have hrun : (execOp a.eval { dst, op := .call { callee := .value (.func f), args := #[x], argTypes := ts }, type := ty, pos, after, guard }).run P w = .ok (.enter f #[v]) w := by
    show (callFunc f (#[] ++ #[x].map a.eval ++ #[])).run P w = _
    have e : (#[] ++ #[x].map a.eval ++ #[]) = #[v] := by simp [hx]
    rw [e]; exact hf _ _
  unfold Oper.wp
  rw [hrun, Oper.upon_enter]
  refine hc.mono fun e w' hh => ?_
  obtain ⟨v, rfl, hk⟩ := hv e w' hh
  exact hk
theorem step_call2 {P : Program} {ops : Array Oper} {o : Oper} {a : Act} {w : World} {K : Act → World → Prop} {Q : Exit → Act → World → Prop} {E : Prop} (hgd : o.guard = none) (f : FuncId) (x y : Operand) (ts : Array TypeId)
    (ho : o.op = .call { callee := .value (.func f), args := #[x, y], argTypes := ts }) (u v : Value) (hx : a.eval x = u) (hy : a.eval y = v) (hf : ∀ args w, (callFunc f args).run P w = .ok (.enter f args) w)
    {S : Ending → World → Prop} (hc : Calls P f #[u, v] w S) (hv : ∀ e w', S e w' → ∃ v, e = .returned v ∧ K (a.put o.dst v) w') :
    if Region.wanted o (yielded ops a.tmps) = true then Oper.wp P o a w K Q else E := by
  have hw : Region.wanted o (yielded ops a.tmps) = true := by simp [Region.wanted, hgd]
  rw [if_pos hw]
  obtain ⟨dst, op, ty, pos, after, guard⟩ := o
  cases ho
  have hrun : (execOp a.eval { dst, op := .call { callee := .value (.func f), args := #[x, y], argTypes := ts }, type := ty, pos, after, guard }).run P w = .ok (.enter f #[u, v]) w := by
    show (callFunc f (#[] ++ #[x, y].map a.eval ++ #[])).run P w = _
    have e : (#[] ++ #[x, y].map a.eval ++ #[]) = #[u, v] := by simp [hx, hy]
    rw [e]; exact hf _ _
  unfold Oper.wp
  rw [hrun, Oper.upon_enter]
  refine hc.mono fun e w' hh => ?_
  obtain ⟨v, rfl, hk⟩ := hv e w' hh
  exact hk
theorem ent_form (args : Array Value) (w : World) : (callFunc 14 args).run Tryd.prog w = .ok (.enter 14 args) w := by kernel_rfl
theorem ent_part (args : Array Value) (w : World) : (callFunc 40 args).run Tryd.prog w = .ok (.enter 40 args) w := by kernel_rfl
/-- the message that is read, where it lies -/
structure MsgAt (w : World) (mb base : Nat) (k : Int) (v : Value) (l : List Prt) : Prop where
  blk : w.heap[mb]? = some (.cells #[.int .i64 k, v] 24 (0, 0))
  own : w.ownsRow base 45 2 v l.length (cellsPt l)
  lt : mb < base
theorem MsgAt.kept {w w' : World} {mb base : Nat} {k : Int} {v : Value} {l : List Prt} (h : MsgAt w mb base k v l) (h1 : w'.heap[mb]? = w.heap[mb]?) (h2 : ∀ q, v.ownBlock = some q → w'.heap[q]? = w.heap[q]?) : MsgAt w' mb base k v l := by
  refine ⟨h1.trans h.blk, ⟨h.own.1, ?_⟩, h.lt⟩
  rcases h.own.2 with hn | ⟨g, cap, cur, rfl, h3, h4, h5⟩
  · exact .inl hn
  · exact .inr ⟨g, cap, cur, rfl, h3, (h2 g rfl).trans h4, h5⟩
theorem MsgAt.block {w : World} {mb base : Nat} {k : Int} {v : Value} {l : List Prt} (h : MsgAt w mb base k v l) : ∀ q, v.ownBlock = some q → base ≤ q ∧ q < w.heap.size := by
  intro q hq
  rcases h.own.2 with ⟨rfl, _⟩ | ⟨g, cap, cur, rfl, h3, h4, h5⟩
  · cases hq
  · cases hq
    refine ⟨h3, ?_⟩
    rcases Nat.lt_or_ge g w.heap.size with hlt | hge
    · exact hlt
    · rw [Array.getElem?_eq_none hge] at h4; cases h4
theorem MsgAt.keep {w w' : World} {mb base rb : Nat} {k : Int} {v : Value} {l : List Prt} (h : MsgAt w mb base k v l) (hk : KeepR rb w w') (hm : mb ≠ rb) (hr : rb < base) (hb : base ≤ w.heap.size) : MsgAt w' mb base k v l :=
  h.kept (hk.block mb (by have := h.lt; omega) hm) fun q hq => hk.block q (h.block q hq).2 (by have := (h.block q hq).1; omega)
end Go.Proofs.YtkmmgeoialdmlaaDoor
