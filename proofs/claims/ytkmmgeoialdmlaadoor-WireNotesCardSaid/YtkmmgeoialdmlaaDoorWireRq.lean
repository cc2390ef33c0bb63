/- The reference's Unpack: what is plain. -/
import Derived.Test.YtkmmgeoialdmlaaDoorWireRd
import Derived.Test.YtkmmgeoialdmlaaDoorWireRp
import Derived.Test.YtkmmgeoialdmlaaDoorWireVl
namespace Go.Proofs.YtkmmgeoialdmlaaDoor
open Go.RowKit
set_option linter.unusedVariables false

def pkL (n : Nat) (l : List UInt8) : Nat := if 0 < fahead n then valD (l.take (fahead n)) else fmost n
theorem partR_none1 {n : Nat} {l : List UInt8} (h0 : 0 < fahead n) (h : l.length < fahead n ∨ (l.take (fahead n)).all isDig = false) : partR n l = none := by
  unfold partR; rw [if_pos h0, if_pos h]
theorem partR_none2 {n : Nat} {l : List UInt8} (hok : 0 < fahead n → ¬ (l.length < fahead n ∨ (l.take (fahead n)).all isDig = false)) (h : l.length < fahead n + pkL n l) : partR n l = none := by
  unfold partR
  unfold pkL at h
  by_cases h0 : 0 < fahead n
  · rw [if_pos h0] at h
    rw [if_pos h0, if_neg (hok h0), if_pos h]
  · rw [if_neg h0] at h
    rw [if_neg h0, if_pos (by omega)]
theorem partR_some {n : Nat} {l : List UInt8} (hok : 0 < fahead n → ¬ (l.length < fahead n ∨ (l.take (fahead n)).all isDig = false)) (h : ¬ l.length < fahead n + pkL n l) : partR n l = some ((l.drop (fahead n)).take (pkL n l), l.drop (fahead n + pkL n l)) := by
  unfold partR
  unfold pkL at h ⊢
  by_cases h0 : 0 < fahead n
  · rw [if_pos h0] at h ⊢
    rw [if_pos h0, if_neg (hok h0), if_neg h]
  · rw [if_neg h0] at h ⊢
    have e : fahead n = 0 := by omega
    rw [if_neg h0, if_neg (by omega), e]
    simp
theorem extr_list (s : ByteArray) (a b : Nat) : (s.extract a b).data.toList = (s.data.toList.drop a).take (b - a) := by
  rw [ByteArray.data_extract, Array.toList_extract]
theorem len_list (s : ByteArray) : s.data.toList.length = s.size := by rw [Array.length_toList]; rfl
theorem valD_lt : ∀ (k : Nat) (l : List UInt8), l.length ≤ k → l.all isDig = true → valD l < 10 ^ k := by
  intro k l hl h
  have h1 := digs_valD l.length l rfl h
  have h2 := valD_digs l.length (valD l)
  rw [h1] at h2
  rw [h2]
  exact Nat.lt_of_lt_of_le (Nat.mod_lt _ (Nat.pow_pos (by decide))) (Nat.pow_le_pow_right (by decide) hl)
theorem valD_next (l : List UInt8) (q : Nat) (b : UInt8) (h : l[q]? = some b) : valD (l.take (q + 1)) = 10 * valD (l.take q) + (b.toNat - 48) := by
  rw [List.take_add_one, h]; exact valD_snoc _ _
theorem unp_no (s : ByteArray) : unpR s = none → unpK s = 0 ∧ unpL s = [] ∧ unpE s = 1 := by
  intro h
  have hb : unpB s = false := by
    cases hb : unpB s with
    | false => rfl
    | true => rw [unpR_same, hb] at h; cases h
  unfold unpK unpL unpE
  rw [hb]
  exact ⟨rfl, rfl, rfl⟩
theorem unp_yes (s : ByteArray) : ∀ k l, unpR s = some (k, l) → unpK s = k ∧ unpL s = l ∧ unpE s = 0 := by
  intro k l h
  have hb : unpB s = true := by
    cases hb : unpB s with
    | true => rfl
    | false => rw [unpR_same, hb] at h; cases h
  rw [unpR_same, hb] at h
  have e := Option.some.inj h
  unfold unpK unpL unpE
  rw [hb, e]
  exact ⟨rfl, rfl, rfl⟩
theorem unpR_short (s : ByteArray) (h : s.data.toList.length < 4 ∨ (s.data.toList.take 2).all isDig = false) : unpR s = none := by
  unfold unpR msgR; rw [if_pos h]; rfl
theorem unpR_read (s : ByteArray) (h : ¬ (s.data.toList.length < 4 ∨ (s.data.toList.take 2).all isDig = false)) :
    unpR s = ((readR 16 1 (bitsL ((s.data.toList.drop 2).take 2)) (s.data.toList.drop 4)).map (((valD (s.data.toList.take 2) : Nat) : Int), ·)).filter fun m => decide (packE m.1 m.2 = 0 ∧ packS m.1 m.2 = s) := by
  unfold unpR msgR; rw [if_neg h]
/-- two blocks that hold no message -/
def NoneAt (w wx : World) : Prop := wx.heap[w.heap.size]? = some (.cells #[.int .i64 0, .slice none 0 0] 24 (0, 0)) ∧ wx.heap[w.heap.size + 1]? = some (.cells #[.int .i64 0, .slice none 0 0] 24 (0, 0))
theorem NoneAt.cells {w wx : World} (h : NoneAt w wx) : wx.cell? ⟨w.heap.size, 0, none⟩ = some (.int .i64 0) ∧ wx.cell? ⟨w.heap.size, 1, none⟩ = some (.slice none 0 0) ∧ wx.cell? ⟨w.heap.size + 1, 0, none⟩ = some (.int .i64 0) ∧ wx.cell? ⟨w.heap.size + 1, 1, none⟩ = some (.slice none 0 0) ∧ wx.frozen? ⟨w.heap.size, 0, none⟩ = false ∧ wx.frozen? ⟨w.heap.size, 1, none⟩ = false :=
  ⟨(cell_of_row _ _ 0 _ _ _ h.1).trans rfl, (cell_of_row _ _ 1 _ _ _ h.1).trans rfl, (cell_of_row _ _ 0 _ _ _ h.2).trans rfl, (cell_of_row _ _ 1 _ _ _ h.2).trans rfl, frozen_of_row _ _ 0 _ _ h.1, frozen_of_row _ _ 1 _ _ h.1⟩
theorem NoneAt.kept {w a b : World} {B : Nat} (h : NoneAt w a) (hb : Below B a b) (hB : w.heap.size + 1 < B) : NoneAt w b := ⟨(hb.block _ (by omega)).trans h.1, (hb.block _ hB).trans h.2⟩
def RUInv (w : World) (mb base : Nat) (kd : Int) (T : Nat) (L : Option (List Prt)) (nv rv : Value) (wx : World) : Prop :=
  ∃ (n : Nat) (l : List Prt) (v : Value) (rest : ByteArray), 1 ≤ n ∧ n ≤ 17 ∧ nv = .int .i64 (n : Int) ∧ rv = .string rest ∧ rest.size ≤ 9223372036854775807 ∧ MsgAt wx mb base kd v l ∧ l.length < n ∧ (readR (17 - n) n T rest.data.toList).map (l ++ ·) = L ∧ Below w.heap.size w wx ∧ base ≤ wx.heap.size ∧ NoneAt w wx ∧ (∀ p ∈ l, (-9223372036854775808 ≤ p.1 ∧ p.1 ≤ 9223372036854775807) ∧ p.2.size ≤ maxLen)
/-- one field more -/
theorem rmsg_more {w w9 v1 w3 : World} {mb base n g cap : Nat} {kd : Int} {T : Nat} {L : Option (List Prt)} {l : List Prt} {v : Value} {tx rx : ByteArray} (hmw : w.heap.size + 2 ≤ mb) (hbs : base ≤ w9.heap.size) (hn1 : 1 ≤ n) (hn : n ≤ 16) (hln : l.length < n)
    (hb5 : Below w.heap.size w w9) (hx5 : NoneAt w w9) (hb1 : Below w9.heap.size w9 v1) (htz : rx.size ≤ 9223372036854775807) (hxz : tx.size ≤ 9223372036854775807)
    (hm5 : MsgAt w9 mb base kd v l) (hg3 : (v1.alloc (.cells #[.int .i64 (n : Int), .string tx] 45)).grownBy w3 v.ownBlock)
    (ho3 : w3.ownsRow base 45 2 (.slice (some ⟨g, 0, none⟩) (l.length + 1) cap) (l.length + 1) (cellsPt l ++ [.int .i64 (n : Int), .string tx])) (hb3 : w3.heap[mb]? = some (.cells #[.int .i64 kd, v] 24 (0, 0)))
    (hl5 : (readR (16 - n) (n + 1) T rx.data.toList).map (l ++ [((n : Int), tx)] ++ ·) = L) (hp : ∀ p ∈ l, (-9223372036854775808 ≤ p.1 ∧ p.1 ≤ 9223372036854775807) ∧ p.2.size ≤ maxLen) (iv rv : Value) (hiv : iv = .int .i64 ((n + 1 : Nat) : Int)) (hrv : rv = .string rx) :
    RUInv w mb base kd T L iv rv (w3.setCell ⟨mb, 1, none⟩ (.slice (some ⟨g, 0, none⟩) (l.length + 1) cap)) := by
  have hs1 : w9.heap.size ≤ v1.heap.size := hb1.size
  have hmb := hm5.lt
  have hm2 : MsgAt v1 mb base kd v l := hm5.kept (hb1.block mb (by omega)) (fun q hq => hb1.block q (hm5.block q hq).2)
  have hKE : ∀ q, q < v1.heap.size → q ≠ mb → q < base → (w3.setCell ⟨mb, 1, none⟩ (.slice (some ⟨g, 0, none⟩) (l.length + 1) cap)).heap[q]? = v1.heap[q]? := fun q hq hqm hqb =>
    (set_otherW hqm).trans ((hg3.block q (by simp; omega) (fun e => by have := (hm2.block q e.symm).1; omega)).trans (Below.heap_alloc _ _ _ hq))
  have hq2 : Below w.heap.size w v1 := hb5.trans (hb1.mono hb5.size)
  have hN : NoneAt w v1 := hx5.kept hb1 (by omega)
  refine ⟨n + 1, l ++ [((n : Int), tx)], .slice (some ⟨g, 0, none⟩) (l.length + 1) cap, rx, by omega, by omega, hiv, hrv, htz, ⟨?_, ?_, hmb⟩, by rw [List.length_append]; simp; omega, ?_, ?_, ?_, ⟨(hKE _ (by omega) (by omega) (by omega)).trans hN.1, (hKE _ (by omega) (by omega) (by omega)).trans hN.2⟩, ?_⟩
  · rw [setCell_eq_setRow w3 mb 1 _ _ _ _ hb3, setRow_heap w3 mb _ _ _ _ hb3]
    rfl
  · rw [cellsPt_snoc, List.length_append]
    exact ownsRow_setCell_below ho3 hmb _
  · rw [show 17 - (n + 1) = 16 - n by omega]
    exact hl5
  · exact ((hq2.alloc (by have := hb5.size; omega) _).grown hg3 (by simp; have := hb5.size; omega) (fun q hq => by have := (hm2.block q hq).1; omega)).setCell (p := ⟨mb, 1, none⟩) (by show w.heap.size ≤ mb; omega) _
  · have := hg3.size
    simp at this ⊢
    omega
  · intro p hpm
    rcases List.mem_append.1 hpm with h | h
    · exact hp p h
    · rw [List.mem_singleton.1 h]
      exact ⟨⟨by first | (simp; done) | (simp; omega), by first | (simp; done) | (simp; omega)⟩, Nat.le_trans hxz (by unfold maxLen; omega)⟩
end Go.Proofs.YtkmmgeoialdmlaaDoor
