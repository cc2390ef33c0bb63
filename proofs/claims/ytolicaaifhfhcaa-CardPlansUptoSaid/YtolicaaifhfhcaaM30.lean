/- cutLength of the program: the length at the beginning of a text. -/
import Derived.Test.YtolicaaifhfhcaaM02
import Derived.Test.YtolicaaifhfhcaaM00
import Derived.Deep.QuietTactic
import Derived.Below
import Derived.Test.YtolicaaifhfhcaaRows
import Derived.ProofKit
import Derived.OpenShut
import Derived.Deep.Slices
namespace Go.Proofs.Ytolicaaifhfhcaa
open Go.RowKit
set_option linter.unusedVariables false

/-- a length, and in how many bytes: of z bytes, the first three of them -/
def lenN (z x y t : Nat) : Option (Nat × Nat) :=
  if z = 0 then none else if x < 128 then some (x, 1)
  else if x = 129 ∧ 2 ≤ z then (if 128 ≤ y then some (y, 2) else none)
  else if x = 130 ∧ 3 ≤ z then (if 256 ≤ y * 256 + t then some (y * 256 + t, 3) else none) else none
def lenAt (s : ByteArray) : Option (Nat × Nat) := lenN s.size (byteAt s 0) (byteAt s 1) (byteAt s 2)
theorem lenN_spec {z x y t n k : Nat} (h : lenN z x y t = some (n, k)) : 1 ≤ k ∧ k ≤ z ∧ k ≤ 3 := by
  unfold lenN at h
  repeat' split at h
  all_goals first | (cases h; omega) | cases h
theorem lenAt_lt {s : ByteArray} {n k : Nat} (h : lenAt s = some (n, k)) : n < 65536 ∧ 1 ≤ k ∧ k ≤ s.size ∧ k ≤ 3 := by
  have h1 := byteAt_lt s 0
  have h2 := byteAt_lt s 1
  have h3 := byteAt_lt s 2
  have h4 := lenN_spec h
  refine ⟨?_, h4⟩
  unfold lenAt lenN at h
  repeat' split at h
  all_goals first | (cases h; omega) | cases h

def lenRet (r : Option (Nat × Nat)) (s : ByteArray) (e : Ending) : Prop :=
  match r with
  | some (n, k) => e = .returned (.tuple #[.int .i64 n, .string (s.extract k s.size), .bool true])
  | none => ∃ (m : Nat) (r : ByteArray), m < 65536 ∧ e = .returned (.tuple #[.int .i64 m, .string r, .bool false])

theorem len_ret {s : ByteArray} {n k : Nat} {a : Int} (h : a = (n : Int)) : Ending.returned (.tuple #[.int .i64 a, .string (s.extract k s.size), .bool true]) = .returned (.tuple #[.int .i64 n, .string (s.extract k s.size), .bool true]) := by rw [h]
theorem len_not {r : ByteArray} {m : Nat} {a : Int} (h : a = (m : Int)) : Ending.returned (.tuple #[.int .i64 a, .string r, .bool false]) = .returned (.tuple #[.int .i64 m, .string r, .bool false]) := by rw [h]

end Go.Proofs.Ytolicaaifhfhcaa
namespace Go.Proofs.Ytolicaaifhfhcaa
open Go.RowKit
set_option linter.unusedVariables false

/-- the walk in the order of the text, shut: so that nothing lays it open but a step -/
structure Quietly (P : Program) (ops : Array Oper) (C : World → Prop) (Q : Act → Prop) (l : List Oper) (a : Act) : Prop where
  out : wpQuiet P ops C Q l a
theorem Quietly.nil {P : Program} {ops : Array Oper} {C : World → Prop} {Q : Act → Prop} {a : Act} (h : Q a) : Quietly P ops C Q [] a := ⟨h⟩
theorem Quietly.step {P : Program} {ops : Array Oper} {C : World → Prop} {Q : Act → Prop} {a : Act} {o : Oper} {rest : List Oper}
    (h : ∀ K : Act → Prop, (∀ a, Quietly P ops C Q rest a → K a) → if Region.wanted o (yielded ops a.tmps) then o.quiet P a C K else K (a.put o.dst undef)) : Quietly P ops C Q (o :: rest) a :=
  ⟨wpQuiet_step fun K hK => h K fun a ha => hK a ha.out⟩
theorem wp_region_below {P : Program} {id : Nat} {Q : Exit → Act → World → Prop} {a : Act} {w : World} {l : List Oper} (w0 : World) (hb : Below w0.heap.size w0 w)
    (hm : P.follows .mixedOrders = true) (hB : Region.lexB .any l.toArray = true)
    (h : Quietly P l.toArray (fun w' => Below w0.heap.size w0 w') (fun a' => ∀ w', Below w0.heap.size w0 w' → Q .normal a' w') l a) : (Code.region id l.toArray true).wp P Q a w :=
  wp_region_quiet (C := fun w' => Below w0.heap.size w0 w') hm hB hb.drew (by simpa using h.out)
theorem calls_below {P : Program} {f : FuncId} {args : Array Value} {w0 w : World} {v : Value} (hb : Below w0.heap.size w0 w)
    (h : Calls P f args w fun e w' => e = .returned v ∧ Below w.heap.size w w') : Calls P f args w fun e w' => e = .returned v ∧ Below w0.heap.size w0 w' :=
  h.mono fun _ _ ⟨he, hk⟩ => ⟨he, hb.trans (hk.mono hb.size)⟩
theorem calls_same {P : Program} {f : FuncId} {args : Array Value} {w0 w : World} {v : Value} (hb : Below w0.heap.size w0 w)
    (h : Calls P f args w fun e w' => e = .returned v ∧ w' = w) : Calls P f args w fun e w' => e = .returned v ∧ Below w0.heap.size w0 w' :=
  h.mono fun _ _ ⟨he, hk⟩ => ⟨he, hk ▸ hb⟩
/-- Below, once more behind -/
theorem below_more {a b c : World} {B : Nat} (h : Below B a b) (hB : B ≤ b.heap.size) (k : Below b.heap.size b c) : Below B a c := h.trans (k.mono hB)
end Go.Proofs.Ytolicaaifhfhcaa
namespace Go.Proofs.Ytolicaaifhfhcaa
end Go.Proofs.Ytolicaaifhfhcaa
namespace Go.Proofs.Ytolicaaifhfhcaa
open Go.ChangeShapes Go.WideShapes Go.ChangeAt Go.RowKit Go.Deep
set_option linter.unusedVariables false

inductive It where
  | mk (tag : Int) (text : ByteArray) (list : List It)
def It.tag : It → Int | .mk t _ _ => t
def It.text : It → ByteArray | .mk _ s _ => s
def It.list : It → List It | .mk _ _ l => l
instance : Inhabited It := ⟨.mk 0 ⟨#[]⟩ []⟩

/-- item number i of a list at this place; R: of its own list -/
def IAt (W : World) (R : Option Addr → List It → Prop) (b off i : Nat) (x : It) : Prop :=
  ∃ co cc, W.cell? ⟨b, off + i * 3, none⟩ = some (.int .i64 x.tag) ∧ W.cell? ⟨b, off + i * 3 + 1, none⟩ = some (.string x.text) ∧
    W.cell? ⟨b, off + i * 3 + 2, none⟩ = some (.slice co x.list.length cc) ∧ x.list.length ≤ cc ∧ R co x.list ∧ x.tag ≤ 9223372036854775807 ∧ x.text.size ≤ maxLen
/-- a list of items that lies in memory, at most d deep -/
def IRow (W : World) : Nat → Option Addr → List It → Prop
  | 0, _, l => l = []
  | d + 1, ao, l => l = [] ∨ ∃ b off, ao = some ⟨b, off, none⟩ ∧ b < W.heap.size ∧ ∀ i x, l[i]? = some x → IAt W (IRow W d) b off i x
/-- how much a list holds -/
def wt : Nat → List It → Nat
  | 0, _ => 0
  | d + 1, l => (l.map fun x => 1 + x.text.size + wt d x.list).sum

theorem IRow.below {W W' : World} (hb : Below W.heap.size W W') : ∀ (d : Nat) {ao : Option Addr} {l : List It}, IRow W d ao l → IRow W' d ao l
  | 0, _, _, h => h
  | d + 1, _, _, h => by
    rcases h with h | ⟨b, off, rfl, hlt, hc⟩
    · exact .inl h
    · refine .inr ⟨b, off, rfl, Nat.lt_of_lt_of_le hlt hb.size, fun i x hx => ?_⟩
      obtain ⟨co, cc, h1, h2, h3, h4, h5, h6⟩ := hc i x hx
      exact ⟨co, cc, (hb.cell (p := ⟨b, off + i * 3, none⟩) hlt).trans h1, (hb.cell (p := ⟨b, off + i * 3 + 1, none⟩) hlt).trans h2, (hb.cell (p := ⟨b, off + i * 3 + 2, none⟩) hlt).trans h3, h4, IRow.below hb d h5, h6⟩

theorem sum_get {f : It → Nat} : ∀ {l : List It} {i : Nat} {x : It}, l[i]? = some x → f x ≤ (l.map f).sum
  | [], i, x, h => by simp at h
  | y :: r, 0, x, h => by simp at h; subst h; simp
  | y :: r, i + 1, x, h => by
    have := sum_get (f := f) (l := r) (i := i) (x := x) (by simpa using h)
    simp only [List.map_cons, List.sum_cons]
    omega
theorem wt_get {d : Nat} {l : List It} {i : Nat} {x : It} (h : l[i]? = some x) : 1 + x.text.size + wt d x.list ≤ wt (d + 1) l := sum_get (f := fun x => 1 + x.text.size + wt d x.list) h
theorem wt_length {d : Nat} : ∀ l : List It, l.length ≤ wt (d + 1) l
  | [] => by simp
  | x :: r => by
    have := wt_length (d := d) r
    simp only [wt, List.map_cons, List.sum_cons, List.length_cons] at this ⊢
    omega
theorem IRow.length_le {W : World} {d : Nat} {ao : Option Addr} {l : List It} (h : IRow W d ao l) : l.length ≤ wt d l := by
  cases d with
  | zero => rw [show l = [] from h]; exact Nat.zero_le _
  | succ d => exact wt_length l
theorem wt_nil (d : Nat) : wt d [] = 0 := by cases d <;> rfl
theorem IRow.nil (W : World) (d : Nat) (ao : Option Addr) : IRow W d ao [] := by
  cases d with
  | zero => rfl
  | succ d => exact .inl rfl

theorem cellsIntI : Try.prog.cellsOf 3 = 1 := by kernel_rfl
theorem cellsStrI : Try.prog.cellsOf 9 = 1 := by kernel_rfl

theorem cell_ltI {w : World} {a : Addr} {v : Value} (h : w.cell? a = some v) : a.block < w.heap.size := by
  rcases Nat.lt_or_ge a.block w.heap.size with h1 | h1
  · exact h1
  · unfold World.cell? at h
    rw [Array.getElem?_eq_none h1] at h
    cases h

theorem bulk_pos {H : Type} (d : DataW H) : 1 ≤ Rows.uptoBulk d := by
  cases d with
  | lit l => cases l <;> simp [Rows.uptoBulk]
  | nil => simp [Rows.uptoBulk]
  | ptr d => simp [Rows.uptoBulk]
  | slice elems spare => simp [Rows.uptoBulk]
  | agg parts => simp [Rows.uptoBulk]
  | iface t d => simp [Rows.uptoBulk]
  | map entries => simp [Rows.uptoBulk]
  | held h => simp [Rows.uptoBulk]
theorem bulk_sum {H : Type} : ∀ l : List (DataW H), Rows.uptoBulkAll l = (l.map Rows.uptoBulk).sum
  | [] => by simp [Rows.uptoBulkAll]
  | x :: r => by simp [Rows.uptoBulkAll, bulk_sum r]
theorem bulk_mem {H : Type} {d : DataW H} {l : List (DataW H)} (h : d ∈ l) : Rows.uptoBulk d ≤ Rows.uptoBulkAll l := by
  induction l with
  | nil => cases h
  | cons x r ih =>
    simp only [Rows.uptoBulkAll]
    cases List.mem_cons.1 h with
    | inl e => subst e; omega
    | inr e => have := ih e; omega
theorem sum_le_sum {α : Type} (f g : α → Nat) : ∀ l : List α, (∀ x ∈ l, f x ≤ g x) → (l.map f).sum ≤ (l.map g).sum
  | [], _ => by simp
  | x :: r, h => by
    have := sum_le_sum f g r (fun y hy => h y (List.mem_cons_of_mem _ hy))
    have h1 := h x (List.mem_cons_self ..)
    simp only [List.map_cons, List.sum_cons]
    omega

end Go.Proofs.Ytolicaaifhfhcaa
