/- Maps whose keys are two numbers, that a call made: what lies at each key, as a function. -/
import Derived.Test.YtdameincehiieaaMapI
import Derived.DeepKeys4
namespace Go.Proofs.Ytdameincehiieaa
open Go.RowKit Go.WideMaps Go.Maps
set_option linter.unusedVariables false
set_option maxRecDepth 100000

def twoV (a b : Int) : Value := .agg #[.int .i64 a, .int .i64 b]
def InR (a : Int) : Prop := -9223372036854775808 ≤ a ∧ a ≤ 9223372036854775807
theorem laidOutQ : laidOutB Try.prog = true := by kernel_rfl
theorem lawPair : Keyed Try.prog 89 := Keyed.of_law (deep_law_laid laidOutQ (m := 2) (by omega) (of_decide_eq_true (by kernel_rfl)) (by kernel_rfl) (by kernel_rfl))
theorem lawName : Keyed Try.prog 72 := Keyed.of_law (deep_law_laid laidOutQ (m := 2) (by omega) (of_decide_eq_true (by kernel_rfl)) (by kernel_rfl) (by kernel_rfl))
theorem cellsPair : Try.prog.cellsOf 89 = 2 := by kernel_rfl
theorem cellsName : Try.prog.cellsOf 72 = 2 := by kernel_rfl
theorem cellsIntQ : Try.prog.cellsOf 3 = 1 := by kernel_rfl
theorem keyTyPair : Try.prog.keyType 89 = true := by kernel_rfl
theorem keyTyName : Try.prog.keyType 72 = true := by kernel_rfl
theorem typesQ : ∃ d, Try.prog.types.size + 1 = d + 1 + 1 := ⟨Try.prog.types.size - 1, by have : 0 < Try.prog.types.size := of_decide_eq_true (by kernel_rfl); omega⟩
theorem keyTwo {P : Program} {k ti : TypeId} {f1 f2 : Field} (hk : P.underlying k = some (.struct #[f1, f2])) (ht1 : f1.type = ti) (ht2 : f2.type = ti) (ho1 : f1.offset = 0) (ho2 : f2.offset = 1) (hn1 : (f1.name != "_") = true) (hn2 : (f2.name != "_") = true)
    (hi : P.underlying ti = some (.int .i64)) (hc : P.cellsOf k = 2) (hci : P.cellsOf ti = 1) (hkt : P.keyType k = true) (hd : ∃ d, P.types.size + 1 = d + 1 + 1) (a b : Int) (w1 : (Lit.int .i64 a).wf = true) (w2 : (Lit.int .i64 b).wf = true) :
    ∃ l, keyOf P k (twoV a b) = some l := by
  obtain ⟨d, hd⟩ := hd
  have hd' : P.types.size = d + 1 := by omega
  refine ⟨.string (keyBytes [.int .i64 a, .int .i64 b]), ?_⟩
  have hn1' : ¬ f1.name = "_" := by simpa using hn1
  have hn2' : ¬ f2.name = "_" := by simpa using hn2
  simp [keyOf, hk, hkt, Value.formed, twoV, hc, hd', Program.keyLits, Value.cells, ht1, ht2, ho1, ho2, hn1', hn2', hi, hci, w1, w2]
theorem keyPair (a b : Int) (ha : InR a) (hb : InR b) : ∃ l, keyOf Try.prog 89 (twoV a b) = some l :=
  keyTwo Try.underlying89 rfl rfl rfl rfl (by decide) (by decide) Try.underlying3 cellsPair cellsIntQ keyTyPair typesQ a b (wf_i64 a ha.1 ha.2) (wf_i64 b hb.1 hb.2)
theorem keyName (a b : Int) (ha : InR a) (hb : InR b) : ∃ l, keyOf Try.prog 72 (twoV a b) = some l :=
  keyTwo Try.underlying72 rfl rfl rfl rfl (by decide) (by decide) Try.underlying3 cellsName cellsIntQ keyTyName typesQ a b (wf_i64 a ha.1 ha.2) (wf_i64 b hb.1 hb.2)
theorem two_inj {a b c d : Int} (h : twoV a b = twoV c d) : a = c ∧ b = d := by
  unfold twoV at h
  injection h with h
  injection h with h
  injection h with h1 h2
  injection h2 with h2 _
  injection h1 with _ h1
  injection h2 with _ h2
  exact ⟨h1, h2⟩
def upd2 {α : Type} (f : Int → Int → α) (a b : Int) (v : α) : Int → Int → α := fun x y => if x = a ∧ y = b then v else f x y
/-- at a, b the map has f a b -/
def ReadsP (D : DataW Unit) (f : Int → Int → Int) : Prop := ∀ a b l, InR a → InR b → keyOf Try.prog 89 (twoV a b) = some l → D.atKey l (.lit (.int .i64 0)) = .lit (.int .i64 (f a b))
/-- each key of the map is one of two numbers at which f is not 0 -/
def KeysP (D : DataW Unit) (f : Int → Int → Int) : Prop := ∀ l, Maps.has D l = true → ∃ a b, InR a ∧ InR b ∧ keyOf Try.prog 89 (twoV a b) = some l ∧ f a b ≠ 0
/-- owed: what bank a owes bank b (an entry may hold 0) -/
def PMapW (w : World) (m n : Nat) (f : Int → Int → Int) : Prop := ∃ D : DataW Unit, w.ownsMap Try.prog 89 (plainElem Try.prog 3) m n D ∧ ReadsP D f
/-- owed: what bank a owes bank b -/
def PMap (w : World) (m n : Nat) (f : Int → Int → Int) : Prop := ∃ D : DataW Unit, w.ownsMap Try.prog 89 (plainElem Try.prog 3) m n D ∧ ReadsP D f ∧ KeysP D f
theorem PMap.weak {w : World} {m n : Nat} {f : Int → Int → Int} (h : PMap w m n f) : PMapW w m n f := by obtain ⟨D, h1, h2, _⟩ := h; exact ⟨D, h1, h2⟩
theorem PMap.made (w : World) : PMap (w.alloc (.map #[] 0)) w.heap.size 0 (fun _ _ => 0) := ⟨.map [], World.ownsMap_made _ _ _ _, fun a b l _ _ _ => rfl, fun l h => by cases h⟩
theorem PMap.alloc {w : World} {m n : Nat} {f : Int → Int → Int} (h : PMap w m n f) (o : Obj) : PMap (w.alloc o) m n f := by obtain ⟨D, h1, h2⟩ := h; exact ⟨D, h1.alloc o, h2⟩
theorem PMap.drewN {w : World} {m n : Nat} {f : Int → Int → Int} (h : PMap w m n f) (q : Nat) : PMap (w.drewN q) m n f := h
theorem PMap.lt {w : World} {m n : Nat} {f : Int → Int → Int} (h : PMap w m n f) : m < w.heap.size := by obtain ⟨D, h1, h2⟩ := h; exact h1.lt
theorem PMap.of_block {w w' : World} {m n : Nat} {f : Int → Int → Int} (h : PMap w m n f) (k : w'.heap[m]? = w.heap[m]?) : PMap w' m n f := by
  obtain ⟨D, ⟨es, clock, hh, h1⟩, h2⟩ := h
  exact ⟨D, ⟨es, clock, k.trans hh, h1⟩, h2⟩
theorem PMap.below {w w' : World} {m n : Nat} {f : Int → Int → Int} (h : PMap w m n f) (hb : Below w.heap.size w w') : PMap w' m n f := h.of_block (hb.block m h.lt)
theorem PMapW.look {w : World} {m n : Nat} {f : Int → Int → Int} (h : PMapW w m n f) (a b : Int) (ha : InR a) (hb : InR b) :
    (Instr.lookup 65 (.map (some m)) (twoV a b) false).run Try.prog w = .ok (.int .i64 (f a b)) w := by
  obtain ⟨D, ho, hD⟩ := h
  obtain ⟨l, hkey⟩ := keyPair a b ha hb
  obtain ⟨c, hrun, hat, _⟩ := ho.lookup_int lawPair Try.underlying65 Try.underlying3 (zeroIM _) hkey
  rw [hD a b l ha hb hkey] at hat
  rw [hrun]
  injection hat with e
  injection e with _ e
  rw [e]
/-- owed[pair{a, b}] -/
theorem PMap.look {w : World} {m n : Nat} {f : Int → Int → Int} (h : PMap w m n f) (a b : Int) (ha : InR a) (hb : InR b) :
    (Instr.lookup 65 (.map (some m)) (twoV a b) false).run Try.prog w = .ok (.int .i64 (f a b)) w := h.weak.look a b ha hb
theorem readsP_put {w : World} {m n : Nat} {D : DataW Unit} {f : Int → Int → Int} (ho : w.ownsMap Try.prog 89 (plainElem Try.prog 3) m n D) (hD : ReadsP D f) {a b z : Int} {l : Lit} (hkey : keyOf Try.prog 89 (twoV a b) = some l) : ReadsP (D.put l (.lit (.int .i64 z))) (upd2 f a b z) := by
  intro a' b' l' ha' hb' hl'
  unfold upd2
  by_cases e : a' = a ∧ b' = b
  · rw [if_pos e]
    obtain ⟨rfl, rfl⟩ := e
    obtain rfl : l' = l := by rw [hkey] at hl'; injection hl' with e; exact e.symm
    exact atKey_put_same ho.isMap (lawPair.key hkey) _ _
  · rw [if_neg e, atKey_put_other (by rintro rfl; exact e (two_inj (lawPair.inj hl' hkey)))]
    exact hD a' b' l' ha' hb' hl'
theorem keysP_put {D : DataW Unit} {f : Int → Int → Int} (hD : KeysP D f) {a b z : Int} {l : Lit} (ha : InR a) (hb : InR b) (hz : z ≠ 0) (hkey : keyOf Try.prog 89 (twoV a b) = some l) : KeysP (D.put l (.lit (.int .i64 z))) (upd2 f a b z) := by
  intro l' h'
  by_cases e : l' = l
  · subst e
    exact ⟨a, b, ha, hb, hkey, by unfold upd2; rw [if_pos ⟨rfl, rfl⟩]; exact hz⟩
  · rw [has_put_other e] at h'
    obtain ⟨a', b', q1, q2, q3, q4⟩ := hD l' h'
    refine ⟨a', b', q1, q2, q3, ?_⟩
    unfold upd2
    rw [if_neg]
    · exact q4
    · rintro ⟨rfl, rfl⟩
      rw [hkey] at q3
      exact e (Option.some.inj q3).symm
end Go.Proofs.Ytdameincehiieaa
