/- The map of cases: where the payment of a shop's trace lies. -/
import Derived.Test.YtdameincehiieaaMapQ
namespace Go.Proofs.Ytdameincehiieaa
open Go.RowKit Go.WideMaps Go.Maps
set_option linter.unusedVariables false
set_option maxRecDepth 100000

/-- how a pointer reads here: the number of its block -/
def rPtr : Value → Option (DataW Unit × List MemPlace)
  | .pointer none => some (.nil, [])
  | .pointer (some ⟨b, 0, none⟩) => some (.lit (.int .i64 b), [])
  | _ => none
def rOf : Option Nat → DataW Unit
  | none => .nil
  | some p => .lit (.int .i64 p)
/-- what is read at a key, with z where nothing lies -/
def rOr : Option Nat → DataW Unit → DataW Unit
  | none, z => z
  | some p, _ => .lit (.int .i64 p)
theorem rOr_nil (o : Option Nat) : rOr o .nil = rOf o := by cases o <;> rfl
def pOf : Option Nat → Value
  | none => .pointer none
  | some p => .pointer (some ⟨p, 0, none⟩)
theorem rPtr_inv {v : Value} {o : Option Nat} {ps : List MemPlace} (h : rPtr v = some (rOf o, ps)) : v = pOf o := by
  unfold rPtr at h
  split at h
  · cases o with
    | none => rfl
    | some p => injection h with h; injection h with h _; cases h
  · cases o with
    | none => injection h with h; injection h with h _; cases h
    | some p =>
      injection h with h
      injection h with h _
      injection h with h
      injection h with _ h
      have : (_ : Nat) = p := Int.ofNat.inj h
      subst this
      rfl
  · cases h
theorem zeroPM (w : World) : (zeroValue 73).run Try.prog w = .ok (.pointer none) w := by kernel_rfl
/-- c cases; at shop a, trace b the payment in block g a b -/
def NMap (w : World) (m n c : Nat) (g : Int → Int → Option Nat) : Prop := ∃ D : DataW Unit, w.ownsMap Try.prog 72 rPtr m n D ∧ Maps.size D = c ∧ ∀ a b l z, InR a → InR b → keyOf Try.prog 72 (twoV a b) = some l → D.atKey l z = rOr (g a b) z
theorem NMap.made (w : World) : NMap (w.alloc (.map #[] 0)) w.heap.size 0 0 (fun _ _ => none) := ⟨.map [], World.ownsMap_made _ _ _ _, rfl, fun a b l z _ _ _ => rfl⟩
theorem NMap.lt {w : World} {m n c : Nat} {g : Int → Int → Option Nat} (h : NMap w m n c g) : m < w.heap.size := by obtain ⟨D, h1, h2⟩ := h; exact h1.lt
theorem NMap.of_block {w w' : World} {m n c : Nat} {g : Int → Int → Option Nat} (h : NMap w m n c g) (k : w'.heap[m]? = w.heap[m]?) : NMap w' m n c g := by
  obtain ⟨D, ⟨es, clock, hh, h1⟩, h2⟩ := h
  exact ⟨D, ⟨es, clock, k.trans hh, h1⟩, h2⟩
theorem NMap.below {w w' : World} {m n c : Nat} {g : Int → Int → Option Nat} (h : NMap w m n c g) (hb : Below w.heap.size w w') : NMap w' m n c g := h.of_block (hb.block m h.lt)
theorem NMap.congr {w : World} {m n c : Nat} {f g : Int → Int → Option Nat} (h : NMap w m n c f) (e : ∀ a b, f a b = g a b) : NMap w m n c g := by obtain ⟨D, h1, h0, h2⟩ := h; exact ⟨D, h1, h0, fun a b l z ha hb hl => by rw [h2 a b l z ha hb hl, e a b]⟩
/-- cases[name{a, b}] -/
theorem NMap.look {w : World} {m n c : Nat} {g : Int → Int → Option Nat} (h : NMap w m n c g) (a b : Int) (ha : InR a) (hb : InR b) :
    (Instr.lookup 64 (.map (some m)) (twoV a b) false).run Try.prog w = .ok (pOf (g a b)) w := by
  obtain ⟨D, ho, _, hD⟩ := h
  obtain ⟨l, hkey⟩ := keyName a b ha hb
  obtain ⟨v, ps, hrun, hv⟩ := ho.lookup lawName Try.underlying64 (zeroPM _) (zd := .nil) (zp := []) rfl hkey
  rw [hD a b l _ ha hb hkey, rOr_nil] at hv
  rw [hrun, rPtr_inv hv]
/-- len(cases) -/
theorem NMap.len {w : World} {m n c : Nat} {g : Int → Int → Option Nat} (h : NMap w m n c g) (ty : TypeId) : (Builtin.len_ #[64] ty #[.map (some m)]).run Try.prog w = .ok (.int .i64 c) w := by
  obtain ⟨D, ho, hc, hD⟩ := h
  rw [ho.len Try.underlying64 ty, hc]
/-- cases[name{a, b}] = p, where none is yet -/
theorem wpList_nmap_put (w : World) {ops : Array Oper} {rest : List Oper} {o : Oper} {s : Act} {Q : Exit → Act → World → Prop}
    (hg : o.guard = none) (m x v : Operand) (hop : o.op = Op.mapUpdate 64 m x v) (mb n c : Nat) (g : Int → Int → Option Nat) (hm : s.eval m = .map (some mb)) (h : NMap w mb n c g) (hn : n < maxLen)
    (a b : Int) (p : Nat) (hx : s.eval x = twoV a b) (hv : s.eval v = .pointer (some ⟨p, 0, none⟩)) (ha : InR a) (hb : InR b) (h0 : g a b = none)
    (hK : ∀ w', NMap w' mb (n + 1) (c + 1) (upd2 g a b (some p)) → w.grownBy w' (some mb) → wpList Try.prog ops Q rest (s.put o.dst undef) w') :
    wpList Try.prog ops Q (o :: rest) s w := by
  obtain ⟨D, ho, hc, hD⟩ := h
  obtain ⟨l, hkey⟩ := keyName a b ha hb
  refine wpList_mapUpdate_own w hg m x v _ hop _ _ lawName Try.underlying64 _ mb n D hm ho hn _ _ _ hx hv hkey (.lit (.int .i64 p)) [] rfl
    (fun w' h1 h2 => hK w' ⟨_, h1, ?_, fun a' b' l' z' ha' hb' hl' => ?_⟩ h2)
  · rw [size_put (ho.tidy lawName), has_false_of_atKey (fun z => by rw [hD a b l z ha hb hkey, h0]; rfl), hc]; rfl
  unfold upd2
  by_cases e : a' = a ∧ b' = b
  · rw [if_pos e]
    obtain ⟨rfl, rfl⟩ := e
    obtain rfl : l' = l := by rw [hkey] at hl'; injection hl' with e; exact e.symm
    exact atKey_put_same ho.isMap (lawName.key hkey) _ _
  · rw [if_neg e, atKey_put_other (by rintro rfl; exact e (two_inj (lawName.inj hl' hkey)))]
    exact hD a' b' l' z' ha' hb' hl'
end Go.Proofs.Ytdameincehiieaa
