/- Maps of any keys and any elements that a call makes by itself: what lies at each key, as a function. -/
import Derived.Test.YtbiipeapcclbkaaDoorLow0
import Derived.Maps.OwnSet
import Derived.Maps.OwnOps
import Derived.Maps.Views
import Derived.Maps.Keyed
import Derived.StringKeys
import Derived.Below
namespace Go.Proofs.YtbiipeapcclbkaaDoor
open Go.RowKit Go.WideMaps Go.Maps
set_option linter.unusedVariables false
set_option linter.unusedSimpArgs false
set_option maxRecDepth 100000

/-- a type of keys -/
structure KeyX {κ : Type} (K : TypeId) (kv : κ → Value) (ok : κ → Prop) : Prop where
  law : Keyed Tryd.prog K
  key : ∀ a, ok a → ∃ l, keyOf Tryd.prog K (kv a) = some l
  inj : ∀ a b, kv a = kv b → a = b
/-- how an element is read -/
structure RdrX (α : Type) where
  val : α → Value
  dat : α → DataW Unit
  r : Value → Option (DataW Unit × List MemPlace)
  rd : ∀ x, r (val x) = some (dat x, [])
  shape : ∀ v y, r v = some y → ∃ x, v = val x ∧ y = (dat x, [])
  inj : ∀ x y, dat x = dat y → x = y
noncomputable def RdrX.of {α : Type} (val : α → Value) (dat : α → DataW Unit) (hv : ∀ x y, val x = val y → x = y) (hd : ∀ x y, dat x = dat y → x = y) : RdrX α where
  val := val
  dat := dat
  r := fun v => by
    classical
    exact if h : ∃ x, v = val x then some (dat h.choose, []) else none
  rd := fun x => by
    have h : ∃ y, val x = val y := ⟨x, rfl⟩
    rw [dif_pos h]
    rw [← hv _ _ h.choose_spec]
  shape := fun v y h => by
    by_cases hx : ∃ x, v = val x
    · rw [dif_pos hx] at h
      exact ⟨hx.choose, hx.choose_spec, (Option.some.inj h).symm⟩
    · rw [dif_neg hx] at h; cases h
  inj := hd
def atX {α : Type} (R : RdrX α) (o : Option α) (z : DataW Unit) : DataW Unit := match o with | none => z | some x => R.dat x
section
variable {κ α : Type} {R : RdrX α} {K MT E : TypeId} {kv : κ → Value} {ok : κ → Prop} {D : DataW Unit} {g : κ → Option α} {w w' : World} {m n : Nat} {ks : List κ} {z0 : α}
def RdX (R : RdrX α) (K : TypeId) (kv : κ → Value) (ok : κ → Prop) (D : DataW Unit) (g : κ → Option α) : Prop := ∀ a l z, ok a → keyOf Tryd.prog K (kv a) = some l → D.atKey l z = atX R (g a) z
def KsX (K : TypeId) (kv : κ → Value) (ok : κ → Prop) (D : DataW Unit) (g : κ → Option α) (ks : List κ) : Prop :=
  ks.Nodup ∧ (∀ p, p ∈ ks ↔ (g p).isSome = true) ∧ (∀ p ∈ ks, ok p) ∧ (∀ l, has D l = true → ∃ a, a ∈ ks ∧ keyOf Tryd.prog K (kv a) = some l) ∧ Maps.size D = ks.length
/-- a map that a call made -/
def XMap (R : RdrX α) (K : TypeId) (kv : κ → Value) (ok : κ → Prop) (w : World) (m : Nat) (g : κ → Option α) (ks : List κ) : Prop :=
  ∃ D : DataW Unit, w.ownsMap Tryd.prog K R.r m ks.length D ∧ RdX R K kv ok D g ∧ KsX K kv ok D g ks
theorem XMap.made (R : RdrX α) (K : TypeId) (kv : κ → Value) (ok : κ → Prop) (w : World) : XMap R K kv ok (w.alloc (.map #[] 0)) w.heap.size (fun _ => none) [] :=
  ⟨.map [], World.ownsMap_made _ _ _ _, fun a l z _ _ => rfl, List.nodup_nil, fun p => by simp, fun p hp => (List.not_mem_nil hp).elim, fun l h => (by cases h), rfl⟩
theorem XMap.lt (h : XMap R K kv ok w m g ks) : m < w.heap.size := by obtain ⟨D, h1, h2⟩ := h; exact h1.lt
theorem XMap.of_block (h : XMap R K kv ok w m g ks) (k : w'.heap[m]? = w.heap[m]?) : XMap R K kv ok w' m g ks := by
  obtain ⟨D, ⟨es, clock, hh, h1⟩, h2⟩ := h
  exact ⟨D, ⟨es, clock, k.trans hh, h1⟩, h2⟩
theorem XMap.below (h : XMap R K kv ok w m g ks) (hb : Below w.heap.size w w') : XMap R K kv ok w' m g ks := h.of_block (hb.block m h.lt)
theorem owns_tightX {r : Value → Option (DataW Unit × List MemPlace)} (h : w.ownsMap Tryd.prog K r m n D) : w.ownsMap Tryd.prog K r m (Maps.size D) D := by
  obtain ⟨es, clock, hb, F, hs, hD⟩ := h
  refine ⟨es, clock, hb, F, ?_, hD⟩
  rw [hD]
  simp [Maps.size, length_sorted]
open Classical in
noncomputable def addX (ks : List κ) (p : κ) : List κ := if p ∈ ks then ks else ks ++ [p]
open Classical in
noncomputable def updX {β : Type} (f : κ → β) (a : κ) (v : β) : κ → β := fun x => if x = a then v else f x
theorem updX_at {β : Type} (f : κ → β) (a : κ) (v : β) : updX f a v a = v := by unfold updX; rw [if_pos rfl]
theorem updX_off {β : Type} (f : κ → β) (a : κ) (v : β) {x : κ} (h : x ≠ a) : updX f a v x = f x := by unfold updX; rw [if_neg h]
theorem addX_mem {ks : List κ} {p x : κ} : x ∈ addX ks p ↔ x ∈ ks ∨ x = p := by
  unfold addX
  by_cases h : p ∈ ks
  · rw [if_pos h]; exact ⟨.inl, fun e => by rcases e with e | rfl; exact e; exact h⟩
  · rw [if_neg h]; simp
theorem put_X (hK : KeyX K kv ok) (ho : w.ownsMap Tryd.prog K R.r m ks.length D) (hR : RdX R K kv ok D g) (hS : KsX K kv ok D g ks) {a : κ} {x : α} {l : Lit} (ha : ok a) (hkey : keyOf Tryd.prog K (kv a) = some l) :
    RdX R K kv ok (D.put l (R.dat x)) (updX g a (some x)) ∧ KsX K kv ok (D.put l (R.dat x)) (updX g a (some x)) (addX ks a) := by
  have law := hK.law
  obtain ⟨s1, s2, s3, s4, s5⟩ := hS
  have hhas : has D l = true ↔ a ∈ ks := by
    constructor
    · intro hh
      obtain ⟨a', q1, q2⟩ := s4 l hh
      obtain rfl := hK.inj _ _ (law.inj q2 hkey)
      exact q1
    · intro hm
      cases hx : has D l with
      | true => rfl
      | false =>
        have e1 := hR a l (.lit (.bool true)) ha hkey
        have e2 := hR a l (.lit (.bool false)) ha hkey
        rw [atKey_of_not_has hx] at e1 e2
        obtain ⟨y, hy⟩ := Option.isSome_iff_exists.1 ((s2 a).1 hm)
        rw [hy] at e1 e2
        have : (DataW.lit (.bool true) : DataW Unit) = .lit (.bool false) := e1.trans e2.symm
        injection this with this
        injection this with this
        cases this
  refine ⟨fun a' l' z' ha' hl' => ?_, ?_, fun p => ?_, fun p hp => ?_, fun l' h' => ?_, ?_⟩
  · by_cases e : a' = a
    · obtain rfl := e
      rw [updX_at]
      obtain rfl : l' = l := by rw [hkey] at hl'; injection hl' with e; exact e.symm
      exact atKey_put_same ho.isMap (law.key hkey) _ _
    · rw [updX_off _ _ _ e, atKey_put_other (by rintro rfl; exact e (hK.inj _ _ (law.inj hl' hkey)))]
      exact hR a' l' z' ha' hl'
  · unfold addX
    split
    · exact s1
    · next hn => exact List.nodup_append.2 ⟨s1, by simp, fun u hu v hv => by simp at hv; subst hv; exact fun e => hn (e ▸ hu)⟩
  · rw [addX_mem]
    by_cases e : p = a
    · rw [e, updX_at]; simp
    · rw [updX_off _ _ _ e, ← s2 p]
      simp [e]
  · rcases addX_mem.1 hp with hp | rfl
    · exact s3 _ hp
    · exact ha
  · by_cases e : l' = l
    · subst e
      exact ⟨a, addX_mem.2 (.inr rfl), hkey⟩
    · rw [has_put_other e] at h'
      obtain ⟨a', q1, q2⟩ := s4 l' h'
      exact ⟨a', addX_mem.2 (.inl q1), q2⟩
  · rw [size_put (ho.tidy law), s5]
    unfold addX
    by_cases hm : a ∈ ks
    · rw [if_pos hm, if_pos (hhas.2 hm)]
    · rw [if_neg hm, if_neg (fun h => hm (hhas.1 h)), List.length_append]; rfl
/-- m[k] = x -/
theorem XMap.put (h : XMap R K kv ok w m g ks) (hK : KeyX K kv ok) (ht : Tryd.prog.underlying MT = some (.map K E)) (hn : ks.length < maxLen) (a : κ) (y : α) (ha : ok a) :
    ∃ w', (Instr.mapUpdate MT (.map (some m)) (kv a) (R.val y)).run Tryd.prog w = .ok () w' ∧ XMap R K kv ok w' m (updX g a (some y)) (addX ks a) ∧ w.grownBy w' (some m) := by
  obtain ⟨D, ho, hD, hS⟩ := h
  obtain ⟨l, hkey⟩ := hK.key a ha
  obtain ⟨p1, p2⟩ := put_X (x := y) hK ho hD hS ha hkey
  obtain ⟨w', hrun, h1, h2⟩ := ho.update hK.law ht hn hkey (R.rd y)
  exact ⟨w', hrun, ⟨_, by have := owns_tightX h1; rwa [p2.2.2.2.2] at this, p1, p2⟩, h2⟩
/-- m[k] -/
theorem XMap.look (h : XMap R K kv ok w m g ks) (hK : KeyX K kv ok) (ht : Tryd.prog.underlying MT = some (.map K E)) (hz : ∀ u, (zeroValue E).run Tryd.prog u = .ok (R.val z0) u) (a : κ) (ha : ok a) :
    (Instr.lookup MT (.map (some m)) (kv a) false).run Tryd.prog w = .ok (R.val ((g a).getD z0)) w := by
  obtain ⟨D, ho, hD, _⟩ := h
  obtain ⟨l, hkey⟩ := hK.key a ha
  obtain ⟨v, ps, hrun, hv⟩ := ho.lookup hK.law ht (hz _) (R.rd z0) hkey
  rw [hD a l _ ha hkey] at hv
  obtain ⟨x, rfl, hx⟩ := R.shape v _ hv
  rw [hrun]
  injection hx with hx _
  cases hg : g a with
  | none => rw [hg] at hx; rw [R.inj _ _ hx]; rfl
  | some y => rw [hg] at hx; rw [R.inj _ _ hx]; rfl
/-- v, ok := m[k] -/
theorem XMap.lookOk (h : XMap R K kv ok w m g ks) (hK : KeyX K kv ok) (ht : Tryd.prog.underlying MT = some (.map K E)) (hz : ∀ u, (zeroValue E).run Tryd.prog u = .ok (R.val z0) u) (a : κ) (ha : ok a) :
    (Instr.lookup MT (.map (some m)) (kv a) true).run Tryd.prog w = .ok (.tuple #[R.val ((g a).getD z0), .bool (g a).isSome]) w := by
  obtain ⟨D, ho, hD, s1, s2, s3, s4, s5⟩ := h
  obtain ⟨l, hkey⟩ := hK.key a ha
  obtain ⟨v, ps, hrun, hv⟩ := ho.look_ok hK.law ht (hz _) (R.rd z0) hkey
  rw [hD a l _ ha hkey] at hv
  obtain ⟨x, rfl, hx⟩ := R.shape v _ hv
  rw [hrun]
  injection hx with hx _
  have hh : has D l = (g a).isSome := by
    cases hx : has D l with
    | true =>
      obtain ⟨a', q1, q2⟩ := s4 l hx
      obtain rfl := hK.inj _ _ (hK.law.inj q2 hkey)
      exact ((s2 a').1 q1).symm
    | false =>
      cases hg : g a with
      | none => rfl
      | some y =>
        have e1 := hD a l (.lit (.bool true)) ha hkey
        have e2 := hD a l (.lit (.bool false)) ha hkey
        rw [atKey_of_not_has hx, hg] at e1 e2
        have : (DataW.lit (.bool true) : DataW Unit) = .lit (.bool false) := e1.trans e2.symm
        injection this with this
        injection this with this
        cases this
  rw [hh]
  cases hg : g a with
  | none => rw [hg] at hx; rw [R.inj _ _ hx]; rfl
  | some y => rw [hg] at hx; rw [R.inj _ _ hx]; rfl
/-- len(m) -/
theorem XMap.len (h : XMap R K kv ok w m g ks) (ht : Tryd.prog.underlying MT = some (.map K E)) (ty : TypeId) : (Builtin.len_ #[MT] ty #[.map (some m)]).run Tryd.prog w = .ok (.int .i64 (ks.length : Nat)) w := by
  obtain ⟨D, ho, _, _, _, _, _, s5⟩ := h
  rw [← s5]
  exact ho.len ht ty
end
def InX (x : Int) : Prop := -9223372036854775808 ≤ x ∧ x ≤ 9223372036854775807
theorem wf_x64 (x : Int) (h : InX x) : (Lit.int .i64 x).wf = true := by
  have hw := wrap64_wf x
  have e : wrap64 x = x := by unfold wrap64; unfold InX at h; omega
  rw [e] at hw
  exact hw
theorem keyInt : KeyX 3 (fun a : Int => .int .i64 a) InX :=
  ⟨int_keyed Tryd.underlying3, fun a ha => ⟨_, keyOf_int_mk Tryd.underlying3 (wf_x64 a ha)⟩, fun a b h => by injection h⟩
theorem keyStr : KeyX 9 (fun a : ByteArray => .string a) (fun a => a.size ≤ maxLen) :=
  ⟨string_keyed Tryd.underlying9, fun a ha => ⟨_, keyOf_string_mk Tryd.underlying9 ha⟩, fun a b h => by injection h⟩
end Go.Proofs.YtbiipeapcclbkaaDoor
