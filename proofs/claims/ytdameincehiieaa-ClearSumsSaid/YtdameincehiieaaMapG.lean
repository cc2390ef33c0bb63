/- Maps keyed by two numbers, of any element: what lies at each key, as a function. -/
import Derived.Test.YtdameincehiieaaMapE
import Derived.Maps.RangeWalk
namespace Go.Proofs.Ytdameincehiieaa
open Go.RowKit Go.WideMaps Go.Maps
set_option linter.unusedVariables false
set_option linter.unusedSimpArgs false
set_option maxRecDepth 100000

/-- a type of keys: two numbers -/
structure KeyT (K : TypeId) : Prop where
  klaw : KeyLaw Try.prog K
  key : ∀ a b, InR a → InR b → ∃ l, keyOf Try.prog K (twoV a b) = some l
theorem KeyT.law {K : TypeId} (h : KeyT K) : Keyed Try.prog K := Keyed.of_law h.klaw
/-- how an element is read -/
structure Rdr (α : Type) where
  val : α → Value
  dat : α → DataW Unit
  r : Value → Option (DataW Unit × List MemPlace)
  rd : ∀ x, r (val x) = some (dat x, [])
  shape : ∀ v y, r v = some y → ∃ x, v = val x ∧ y = (dat x, [])
  inj : ∀ x y, dat x = dat y → x = y
def atO {α : Type} (R : Rdr α) (o : Option α) (z : DataW Unit) : DataW Unit := match o with | none => z | some x => R.dat x
section
variable {α : Type} {R : Rdr α} {K : TypeId} {D : DataW Unit} {g : Int → Int → Option α} {w w' : World} {m n : Nat}
def RdG (R : Rdr α) (K : TypeId) (D : DataW Unit) (g : Int → Int → Option α) : Prop := ∀ a b l z, InR a → InR b → keyOf Try.prog K (twoV a b) = some l → D.atKey l z = atO R (g a b) z
def KsG (K : TypeId) (D : DataW Unit) (g : Int → Int → Option α) (ks : List (Int × Int)) : Prop :=
  ks.Nodup ∧ (∀ p, p ∈ ks ↔ (g p.1 p.2).isSome = true) ∧ (∀ p ∈ ks, InR p.1 ∧ InR p.2) ∧ ∀ l, has D l = true → ∃ a b, (a, b) ∈ ks ∧ keyOf Try.prog K (twoV a b) = some l
/-- a map that a call made -/
def GMap (R : Rdr α) (K : TypeId) (w : World) (m : Nat) (g : Int → Int → Option α) (ks : List (Int × Int)) : Prop :=
  ∃ D : DataW Unit, w.ownsMap Try.prog K R.r m ks.length D ∧ RdG R K D g ∧ KsG K D g ks
theorem GMap.made (R : Rdr α) (K : TypeId) (w : World) : GMap R K (w.alloc (.map #[] 0)) w.heap.size (fun _ _ => none) [] :=
  ⟨.map [], World.ownsMap_made _ _ _ _, fun a b l z _ _ _ => rfl, List.nodup_nil, fun p => by simp, fun p hp => (List.not_mem_nil hp).elim, fun l h => by cases h⟩
theorem GMap.lt {ks : List (Int × Int)} (h : GMap R K w m g ks) : m < w.heap.size := by obtain ⟨D, h1, h2⟩ := h; exact h1.lt
theorem GMap.of_block {ks : List (Int × Int)} (h : GMap R K w m g ks) (k : w'.heap[m]? = w.heap[m]?) : GMap R K w' m g ks := by
  obtain ⟨D, ⟨es, clock, hh, h1⟩, h2⟩ := h
  exact ⟨D, ⟨es, clock, k.trans hh, h1⟩, h2⟩
theorem GMap.below {ks : List (Int × Int)} (h : GMap R K w m g ks) (hb : Below w.heap.size w w') : GMap R K w' m g ks := h.of_block (hb.block m h.lt)
/-- the map holds no more than it must -/
theorem owns_tight {r : Value → Option (DataW Unit × List MemPlace)} (h : w.ownsMap Try.prog K r m n D) : w.ownsMap Try.prog K r m (Maps.size D) D := by
  obtain ⟨es, clock, hb, F, hs, hD⟩ := h
  refine ⟨es, clock, hb, F, ?_, hD⟩
  rw [hD]
  simp [Maps.size, length_sorted]
def addK (ks : List (Int × Int)) (p : Int × Int) : List (Int × Int) := if p ∈ ks then ks else ks ++ [p]
theorem upd2_at {β : Type} (f : Int → Int → β) (a b : Int) (v : β) : upd2 f a b v a b = v := by unfold upd2; rw [if_pos ⟨rfl, rfl⟩]
theorem upd2_off {β : Type} (f : Int → Int → β) (a b : Int) (v : β) {x y : Int} (h : ¬ (x = a ∧ y = b)) : upd2 f a b v x y = f x y := by unfold upd2; rw [if_neg h]
/-- what is put at a key -/
theorem put_G (hK : KeyT K) {ks : List (Int × Int)} (ho : w.ownsMap Try.prog K R.r m ks.length D) (hR : RdG R K D g) (hS : KsG K D g ks) {a b : Int} {x : α} {l : Lit} (ha : InR a) (hb : InR b) (hkey : keyOf Try.prog K (twoV a b) = some l) :
    RdG R K (D.put l (R.dat x)) (upd2 g a b (some x)) ∧ KsG K (D.put l (R.dat x)) (upd2 g a b (some x)) (addK ks (a, b)) ∧ Maps.size (D.put l (R.dat x)) ≤ (addK ks (a, b)).length := by
  have law := hK.law
  obtain ⟨s1, s2, s3, s4⟩ := hS
  refine ⟨fun a' b' l' z' ha' hb' hl' => ?_, ⟨?_, fun p => ?_, fun p hp => ?_, fun l' h' => ?_⟩, ?_⟩
  · by_cases e : a' = a ∧ b' = b
    · obtain ⟨rfl, rfl⟩ := e
      rw [upd2_at]
      obtain rfl : l' = l := by rw [hkey] at hl'; injection hl' with e; exact e.symm
      exact atKey_put_same ho.isMap (law.key hkey) _ _
    · rw [upd2_off _ _ _ _ e, atKey_put_other (by rintro rfl; exact e (two_inj (law.inj hl' hkey)))]
      exact hR a' b' l' z' ha' hb' hl'
  · unfold addK
    split
    · exact s1
    · next hn => exact List.nodup_append.2 ⟨s1, by simp, fun u hu v hv => by simp at hv; subst hv; exact fun e => hn (e ▸ hu)⟩
  · obtain ⟨p1, p2⟩ := p
    have hin : (p1, p2) ∈ addK ks (a, b) ↔ (p1, p2) ∈ ks ∨ (p1 = a ∧ p2 = b) := by
      unfold addK
      split
      · next hm => exact ⟨.inl, fun h => by rcases h with h | ⟨rfl, rfl⟩; exact h; exact hm⟩
      · simp
    rw [hin]
    by_cases e : p1 = a ∧ p2 = b
    · rw [e.1, e.2, upd2_at]; simp
    · rw [upd2_off _ _ _ _ e, ← s2 (p1, p2)]
      simp [e]
  · obtain ⟨p1, p2⟩ := p
    unfold addK at hp
    split at hp
    · exact s3 _ hp
    · rcases List.mem_append.1 hp with hp | hp
      · exact s3 _ hp
      · simp at hp; obtain ⟨rfl, rfl⟩ := hp; exact ⟨ha, hb⟩
  · by_cases e : l' = l
    · subst e
      refine ⟨a, b, ?_, hkey⟩
      unfold addK
      split
      · next hm => exact hm
      · simp
    · rw [has_put_other e] at h'
      obtain ⟨a', b', q1, q2⟩ := s4 l' h'
      refine ⟨a', b', ?_, q2⟩
      unfold addK
      split
      · exact q1
      · exact List.mem_append_left _ q1
  · rw [size_put (ho.tidy law)]
    have h1 : Maps.size D ≤ ks.length := ho.size_le
    unfold addK
    by_cases hm : (a, b) ∈ ks
    · rw [if_pos hm]
      have hh : has D l = true := by
        cases hx : has D l with
        | true => rfl
        | false =>
          have e1 := hR a b l (.lit (.bool true)) ha hb hkey
          have e2 := hR a b l (.lit (.bool false)) ha hb hkey
          rw [atKey_of_not_has hx] at e1 e2
          obtain ⟨y, hy⟩ := Option.isSome_iff_exists.1 ((s2 (a, b)).1 hm)
          have hy' : g a b = some y := hy
          rw [hy'] at e1 e2
          have : (DataW.lit (.bool true) : DataW Unit) = .lit (.bool false) := e1.trans e2.symm
          injection this with this
          injection this with this
          cases this
      rw [hh]
      simpa using h1
    · rw [if_neg hm, List.length_append]
      split <;> simp <;> omega
end
end Go.Proofs.Ytdameincehiieaa
