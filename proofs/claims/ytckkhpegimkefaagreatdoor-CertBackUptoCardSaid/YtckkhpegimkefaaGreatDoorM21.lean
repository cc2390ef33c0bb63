/- Division word by word, plain: the guess, the words that are taken away, what is added back. -/
import Derived.Test.YtckkhpegimkefaaGreatDoorM20
import Derived.RegionTactic
import Derived.Deep.DeepCutAuto
namespace Go.Proofs.YtckkhpegimkefaaGreatDoor
set_option linter.unusedVariables false

/-- what is known of a round: the window is Uw, its three upper words h and u2, what divides is V, its two upper words top and next -/
structure RoundK (Uw V h u2 top next P : Nat) : Prop where
  u : ∃ u', Uw = (h * B32 + u2) * P + u' ∧ u' < P
  v : ∃ v', V = (top * B32 + next) * P + v' ∧ v' < P
  lt : Uw < V * B32
  big : 2147483648 ≤ top
  tl : top < B32
  nl : next < B32
  ul : u2 < B32
  hle : h ≤ top * B32 + (B32 - 1)
  pos : 0 < P
/-- the guess: not too small, not far too great -/
structure GuessK (Uw V h top g r : Nat) : Prop where
  sum : g * top + r = h
  ge : Uw / V ≤ g
  le : g ≤ B32 + 1
theorem RoundK.vpos {Uw V h u2 top next P : Nat} (R : RoundK Uw V h u2 top next P) : 0 < V := by
  have h1 := R.lt
  rcases Nat.eq_zero_or_pos V with h0 | h0
  · rw [h0] at h1; omega
  · exact h0
theorem RoundK.qlt {Uw V h u2 top next P : Nat} (R : RoundK Uw V h u2 top next P) : Uw / V < B32 := Nat.div_lt_of_lt_mul R.lt
theorem guess_first {Uw V h u2 top next P : Nat} (R : RoundK Uw V h u2 top next P) : GuessK Uw V h top (h / top) (h % top) := by
  have ht : 0 < top := by have := R.big; omega
  obtain ⟨u', hu, hu'⟩ := R.u
  obtain ⟨v', hv, hv'⟩ := R.v
  have hd := Nat.div_add_mod h top
  refine ⟨by rw [Nat.mul_comm]; exact hd, ?_, ?_⟩
  · -- Uw / V ≤ h / top
    refine Nat.le_of_lt_succ (Nat.div_lt_of_lt_mul ?_)
    have hm := Nat.mod_lt h ht
    have h1 : h + 1 ≤ top * (h / top + 1) := by rw [Nat.mul_add, Nat.mul_one]; omega
    have h2 : (h + 1) * B32 ≤ top * (h / top + 1) * B32 := Nat.mul_le_mul_right _ h1
    have h3 : h * B32 + u2 + 1 ≤ top * (h / top + 1) * B32 := by have := R.ul; rw [Nat.add_mul, Nat.one_mul] at h2; omega
    have h4 : (h * B32 + u2 + 1) * P ≤ top * (h / top + 1) * B32 * P := Nat.mul_le_mul_right _ h3
    have h5 : top * (h / top + 1) * B32 * P ≤ V * (h / top + 1) := by
      have e : top * (h / top + 1) * B32 * P = (top * B32 * P) * (h / top + 1) := by grind
      rw [e]
      refine Nat.mul_le_mul_right _ ?_
      rw [hv]
      have : top * B32 * P ≤ (top * B32 + next) * P := Nat.mul_le_mul_right _ (by omega)
      omega
    have h6 : Uw < (h * B32 + u2 + 1) * P := by rw [hu, Nat.add_mul (h * B32 + u2) 1 P, Nat.one_mul]; omega
    exact Nat.lt_of_lt_of_le h6 (Nat.le_trans h4 h5)
  · -- h / top ≤ B32 + 1
    refine Nat.le_of_lt_succ (Nat.div_lt_of_lt_mul ?_)
    have h1 := R.hle
    have h2 := R.big
    have h3 : top * (B32 + 1 + 1) = top * B32 + top + top := by grind
    rw [h3]
    have : B32 = 4294967296 := rfl
    omega
/-- too great: one less is not too small -/
theorem guess_less {Uw V h u2 top next P g r : Nat} (R : RoundK Uw V h u2 top next P) (G : GuessK Uw V h top g r) (hC : B32 - 1 < g ∨ r * B32 + u2 < g * next) : 1 ≤ g ∧ GuessK Uw V h top (g - 1) (r + top) := by
  have hlt : Uw / V < g := by
    rcases hC with hC | hC
    · have := R.qlt
      omega
    · obtain ⟨u', hu, hu'⟩ := R.u
      obtain ⟨v', hv, hv'⟩ := R.v
      refine Nat.div_lt_of_lt_mul ?_
      have e1 : h * B32 + u2 + 1 ≤ g * (top * B32 + next) := by
        have := G.sum
        have e : g * (top * B32 + next) = g * top * B32 + g * next := by grind
        have e2 : h * B32 = g * top * B32 + r * B32 := by rw [← this, Nat.add_mul]
        omega
      have e2 : (h * B32 + u2 + 1) * P ≤ g * (top * B32 + next) * P := Nat.mul_le_mul_right _ e1
      have e3 : g * (top * B32 + next) * P ≤ V * g := by
        have e : g * (top * B32 + next) * P = (top * B32 + next) * P * g := by grind
        rw [e]
        exact Nat.mul_le_mul_right _ (by omega)
      have h6 : Uw < (h * B32 + u2 + 1) * P := by rw [hu, Nat.add_mul (h * B32 + u2) 1 P, Nat.one_mul]; omega
      omega
  have g1 : 1 ≤ g := Nat.lt_of_le_of_lt (Nat.zero_le _) hlt
  refine ⟨g1, ?_, by omega, by have := G.le; omega⟩
  have := G.sum
  have e : g * top = (g - 1) * top + top := by
    conv => lhs; rw [show g = (g - 1) + 1 by omega, Nat.add_mul, Nat.one_mul]
  omega
/-- the guess that is taken -/
structure TakenK (Uw V g : Nat) : Prop where
  ge : Uw / V ≤ g
  lt : g < B32
  le : g * V < Uw + V
theorem guess_taken {Uw V h u2 top next P g r : Nat} (R : RoundK Uw V h u2 top next P) (G : GuessK Uw V h top g r) (h1 : g ≤ B32 - 1) (h2 : g * next ≤ r * B32 + u2) : TakenK Uw V g := by
  have hB : 0 < B32 := B32_pos
  refine ⟨G.ge, by omega, ?_⟩
  obtain ⟨u', hu, hu'⟩ := R.u
  obtain ⟨v', hv, hv'⟩ := R.v
  have e1 : g * (top * B32 + next) ≤ h * B32 + u2 := by
    have := G.sum
    have e : g * (top * B32 + next) = g * top * B32 + g * next := by grind
    have e2 : h * B32 = g * top * B32 + r * B32 := by rw [← this, Nat.add_mul]
    omega
  have e2 : g * (top * B32 + next) * P ≤ (h * B32 + u2) * P := Nat.mul_le_mul_right _ e1
  have e3 : g * V = g * (top * B32 + next) * P + g * v' := by rw [hv]; grind
  have e4 : g * v' ≤ B32 * P := Nat.mul_le_mul (by omega) (by omega)
  have e5 : B32 * P + P ≤ V ∨ B32 * P ≤ V := by
    right
    rw [hv]
    have h9 := R.big
    have : B32 * P ≤ (top * B32 + next) * P := Nat.mul_le_mul_right _ (by
      have : 1 * B32 ≤ top * B32 := Nat.mul_le_mul_right _ (by omega)
      omega)
    omega
  have e6 : B32 * P ≤ V := by omega
  have e7 : g * v' < B32 * P ∨ P = 0 := by
    rcases Nat.eq_zero_or_pos g with h0 | h0
    · left; rw [h0, Nat.zero_mul]; exact Nat.mul_pos hB R.pos
    · left
      have : g * v' ≤ g * P := Nat.mul_le_mul_left _ (by omega)
      have : g * P ≤ (B32 - 1) * P := Nat.mul_le_mul_right _ h1
      have : (B32 - 1) * P < B32 * P := Nat.mul_lt_mul_of_pos_right (by omega) R.pos
      omega
  have e8 := R.pos
  omega
/-- where r has no room any more: the guess is taken -/
theorem guess_broken {Uw V h u2 top next P g r : Nat} (R : RoundK Uw V h u2 top next P) (G : GuessK Uw V h top g r) (hr : B32 - 1 < r) : TakenK Uw V g := by
  have hg : g ≤ B32 - 1 := by
    rcases Nat.lt_or_ge g B32 with h' | h'
    · omega
    · have h1 := R.hle
      have h2 := G.sum
      have h3 : B32 * top ≤ g * top := Nat.mul_le_mul_right _ h'
      have h4 : B32 * top = top * B32 := Nat.mul_comm _ _
      have : B32 = 4294967296 := rfl
      omega
  refine guess_taken R G hg ?_
  have h1 : g * next ≤ B32 * B32 := Nat.mul_le_mul (by omega) (Nat.le_of_lt R.nl)
  have h2 : B32 * B32 ≤ r * B32 := Nat.mul_le_mul_right _ (by omega)
  omega
theorem take_ring {B P Rn r g vn v wn u c d c' d' low : Nat} (hv : Rn + g * vn = wn + (c + d) * P) (h1 : c + g * v = low + c' * B) (h2 : r + low + d = u + d' * B) : Rn + P * r + g * (vn + v * P) = wn + u * P + (c' + d') * (P * B) := by
  have e : (c + g * v + r + d) * P = (u + d' * B + c' * B) * P := by
    congr 1
    omega
  grind
theorem add_ring {B P An c rn vn u v x c' : Nat} (hv : An + c * P = rn + vn) (h1 : c + u + v = x + c' * B) : An + P * x + c' * (P * B) = rn + u * P + (vn + v * P) := by
  have e : (c + u + v) * P = (x + c' * B) * P := by rw [h1]
  grind
/-- words taken away, one step -/
theorem take_step {R ws vs : List Nat} {g c d i u v low r c' d' : Nat} (hv : natV R + g * natV (vs.take i) = natV (ws.take i) + (c + d) * B32 ^ i) (hl : R.length = i) (hu : ws[i]? = some u) (hvv : vs[i]? = some v)
    (h1 : c + g * v = low + c' * B32) (h2 : r + low + d = u + d' * B32) : natV (R ++ [r]) + g * natV (vs.take (i + 1)) = natV (ws.take (i + 1)) + (c' + d') * B32 ^ (i + 1) := by
  rw [natV_append, hl, natV_take_succ vs i v hvv, natV_take_succ ws i u hu, Nat.pow_succ]
  simp only [natV, Nat.mul_zero, Nat.add_zero]
  exact take_ring hv h1 h2
theorem add_stepK {A rs vs : List Nat} {c i u v x c' : Nat} (hv : natV A + c * B32 ^ i = natV (rs.take i) + natV (vs.take i)) (hl : A.length = i) (hu : rs[i]? = some u) (hvv : vs[i]? = some v)
    (h1 : c + u + v = x + c' * B32) : natV (A ++ [x]) + c' * B32 ^ (i + 1) = natV (rs.take (i + 1)) + natV (vs.take (i + 1)) := by
  rw [natV_append, hl, natV_take_succ vs i v hvv, natV_take_succ rs i u hu, Nat.pow_succ]
  simp only [natV, Nat.mul_zero, Nat.add_zero]
  exact add_ring hv h1
/-- no word is wanted back: the guess was right -/
theorem taken_right {Uw V g Rn wn un c d P : Nat} (T : TakenK Uw V g) (hV : 0 < V) (hU : Uw = wn + un * P) (hR : Rn + g * V = wn + (c + d) * P) (hRl : Rn < P) (hVP : V ≤ P) (hle : c + d ≤ un) : g = Uw / V ∧ Rn = Uw % V ∧ un = c + d := by
  have e1 : (c + d) * P ≤ un * P := Nat.mul_le_mul_right _ hle
  have h1 : g * V ≤ Uw := by omega
  have hg : g = Uw / V := Nat.le_antisymm ((Nat.le_div_iff_mul_le hV).2 h1) T.ge
  have hm := Nat.div_add_mod Uw V
  have hm2 := Nat.mod_lt Uw hV
  rw [← hg, Nat.mul_comm] at hm
  have e2 : Rn + (un - (c + d)) * P = Uw % V := by
    have : un * P = (un - (c + d)) * P + (c + d) * P := by rw [← Nat.add_mul, Nat.sub_add_cancel hle]
    omega
  have e3 : un - (c + d) = 0 := by
    rcases Nat.eq_zero_or_pos (un - (c + d)) with h0 | h0
    · exact h0
    · have := Nat.le_mul_of_pos_left P h0
      omega
  rw [e3, Nat.zero_mul, Nat.add_zero] at e2
  exact ⟨hg, e2, by omega⟩
/-- words are wanted back: the guess was one too great -/
theorem taken_back {Uw V g Rn wn un c d P An c2 : Nat} (T : TakenK Uw V g) (hV : 0 < V) (hU : Uw = wn + un * P) (hR : Rn + g * V = wn + (c + d) * P) (hRl : Rn < P) (hVP : V ≤ P) (hlt : un < c + d) (hA : An + c2 * P = Rn + V) (hAl : An < P) :
    1 ≤ g ∧ g - 1 = Uw / V ∧ An = Uw % V ∧ un + c2 = c + d ∧ c2 = 1 := by
  have e1 : (un + 1) * P ≤ (c + d) * P := Nat.mul_le_mul_right _ hlt
  rw [Nat.add_mul, Nat.one_mul] at e1
  have h1 : Uw < g * V := by omega
  have h2 : Uw / V < g := Nat.div_lt_of_lt_mul (by rw [Nat.mul_comm]; exact h1)
  have hm := Nat.div_add_mod Uw V
  have hm2 := Nat.mod_lt Uw hV
  have g1 : 1 ≤ g := Nat.lt_of_le_of_lt (Nat.zero_le _) h2
  have h3 : (g - 1) * V ≤ Uw := by
    have := T.le
    have e : g * V = (g - 1) * V + V := by
      conv => lhs; rw [show g = (g - 1) + 1 by omega, Nat.add_mul, Nat.one_mul]
    omega
  have hg : g - 1 = Uw / V := Nat.le_antisymm ((Nat.le_div_iff_mul_le hV).2 h3) (by omega)
  have e : g * V = (g - 1) * V + V := by
    conv => lhs; rw [show g = (g - 1) + 1 by omega, Nat.add_mul, Nat.one_mul]
  rw [← hg, Nat.mul_comm] at hm
  have e4 : (c + d) * P = un * P + (c + d - un) * P := by rw [← Nat.add_mul]; congr 1; omega
  have e5 : An + c2 * P = Uw % V + (c + d - un) * P := by omega
  have e6 : An % P = Uw % V % P := by
    have := congrArg (· % P) e5
    simpa [Nat.add_mul_mod_self_right] using this
  rw [Nat.mod_eq_of_lt hAl, Nat.mod_eq_of_lt (show Uw % V < P by omega)] at e6
  have e7 : c2 * P = (c + d - un) * P := by omega
  have hP : 0 < P := by omega
  have e8 : c2 = c + d - un := Nat.eq_of_mul_eq_mul_right hP e7
  have e9 : c2 ≤ 1 := by
    rcases Nat.lt_or_ge 1 c2 with h' | h'
    · have : 2 * P ≤ c2 * P := Nat.mul_le_mul_right _ h'
      omega
    · exact h'
  exact ⟨g1, hg, e6, by omega, by omega⟩
/-- one round more -/
theorem round_more {B D D1 x Qn Y V : Nat} (hD : D = x + B * D1) (h1 : D1 = Qn * V + Y) : D = ((x + B * Y) / V + B * Qn) * V + (x + B * Y) % V := by
  have := Nat.div_add_mod (x + B * Y) V
  generalize (x + B * Y) / V = q at *
  generalize (x + B * Y) % V = r at *
  rw [hD, h1]
  grind
end Go.Proofs.YtckkhpegimkefaaGreatDoor
namespace Go.Proofs.YtckkhpegimkefaaGreatDoor
set_option linter.unusedVariables false
/-- How many have not come up yet. -/
def leftN (n : Nat) (listed : Array Bool) : Nat := (List.range n).countP (fun i => !listed.getD i true)
theorem countP_ltD {p q : Nat → Bool} (h : ∀ x, q x = true → p x = true) {i : Nat} (hp : p i = true) (hq : q i = false) : ∀ {l : List Nat}, i ∈ l → l.countP q < l.countP p := by
  intro l
  induction l with
  | nil => intro hi; cases hi
  | cons x l ih =>
    intro hi
    have hm : l.countP q ≤ l.countP p := List.countP_mono_left (fun x _ => h x)
    rw [List.countP_cons, List.countP_cons]
    rcases List.mem_cons.1 hi with rfl | hi
    · rw [hp, hq]; simp; omega
    · have := ih hi
      cases hx : q x with
      | false => simp; omega
      | true => rw [h x hx]; simp; omega
theorem leftN_lt {md : Region.Mode} {ops : Array Oper} {listed : Array Bool} {i : Nat} (h : i ∈ Region.ready md ops listed) : leftN ops.size (listed.setIfInBounds i true) < leftN ops.size listed := by
  obtain ⟨h0, o, ho, _⟩ := mem_ready.1 h
  have hi : i < ops.size := by
    rcases Nat.lt_or_ge i ops.size with h' | h'
    · exact h'
    · rw [Array.getElem?_eq_none h'] at ho; cases ho
  refine countP_ltD (i := i) (fun x hx => ?_) (by rw [h0]; rfl) ?_ (List.mem_range.2 hi)
  · by_cases hxi : i = x
    · subst hxi; rw [h0]; rfl
    · rw [getD_set_ne true hxi] at hx; exact hx
  · have hs : i < listed.size := by
      rcases Nat.lt_or_ge i listed.size with h' | h'
      · exact h'
      · simp [h'] at h0
    simp [hs]
theorem wpAny_inv {P : Program} {ops : Array Oper} {Q : Exit → Act → World → Prop} {md : Region.Mode} (Inv : Array Bool → Act → World → Prop)
    (hstep : ∀ listed a w i, Inv listed a w → i ∈ Region.ready md ops listed → wpOp P ops Q i (Inv (listed.setIfInBounds i true)) a w)
    (hend : ∀ listed a w, Inv listed a w → Region.ready md ops listed = [] → Q .normal a w) :
    ∀ fuel listed a w, leftN ops.size listed ≤ fuel → Inv listed a w → wpAny P md ops Q fuel listed a w := by
  intro fuel
  induction fuel with
  | zero =>
    intro listed a w hl hi
    have hr : Region.ready md ops listed = [] := by
      rw [List.eq_nil_iff_forall_not_mem]
      intro i h
      have := leftN_lt h
      omega
    exact ⟨hr, hend _ _ _ hi hr⟩
  | succ fuel ih =>
    intro listed a w hl hi
    refine ⟨hend _ _ _ hi, fun i h => wpOp_mono (fun a' w' h' => ih _ a' w' ?_ h') (hstep _ _ _ i hi h)⟩
    have := leftN_lt h
    omega
/-- Where operation k leaves its value. -/
def dstOf (ops : Array Oper) (k : Nat) : Option Nat := (ops[k]?).bind (·.dst)
/-- No operation writes this slot. -/
def offD (ops : Array Oper) (t : Nat) : Bool := ops.all (fun o => o.dst != some t)
/-- Operation k waits for operation j. -/
def waits (ops : Array Oper) (k j : Nat) : Bool := ((ops[k]?).map (fun o => o.after.any (fun e => Region.binds .any e && e.on == j))).getD false
def inOrder (ops : Array Oper) : Bool := (List.range ops.size).all (fun i => ((ops[i]?).map (fun o => o.guard.isNone && o.after.all (fun e => !Region.binds .any e || decide (e.on < i)))).getD true)
def apartD (ops : Array Oper) (N : Nat) : Bool := (List.range ops.size).all (fun i => match dstOf ops i with | none => true | some d => decide (d < N) && (List.range ops.size).all (fun j => j == i || dstOf ops j != some d))
/-- What operation o does in state a: it comes to a value, or to nothing, or calls. -/
inductive Does (P : Program) (o : Oper) (a : Act) (w : World) (R : Value → World → Prop) : Prop where
  | value (v : Value) (w' : World) (h : (execOp a.eval o).run P w = .ok (.value v) w') (hr : R v w') : Does P o a w R
  | skip (w' : World) (h : (execOp a.eval o).run P w = .ok .skip w') (hr : R undef w') : Does P o a w R
  | call (f : FuncId) (args : Array Value) (h : (execOp a.eval o).run P w = .ok (.enter f args) w) (hr : Calls P f args w fun e w' => ∃ v, e = .returned v ∧ R v w') : Does P o a w R
theorem Does.wp {P : Program} {o : Oper} {a : Act} {w : World} {R : Value → World → Prop} {K : Act → World → Prop} {Q : Exit → Act → World → Prop} (h : Does P o a w R) (hk : ∀ v w', R v w' → K (a.put o.dst v) w') : Oper.wp P o a w K Q := by
  unfold Oper.wp
  cases h with
  | value v w' h hr => rw [h]; exact hk _ _ hr
  | skip w' h hr => rw [h]; exact hk _ _ hr
  | call f args h hr =>
    rw [h, Oper.upon_enter]
    refine hr.mono fun e w' hh => ?_
    obtain ⟨v, rfl, hk'⟩ := hh
    exact hk _ _ hk'
/-- What is known of operation k once it has come up: of its value, of what lies in slot c, of the world. -/
def HasD (ops : Array Oper) (c : Nat) (Φ : Nat → Value → Value → World → Prop) (k : Nat) (a : Act) (w : World) : Prop :=
  Φ k ((dstOf ops k).elim undef (fun d => a.eval (.tmp d))) (a.eval (.tmp c)) w
def StepD (P : Program) (ops : Array Oper) (c : Nat) (G : World → Prop) (Φ : Nat → Value → Value → World → Prop) (a0 : Act) (i : Nat) (o : Oper) : Prop :=
  ∀ (a : Act) (w : World), G w → (∀ j, waits ops i j = true → HasD ops c Φ j a w) → (∀ t, offD ops t = true → a.eval (.tmp t) = a0.eval (.tmp t)) →
    Does P o a w fun v w' => G w' ∧ Φ i (o.dst.elim undef (fun _ => v)) (if o.dst = some c then v else a.eval (.tmp c)) w' ∧ ∀ k y, waits ops k i = false → Φ k y (a.eval (.tmp c)) w → Φ k y (if o.dst = some c then v else a.eval (.tmp c)) w'
def StepsD (P : Program) (ops : Array Oper) (c : Nat) (G : World → Prop) (Φ : Nat → Value → Value → World → Prop) (a0 : Act) : Nat → List Oper → Prop
  | _, [] => True
  | i, o :: l => StepD P ops c G Φ a0 i o ∧ StepsD P ops c G Φ a0 (i + 1) l
theorem StepsD.at {P : Program} {ops : Array Oper} {c : Nat} {G : World → Prop} {Φ : Nat → Value → Value → World → Prop} {a0 : Act} : ∀ {l : List Oper} {i : Nat}, StepsD P ops c G Φ a0 i l → ∀ {k : Nat} {o : Oper}, l[k]? = some o → StepD P ops c G Φ a0 (i + k) o
  | [], _, _, k, o, h => by cases h
  | x :: l, i, hs, 0, o, h => by cases h; exact hs.1
  | x :: l, i, hs, k + 1, o, h => by
    have := StepsD.at hs.2 (k := k) (o := o) (by simpa using h)
    rw [Nat.add_assoc, Nat.add_comm 1 k] at this
    exact this
theorem put_evalD (a : Act) (d : Option Nat) (v : Value) (t : Nat) (hN : ∀ d', d = some d' → d' < a.tmps.size) : (a.put d v).eval (.tmp t) = if d = some t then v else a.eval (.tmp t) := by
  cases d with
  | none => simp [Act.put]
  | some d =>
    have hd := hN d rfl
    show (a.tmps.setIfInBounds d v).getD t undef = _
    by_cases h : d = t
    · subst h; simp [hd]
    · have : ¬ (some d = some t) := fun e => h (Option.some.inj e)
      rw [if_neg this]
      show _ = a.tmps.getD t undef
      simp [Array.getElem?_setIfInBounds_ne h]
theorem put_atD (a : Act) (d : Option Nat) (v : Value) (t : Nat) (h : d ≠ some t) : (a.put d v).tmps[t]? = a.tmps[t]? := by
  cases d with
  | none => rfl
  | some d =>
    have : d ≠ t := fun e => h (by rw [e])
    show (a.tmps.setIfInBounds d v)[t]? = _
    simp [Array.getElem?_setIfInBounds_ne this]
theorem put_sizeD (a : Act) (d : Option Nat) (v : Value) : (a.put d v).tmps.size = a.tmps.size := by
  cases d with
  | none => rfl
  | some d => show (a.tmps.setIfInBounds d v).size = _; simp
theorem put_defersD (a : Act) (d : Option Nat) (v : Value) : (a.put d v).defers = a.defers := by cases d <;> rfl
/-- All have come up, where none may and each waits for earlier ones alone. -/
theorem all_listedD {ops : Array Oper} {listed : Array Bool} (hs : listed.size = ops.size) (ht : inOrder ops = true) (hr : Region.ready .any ops listed = []) : ∀ n i, i < n → i < ops.size → listed.getD i false = true := by
  intro n
  induction n with
  | zero => intro i h; omega
  | succ n ih =>
    intro i hi hn
    have h1 := List.all_eq_true.1 ht i (List.mem_range.2 hn)
    have ho : ops[i]? = some ops[i] := Array.getElem?_eq_getElem hn
    rw [ho] at h1
    simp only [Option.map_some, Option.getD_some, Bool.and_eq_true, Array.all_eq_true', Bool.or_eq_true, Bool.not_eq_true', decide_eq_true_eq] at h1
    have h2 : ∀ e ∈ (ops[i]).after, Region.binds .any e = true → e.on < i := fun e he hb => by
      rcases h1.2 e he with h | h
      · rw [hb] at h; cases h
      · exact h
    have hnr : ¬ i ∈ Region.ready .any ops listed := by rw [hr]; intro h; cases h
    have hl : i < listed.size := by omega
    by_cases hx : listed.getD i true = false
    · exact absurd (mem_ready.2 ⟨hx, ops[i], ho, fun e he hb => ih e.on (by have := h2 e he hb; omega) (by have := h2 e he hb; omega)⟩) hnr
    · simp [hl] at hx ⊢; exact hx
/-- A REGION THAT DRAWS, BY AN INVARIANT: each operation once, whatever has come up before it. -/
theorem wp_drawnI {P : Program} {ops : Array Oper} {Q : Exit → Act → World → Prop} {id : Nat} {a0 : Act} {w0 : World} (hm : P.follows .mixedOrders = true)
    (N : Nat) (hN : a0.tmps.size = N) (ht : inOrder ops = true) (hd : apartD ops N = true) (c : Nat) (G : World → Prop) (Φ : Nat → Value → Value → World → Prop) (hG : G w0.drew)
    (hstep : StepsD P ops c G Φ a0 0 ops.toList)
    (hend : ∀ a w, a.defers = a0.defers → a.tmps.size = N → (∀ t, offD ops t = true → a.tmps[t]? = a0.tmps[t]?) → G w → (∀ k, k < ops.size → HasD ops c Φ k a w) → Q .normal a w) :
    (Code.region id ops true).wp P Q a0 w0 := by
  refine wp_region_any hm ?_
  refine wpAny_inv (fun listed a w => listed.size = ops.size ∧ a.tmps.size = N ∧ a.defers = a0.defers ∧ (∀ t, offD ops t = true → a.tmps[t]? = a0.tmps[t]?) ∧ G w ∧ (∀ k j, listed.getD k false = true → waits ops k j = true → listed.getD j false = true) ∧ ∀ k, listed.getD k false = true → HasD ops c Φ k a w) ?_ ?_ _ _ _ _ ?_ ?_
  · rintro listed a w i ⟨hs, hn, hf, hoff, hg, hcl, hall⟩ hr
    obtain ⟨h0, o, ho, hpre⟩ := mem_ready.1 hr
    have hi : i < ops.size := by
      rcases Nat.lt_or_ge i ops.size with h' | h'
      · exact h'
      · rw [Array.getElem?_eq_none h'] at ho; cases ho
    have hot : ops.toList[i]? = some o := by rw [Array.getElem?_toList]; exact ho
    have hst := hstep.at hot
    rw [Nat.zero_add] at hst
    have hgd : o.guard = none := by
      have h1 := List.all_eq_true.1 ht i (List.mem_range.2 hi)
      rw [ho] at h1
      simp only [Option.map_some, Option.getD_some, Bool.and_eq_true] at h1
      simpa using h1.1
    have hdst : ∀ d, o.dst = some d → d < N ∧ ∀ j, j < ops.size → j ≠ i → dstOf ops j ≠ some d := by
      intro d hd'
      have h1 := List.all_eq_true.1 hd i (List.mem_range.2 hi)
      have e : dstOf ops i = some d := by unfold dstOf; rw [ho]; exact hd'
      rw [e] at h1
      simp only [Bool.and_eq_true, decide_eq_true_eq] at h1
      refine ⟨h1.1, fun j hj hji => ?_⟩
      have h2 := List.all_eq_true.1 h1.2 j (List.mem_range.2 hj)
      simpa [hji] using h2
    have hlt : ∀ d', o.dst = some d' → d' < a.tmps.size := fun d' h => by rw [hn]; exact (hdst d' h).1
    refine wpOp_step ho (fun K' hK => ?_)
    have hw : Region.wanted o (yielded ops a.tmps) = true := by unfold Region.wanted; rw [hgd]
    rw [if_pos hw]
    have hoffe : ∀ t, offD ops t = true → a.eval (.tmp t) = a0.eval (.tmp t) := fun t h => by
      show a.tmps.getD t undef = a0.tmps.getD t undef
      simp [hoff t h]
    have hwl : ∀ j, waits ops i j = true → listed.getD j false = true := fun j hj => by
      unfold waits at hj
      rw [ho] at hj
      simp only [Option.map_some, Option.getD_some, Array.any_eq_true', Bool.and_eq_true, beq_iff_eq] at hj
      obtain ⟨e, he, hb, rfl⟩ := hj
      exact hpre e he hb
    have hwt : ∀ j, waits ops i j = true → HasD ops c Φ j a w := fun j hj => hall _ (hwl j hj)
    refine (hst a w hg hwt hoffe).wp fun v w' hv => hK _ _ ?_
    obtain ⟨hg', hΦ, hkeep⟩ := hv
    have hc := put_evalD a o.dst v c hlt
    refine ⟨by simp [hs], by rw [put_sizeD]; exact hn, by rw [put_defersD]; exact hf, fun t h => ?_, hg', fun k j hk hj => ?_, fun k hk => ?_⟩
    · rw [put_atD]
      · exact hoff t h
      · intro e
        have h1 := (Array.all_eq_true'.1 h) o (Array.mem_of_getElem? ho)
        simp [e] at h1
    · by_cases hki : i = k
      · subst hki; exact getD_set_true (hwl j hj)
      · rw [getD_set_ne false hki] at hk
        exact getD_set_true (hcl k j hk hj)
    · unfold HasD
      rw [hc]
      by_cases hki : i = k
      · subst hki
        have e : ((dstOf ops i).elim undef (fun d => (a.put o.dst v).eval (.tmp d))) = o.dst.elim undef (fun _ => v) := by
          unfold dstOf
          rw [ho]
          show (o.dst.elim undef _) = _
          cases hdd : o.dst with
          | none => rfl
          | some d => show ((a.put (some d) v).eval (.tmp d)) = v; rw [put_evalD a (some d) v d (by intro d' e; exact hlt d' (hdd.trans e)), if_pos rfl]
        rw [e]
        exact hΦ
      · have hk' : listed.getD k false = true := by rw [getD_set_ne false hki] at hk; exact hk
        have h1 := hall k hk'
        unfold HasD at h1
        have hw2 : waits ops k i = false := by
          cases hw3 : waits ops k i with
          | false => rfl
          | true =>
            have h3 := hcl k i hk' hw3
            rcases Nat.lt_or_ge i listed.size with h' | h'
            · simp [h'] at h0 h3; rw [h0] at h3; cases h3
            · simp [h'] at h0
        have e : ((dstOf ops k).elim undef (fun d => (a.put o.dst v).eval (.tmp d))) = ((dstOf ops k).elim undef (fun d => a.eval (.tmp d))) := by
          cases hdk : dstOf ops k with
          | none => rfl
          | some d =>
            show (a.put o.dst v).eval (.tmp d) = a.eval (.tmp d)
            rw [put_evalD a o.dst v d hlt, if_neg]
            intro e
            have hks : k < ops.size := by
              rcases Nat.lt_or_ge k ops.size with h' | h'
              · exact h'
              · simp [hs, h'] at hk'
            exact (hdst d e).2 k hks (Ne.symm hki) hdk
        rw [e]
        exact hkeep k _ hw2 h1
  · rintro listed a w ⟨hs, hn, hf, hoff, hg, hcl, hall⟩ hr
    exact hend a w hf hn hoff hg (fun k hk => hall k (all_listedD hs ht hr _ k (Nat.lt_succ_self _) hk))
  · unfold leftN
    exact Nat.le_trans List.countP_le_length (by simp)
  · refine ⟨by simp, hN, rfl, fun _ _ => rfl, hG, fun k j hk hj => ?_, fun k hk => ?_⟩
    · rcases Nat.lt_or_ge k ops.size with h' | h' <;> simp [h'] at hk
    · rcases Nat.lt_or_ge k ops.size with h' | h' <;> simp [h'] at hk
/-- The frame as it is behind a region: the slots that it writes, and those of before. -/
def mixL (ts : Array Value) : Nat → List Bool → List Value → List Value
  | k, true :: m, _ :: l => ts.getD k undef :: mixL ts (k + 1) m l
  | k, false :: m, x :: l => x :: mixL ts (k + 1) m l
  | _, _, _ => []
theorem mixL_len (ts : Array Value) : ∀ (l : List Value) (m : List Bool) (k : Nat), m.length = l.length → (mixL ts k m l).length = l.length
  | [], [], _, _ => rfl
  | [], _ :: _, _, h => by simp at h
  | _ :: _, [], _, h => by simp at h
  | _ :: l, true :: m, k, h => by simp only [mixL, List.length_cons]; rw [mixL_len ts l m _ (by simpa using h)]
  | _ :: l, false :: m, k, h => by simp only [mixL, List.length_cons]; rw [mixL_len ts l m _ (by simpa using h)]
theorem mixL_at (ts : Array Value) : ∀ (l : List Value) (m : List Bool) (k : Nat), m.length = l.length → ∀ i, (mixL ts k m l)[i]? = if m[i]? = some true then some (ts.getD (k + i) undef) else l[i]?
  | [], [], _, _, i => by simp [mixL]
  | [], _ :: _, _, h, _ => by simp at h
  | _ :: _, [], _, h, _ => by simp at h
  | x :: l, true :: m, k, h, 0 => by simp [mixL]
  | x :: l, false :: m, k, h, 0 => by simp [mixL]
  | x :: l, true :: m, k, h, i + 1 => by simp only [mixL, List.getElem?_cons_succ]; rw [mixL_at ts l m _ (by simpa using h) i, Nat.add_assoc, Nat.add_comm 1 i]
  | x :: l, false :: m, k, h, i + 1 => by simp only [mixL, List.getElem?_cons_succ]; rw [mixL_at ts l m _ (by simpa using h) i, Nat.add_assoc, Nat.add_comm 1 i]
theorem mix_eq {ops : Array Oper} {a a0 : Act} {l : List Value} (m : List Bool) (h0 : a0.tmps = l.toArray) (hm : m.length = l.length) (hs : a.tmps.size = m.length) (hd : a.defers = a0.defers)
    (hk : (List.range m.length).all (fun t => m.getD t true || offD ops t) = true) (hoff : ∀ t, offD ops t = true → a.tmps[t]? = a0.tmps[t]?) : a = ⟨(mixL a.tmps 0 m l).toArray, a0.defers⟩ := by
  obtain ⟨ts, df⟩ := a
  have hd' : df = a0.defers := hd
  subst hd'
  congr 1
  show ts = (mixL ts 0 m l).toArray
  have hs' : ts.size = m.length := hs
  apply Array.ext_getElem?
  intro i
  have e9 : (mixL ts 0 m l).toArray[i]? = (mixL ts 0 m l)[i]? := by simp
  rw [e9, mixL_at ts l m 0 hm i, Nat.zero_add]
  rcases Nat.lt_or_ge i m.length with hi | hi
  · have hk' := List.all_eq_true.1 hk i (List.mem_range.2 hi)
    split
    · have hi2 : i < ts.size := by omega
      simp [hi2]
    · rename_i hne
      have hf : m.getD i true = false := by
        cases hb : m[i]? with
        | none => rw [List.getElem?_eq_none_iff] at hb; omega
        | some b => cases b with
          | true => exact absurd hb hne
          | false => simp [hb]
      rw [hf, Bool.false_or] at hk'
      have := hoff i hk'
      rw [h0] at this
      simpa using this
  · have h1 : ts[i]? = none := Array.getElem?_eq_none (by omega)
    have h2 : m[i]? = none := List.getElem?_eq_none (by omega)
    rw [h1, h2, List.getElem?_eq_none (by omega)]
    simp
theorem keepN {Φ : Nat → Value → Value → World → Prop} {p : Prop} [Decidable p] {k : Nat} {y v u : Value} {w : World} (hn : ¬ p) (h : Φ k y u w) : Φ k y (if p then v else u) w := by rw [if_neg hn]; exact h
theorem evT {a : Act} {t : Nat} {v : Value} (h : a.eval (.tmp t) = v) : a.tmps[t]?.getD undef = v := by
  rw [← h]
  show _ = a.tmps.getD t undef
  simp
theorem does_call1 {P : Program} {o : Oper} {a : Act} {w : World} {R : Value → World → Prop} (f : FuncId) (x : Operand) (ts : Array TypeId)
    (ho : o.op = .call { callee := .value (.func f), args := #[x], argTypes := ts }) (v : Value) (hx : a.eval x = v) (hf : ∀ args w, (callFunc f args).run P w = .ok (.enter f args) w)
    {S : Ending → World → Prop} (hc : Calls P f #[v] w S) (hv : ∀ e w', S e w' → ∃ v, e = .returned v ∧ R v w') : Does P o a w R := by
  refine Does.call f #[v] ?_ (hc.mono hv)
  obtain ⟨dst, op, ty, pos, after, guard⟩ := o
  cases ho
  show (callFunc f (#[] ++ #[x].map a.eval ++ #[])).run P w = _
  have e : (#[] ++ #[x].map a.eval ++ #[]) = #[v] := by simp [hx]
  rw [e]; exact hf _ _
theorem does_call2 {P : Program} {o : Oper} {a : Act} {w : World} {R : Value → World → Prop} (f : FuncId) (x y : Operand) (ts : Array TypeId)
    (ho : o.op = .call { callee := .value (.func f), args := #[x, y], argTypes := ts }) (v u : Value) (hx : a.eval x = v) (hy : a.eval y = u) (hf : ∀ args w, (callFunc f args).run P w = .ok (.enter f args) w)
    {S : Ending → World → Prop} (hc : Calls P f #[v, u] w S) (hv : ∀ e w', S e w' → ∃ v, e = .returned v ∧ R v w') : Does P o a w R := by
  refine Does.call f #[v, u] ?_ (hc.mono hv)
  obtain ⟨dst, op, ty, pos, after, guard⟩ := o
  cases ho
  show (callFunc f (#[] ++ #[x, y].map a.eval ++ #[])).run P w = _
  have e : (#[] ++ #[x, y].map a.eval ++ #[]) = #[v, u] := by simp [hx, hy]
  rw [e]; exact hf _ _
end Go.Proofs.YtckkhpegimkefaaGreatDoor
namespace Go.Proofs.YtckkhpegimkefaaGreatDoor
set_option linter.unusedVariables false
/-- What operation k has come to. -/
def valD (ops : Array Oper) (a : Act) (k : Nat) : Value := (dstOf ops k).elim undef (fun d => a.eval (.tmp d))
def updD (f : Nat → Value) (i : Nat) (v : Value) (k : Nat) : Value := if k = i then v else f k
def addD (S : Nat → Bool) (i k : Nat) : Bool := if k = i then true else S k
def StepJ (P : Program) (ops : Array Oper) (J : (Nat → Bool) → (Nat → Value) → World → Prop) (a0 : Act) (i : Nat) (o : Oper) : Prop :=
  ∀ (S : Nat → Bool) (a : Act) (w : World), J S (valD ops a) w → S i = false → (∀ j, waits ops i j = true → S j = true) → (∀ t, offD ops t = true → a.eval (.tmp t) = a0.eval (.tmp t)) →
    Does P o a w fun v w' => J (addD S i) (updD (valD ops a) i (o.dst.elim undef (fun _ => v))) w'
def StepsJ (P : Program) (ops : Array Oper) (J : (Nat → Bool) → (Nat → Value) → World → Prop) (a0 : Act) : Nat → List Oper → Prop
  | _, [] => True
  | i, o :: l => StepJ P ops J a0 i o ∧ StepsJ P ops J a0 (i + 1) l
theorem StepsJ.at {P : Program} {ops : Array Oper} {J : (Nat → Bool) → (Nat → Value) → World → Prop} {a0 : Act} : ∀ {l : List Oper} {i : Nat}, StepsJ P ops J a0 i l → ∀ {k : Nat} {o : Oper}, l[k]? = some o → StepJ P ops J a0 (i + k) o
  | [], _, _, k, o, h => by cases h
  | x :: l, i, hs, 0, o, h => by cases h; exact hs.1
  | x :: l, i, hs, k + 1, o, h => by
    have := StepsJ.at hs.2 (k := k) (o := o) (by simpa using h)
    rw [Nat.add_assoc, Nat.add_comm 1 k] at this
    exact this
theorem wp_drawnJ {P : Program} {ops : Array Oper} {Q : Exit → Act → World → Prop} {id : Nat} {a0 : Act} {w0 : World} (hm : P.follows .mixedOrders = true)
    (N : Nat) (hN : a0.tmps.size = N) (ht : inOrder ops = true) (hd : apartD ops N = true) (J : (Nat → Bool) → (Nat → Value) → World → Prop) (hJ : J (fun _ => false) (valD ops a0) w0.drew)
    (hstep : StepsJ P ops J a0 0 ops.toList)
    (hend : ∀ a w S, a.defers = a0.defers → a.tmps.size = N → (∀ t, offD ops t = true → a.tmps[t]? = a0.tmps[t]?) → (∀ k, k < ops.size → S k = true) → J S (valD ops a) w → Q .normal a w) :
    (Code.region id ops true).wp P Q a0 w0 := by
  refine wp_region_any hm ?_
  refine wpAny_inv (fun listed a w => listed.size = ops.size ∧ a.tmps.size = N ∧ a.defers = a0.defers ∧ (∀ t, offD ops t = true → a.tmps[t]? = a0.tmps[t]?) ∧ J (fun k => listed.getD k false) (valD ops a) w) ?_ ?_ _ _ _ _ ?_ ?_
  · rintro listed a w i ⟨hs, hn, hf, hoff, hj⟩ hr
    obtain ⟨h0, o, ho, hpre⟩ := mem_ready.1 hr
    have hi : i < ops.size := by
      rcases Nat.lt_or_ge i ops.size with h' | h'
      · exact h'
      · rw [Array.getElem?_eq_none h'] at ho; cases ho
    have hot : ops.toList[i]? = some o := by rw [Array.getElem?_toList]; exact ho
    have hst := hstep.at hot
    rw [Nat.zero_add] at hst
    have hgd : o.guard = none := by
      have h1 := List.all_eq_true.1 ht i (List.mem_range.2 hi)
      rw [ho] at h1
      simp only [Option.map_some, Option.getD_some, Bool.and_eq_true] at h1
      simpa using h1.1
    have hdst : ∀ d, o.dst = some d → d < N ∧ ∀ j, j < ops.size → j ≠ i → dstOf ops j ≠ some d := by
      intro d hd'
      have h1 := List.all_eq_true.1 hd i (List.mem_range.2 hi)
      have e : dstOf ops i = some d := by unfold dstOf; rw [ho]; exact hd'
      rw [e] at h1
      simp only [Bool.and_eq_true, decide_eq_true_eq] at h1
      refine ⟨h1.1, fun j hj hji => ?_⟩
      have h2 := List.all_eq_true.1 h1.2 j (List.mem_range.2 hj)
      simpa [hji] using h2
    have hlt : ∀ d', o.dst = some d' → d' < a.tmps.size := fun d' h => by rw [hn]; exact (hdst d' h).1
    refine wpOp_step ho (fun K' hK => ?_)
    have hw : Region.wanted o (yielded ops a.tmps) = true := by unfold Region.wanted; rw [hgd]
    rw [if_pos hw]
    have hoffe : ∀ t, offD ops t = true → a.eval (.tmp t) = a0.eval (.tmp t) := fun t h => by
      show a.tmps.getD t undef = a0.tmps.getD t undef
      simp [hoff t h]
    have hwl : ∀ j, waits ops i j = true → listed.getD j false = true := fun j hj => by
      unfold waits at hj
      rw [ho] at hj
      simp only [Option.map_some, Option.getD_some, Array.any_eq_true', Bool.and_eq_true, beq_iff_eq] at hj
      obtain ⟨e, he, hb, rfl⟩ := hj
      exact hpre e he hb
    have hil : i < listed.size := by omega
    have hni : listed.getD i false = false := by
      simp [hil] at h0 ⊢; exact h0
    refine (hst _ a w hj hni hwl hoffe).wp fun v w' hv => hK _ _ ?_
    refine ⟨by simp [hs], by rw [put_sizeD]; exact hn, by rw [put_defersD]; exact hf, fun t h => ?_, ?_⟩
    · rw [put_atD]
      · exact hoff t h
      · intro e
        have h1 := (Array.all_eq_true'.1 h) o (Array.mem_of_getElem? ho)
        simp [e] at h1
    · have e1 : (fun k => (listed.setIfInBounds i true).getD k false) = addD (fun k => listed.getD k false) i := by
        funext k
        unfold addD
        by_cases hki : k = i
        · subst hki; rw [if_pos rfl]; simp [hil]
        · rw [if_neg hki, getD_set_ne false (Ne.symm hki)]
      have e2 : valD ops (a.put o.dst v) = updD (valD ops a) i (o.dst.elim undef (fun _ => v)) := by
        funext k
        unfold updD valD
        by_cases hki : k = i
        · subst hki
          rw [if_pos rfl]
          unfold dstOf
          rw [ho]
          show (o.dst.elim undef _) = _
          cases hdd : o.dst with
          | none => rfl
          | some d => show ((a.put (some d) v).eval (.tmp d)) = v; rw [put_evalD a (some d) v d (by intro d' e; exact hlt d' (hdd.trans e)), if_pos rfl]
        · rw [if_neg hki]
          cases hdk : dstOf ops k with
          | none => rfl
          | some d =>
            show (a.put o.dst v).eval (.tmp d) = a.eval (.tmp d)
            rw [put_evalD a o.dst v d hlt, if_neg]
            intro e
            have hks : k < ops.size := by
              rcases Nat.lt_or_ge k ops.size with h' | h'
              · exact h'
              · unfold dstOf at hdk; rw [Array.getElem?_eq_none h'] at hdk; cases hdk
            exact (hdst d e).2 k hks hki hdk
      rw [e1, e2]
      exact hv
  · rintro listed a w ⟨hs, hn, hf, hoff, hj⟩ hr
    exact hend a w _ hf hn hoff (fun k hk => all_listedD hs ht hr _ k (Nat.lt_succ_self _) hk) hj
  · unfold leftN
    exact Nat.le_trans List.countP_le_length (by simp)
  · refine ⟨by simp, hN, rfl, fun _ _ => rfl, ?_⟩
    have e : (fun k => (Array.replicate ops.size false).getD k false) = fun _ => false := by
      funext k
      rcases Nat.lt_or_ge k ops.size with h' | h' <;> simp [h']
    first
    | (rw [e]; exact hJ)
    | (have e2 : (fun k => ((ops.map (fun _ => false)).getD k false)) = fun _ => false := by
         funext k
         rcases Nat.lt_or_ge k ops.size with h' | h' <;> simp [h']
       rw [e2]; exact hJ)
/-- What has come up, each with its fact; values of unlike classes (not 0) are unlike. -/
structure PInv (G : World → Prop) (Φ : Nat → Value → World → Prop) (cls : Nat → Nat) (S : Nat → Bool) (f : Nat → Value) (w : World) : Prop where
  g : G w
  h : ∀ k, S k = true → Φ k (f k) w
  d : ∀ k j, S k = true → S j = true → cls k ≠ 0 → cls j ≠ 0 → cls k ≠ cls j → f k ≠ f j
/-- One step: what is waited for is there and apart; the value is new, or that of something of its class; what else there was is kept. -/
def StepP (P : Program) (ops : Array Oper) (G : World → Prop) (Φ : Nat → Value → World → Prop) (cls : Nat → Nat) (a0 : Act) (i : Nat) (o : Oper) : Prop :=
  ∀ (a : Act) (w : World), G w → (∀ j, waits ops i j = true → Φ j (valD ops a j) w) → (∀ j k, waits ops i j = true → waits ops i k = true → cls j ≠ 0 → cls k ≠ 0 → cls j ≠ cls k → valD ops a j ≠ valD ops a k) → (∀ t, offD ops t = true → a.eval (.tmp t) = a0.eval (.tmp t)) →
    Does P o a w fun v w' => G w' ∧ Φ i (o.dst.elim undef (fun _ => v)) w' ∧
      (cls i = 0 ∨ (∀ k y, Φ k y w → cls k ≠ 0 → o.dst.elim undef (fun _ => v) ≠ y) ∨ (∃ j, waits ops i j = true ∧ cls j = cls i ∧ o.dst.elim undef (fun _ => v) = valD ops a j)) ∧
      (∀ k y, (cls i ≠ 0 → cls k ≠ 0 → cls k ≠ cls i → y ≠ o.dst.elim undef (fun _ => v)) → Φ k y w → Φ k y w')
def StepsP (P : Program) (ops : Array Oper) (G : World → Prop) (Φ : Nat → Value → World → Prop) (cls : Nat → Nat) (a0 : Act) : Nat → List Oper → Prop
  | _, [] => True
  | i, o :: l => StepP P ops G Φ cls a0 i o ∧ StepsP P ops G Φ cls a0 (i + 1) l
theorem Does.mono {P : Program} {o : Oper} {a : Act} {w : World} {R R' : Value → World → Prop} (h : Does P o a w R) (hk : ∀ v w', R v w' → R' v w') : Does P o a w R' := by
  cases h with
  | value v w' h hr => exact .value v w' h (hk _ _ hr)
  | skip w' h hr => exact .skip w' h (hk _ _ hr)
  | call f args h hr => exact .call f args h (hr.mono fun e w' ⟨v, he, hv⟩ => ⟨v, he, hk _ _ hv⟩)
theorem StepP.J {P : Program} {ops : Array Oper} {G : World → Prop} {Φ : Nat → Value → World → Prop} {cls : Nat → Nat} {a0 : Act} {i : Nat} {o : Oper} (h : StepP P ops G Φ cls a0 i o) : StepJ P ops (PInv G Φ cls) a0 i o := by
  intro S a w hj hi hwt hoff
  refine (h a w hj.g (fun j hw => hj.h j (hwt j hw)) (fun j k h1 h2 => hj.d j k (hwt j h1) (hwt k h2)) hoff).mono fun v w' hv => ?_
  obtain ⟨hg, hφ, hc, hk⟩ := hv
  have hv0 : ∀ k, S k = true → cls k ≠ 0 → cls i ≠ 0 → cls k ≠ cls i → valD ops a k ≠ o.dst.elim undef (fun _ => v) := by
    intro k hs c1 c2 c3
    rcases hc with h0 | h0 | ⟨j, hw, hcj, he⟩
    · exact absurd h0 c2
    · exact Ne.symm (h0 k _ (hj.h k hs) c1)
    · rw [he]
      exact hj.d k j hs (hwt j hw) c1 (by rw [hcj]; exact c2) (by rw [hcj]; exact c3)
  refine ⟨hg, fun k hs => ?_, fun k j hs1 hs2 c1 c2 c3 => ?_⟩
  · unfold updD
    unfold addD at hs
    by_cases hki : k = i
    · subst hki; rw [if_pos rfl]; exact hφ
    · rw [if_neg hki] at hs ⊢
      exact hk k _ (fun c1 c2 c3 => hv0 k hs c2 c1 c3) (hj.h k hs)
  · unfold updD
    unfold addD at hs1 hs2
    by_cases hki : k = i
    · subst hki
      rw [if_pos rfl]
      by_cases hji : j = k
      · subst hji; exact absurd rfl c3
      · rw [if_neg hji] at hs2 ⊢
        exact Ne.symm (hv0 j hs2 c2 c1 (Ne.symm c3))
    · rw [if_neg hki] at hs1 ⊢
      by_cases hji : j = i
      · subst hji
        rw [if_pos rfl]
        exact hv0 k hs1 c1 c2 c3
      · rw [if_neg hji] at hs2 ⊢
        exact hj.d k j hs1 hs2 c1 c2 c3
theorem StepsP.J {P : Program} {ops : Array Oper} {G : World → Prop} {Φ : Nat → Value → World → Prop} {cls : Nat → Nat} {a0 : Act} : ∀ {l : List Oper} {i : Nat}, StepsP P ops G Φ cls a0 i l → StepsJ P ops (PInv G Φ cls) a0 i l
  | [], _, _ => trivial
  | _ :: _, _, h => ⟨h.1.J, h.2.J⟩
theorem wp_drawnP {P : Program} {ops : Array Oper} {Q : Exit → Act → World → Prop} {id : Nat} {a0 : Act} {w0 : World} (hm : P.follows .mixedOrders = true)
    (N : Nat) (hN : a0.tmps.size = N) (ht : inOrder ops = true) (hd : apartD ops N = true) (G : World → Prop) (Φ : Nat → Value → World → Prop) (cls : Nat → Nat) (hG : G w0.drew)
    (hstep : StepsP P ops G Φ cls a0 0 ops.toList)
    (hend : ∀ a w, a.defers = a0.defers → a.tmps.size = N → (∀ t, offD ops t = true → a.tmps[t]? = a0.tmps[t]?) → G w → (∀ k, k < ops.size → Φ k (valD ops a k) w) → (∀ k j, k < ops.size → j < ops.size → cls k ≠ 0 → cls j ≠ 0 → cls k ≠ cls j → valD ops a k ≠ valD ops a j) → Q .normal a w) :
    (Code.region id ops true).wp P Q a0 w0 :=
  wp_drawnJ hm N hN ht hd (PInv G Φ cls) ⟨hG, fun _ h => absurd h Bool.false_ne_true, fun _ _ h => absurd h Bool.false_ne_true⟩ hstep.J
    (fun a w S h1 h2 h3 h4 h5 => hend a w h1 h2 h3 h5.g (fun k hk => h5.h k (h4 k hk)) (fun k j hk hj => h5.d k j (h4 k hk) (h4 j hj)))
theorem does_call0 {P : Program} {o : Oper} {a : Act} {w : World} {R : Value → World → Prop} (f : FuncId) (ts : Array TypeId)
    (ho : o.op = .call { callee := .value (.func f), args := #[], argTypes := ts }) (hf : ∀ args w, (callFunc f args).run P w = .ok (.enter f args) w)
    {S : Ending → World → Prop} (hc : Calls P f #[] w S) (hv : ∀ e w', S e w' → ∃ v, e = .returned v ∧ R v w') : Does P o a w R := by
  refine Does.call f #[] ?_ (hc.mono hv)
  obtain ⟨dst, op, ty, pos, after, guard⟩ := o
  cases ho
  show (callFunc f (#[] ++ #[].map a.eval ++ #[])).run P w = _
  have e : ((#[] : Array Value) ++ #[].map a.eval ++ #[]) = #[] := by simp
  rw [e]; exact hf _ _
theorem does_call3 {P : Program} {o : Oper} {a : Act} {w : World} {R : Value → World → Prop} (f : FuncId) (x y z : Operand) (ts : Array TypeId)
    (ho : o.op = .call { callee := .value (.func f), args := #[x, y, z], argTypes := ts }) (v u t : Value) (hx : a.eval x = v) (hy : a.eval y = u) (hz : a.eval z = t) (hf : ∀ args w, (callFunc f args).run P w = .ok (.enter f args) w)
    {S : Ending → World → Prop} (hc : Calls P f #[v, u, t] w S) (hv : ∀ e w', S e w' → ∃ v, e = .returned v ∧ R v w') : Does P o a w R := by
  refine Does.call f #[v, u, t] ?_ (hc.mono hv)
  obtain ⟨dst, op, ty, pos, after, guard⟩ := o
  cases ho
  show (callFunc f (#[] ++ #[x, y, z].map a.eval ++ #[])).run P w = _
  have e : (#[] ++ #[x, y, z].map a.eval ++ #[]) = #[v, u, t] := by simp [hx, hy, hz]
  rw [e]; exact hf _ _
theorem does_call4 {P : Program} {o : Oper} {a : Act} {w : World} {R : Value → World → Prop} (f : FuncId) (x y z k : Operand) (ts : Array TypeId)
    (ho : o.op = .call { callee := .value (.func f), args := #[x, y, z, k], argTypes := ts }) (v u t s : Value) (hx : a.eval x = v) (hy : a.eval y = u) (hz : a.eval z = t) (hk : a.eval k = s) (hf : ∀ args w, (callFunc f args).run P w = .ok (.enter f args) w)
    {S : Ending → World → Prop} (hc : Calls P f #[v, u, t, s] w S) (hv : ∀ e w', S e w' → ∃ v, e = .returned v ∧ R v w') : Does P o a w R := by
  refine Does.call f #[v, u, t, s] ?_ (hc.mono hv)
  obtain ⟨dst, op, ty, pos, after, guard⟩ := o
  cases ho
  show (callFunc f (#[] ++ #[x, y, z, k].map a.eval ++ #[])).run P w = _
  have e : (#[] ++ #[x, y, z, k].map a.eval ++ #[]) = #[v, u, t, s] := by simp [hx, hy, hz, hk]
  rw [e]; exact hf _ _
end Go.Proofs.YtckkhpegimkefaaGreatDoor
namespace Go.Proofs.YtckkhpegimkefaaGreatDoor
set_option linter.unusedVariables false
def StepV (P : Program) (ops : Array Oper) (V : Nat → Value) (a0 : Act) (w : World) (i : Nat) (o : Oper) : Prop :=
  ∀ (a : Act), (∀ j, waits ops i j = true → valD ops a j = V j) → (∀ t, offD ops t = true → a.eval (.tmp t) = a0.eval (.tmp t)) → (∀ k, waits ops k i = true → valD ops a k = valD ops a0 k) →
    ∃ v, (execOp a.eval o).run P w = .ok (.value v) w ∧ o.dst.elim undef (fun _ => v) = V i
def StepsV (P : Program) (ops : Array Oper) (V : Nat → Value) (a0 : Act) (w : World) : Nat → List Oper → Prop
  | _, [] => True
  | i, o :: l => StepV P ops V a0 w i o ∧ StepsV P ops V a0 w (i + 1) l
/-- the values of what has come up are said; the others' slots are as they were; what comes up comes behind all that it waits for -/
structure VInv (ops : Array Oper) (V : Nat → Value) (a0 : Act) (w0 : World) (S : Nat → Bool) (f : Nat → Value) (w : World) : Prop where
  w : w = w0
  v : ∀ k, S k = true → f k = V k
  o : ∀ k, S k = false → f k = valD ops a0 k
  c : ∀ k j, S k = true → waits ops k j = true → S j = true
theorem StepsV.J {P : Program} {ops : Array Oper} {V : Nat → Value} {a0 : Act} {w0 : World} : ∀ {l : List Oper} {i : Nat}, StepsV P ops V a0 w0 i l → StepsJ P ops (VInv ops V a0 w0) a0 i l
  | [], _, _ => trivial
  | o :: l, i, h => by
    refine ⟨fun S a w hj hi hwt hoff => ?_, h.2.J⟩
    obtain ⟨hw0, hj, ho, hc⟩ := hj
    subst hw0
    obtain ⟨v, hv, hd⟩ := h.1 a (fun j hw => hj j (hwt j hw)) hoff (fun k hk => ho k (by
      cases hs : S k with
      | false => rfl
      | true => have := hc k i hs hk; rw [hi] at this; cases this))
    refine Does.value v _ hv ⟨rfl, fun k hk => ?_, fun k hk => ?_, fun k j hk hw => ?_⟩
    · unfold updD
      unfold addD at hk
      by_cases hki : k = i
      · subst hki; rw [if_pos rfl]; exact hd
      · rw [if_neg hki] at hk ⊢; exact hj k hk
    · unfold updD
      unfold addD at hk
      by_cases hki : k = i
      · rw [if_pos hki] at hk; cases hk
      · rw [if_neg hki] at hk ⊢; exact ho k hk
    · unfold addD at hk ⊢
      by_cases hji : j = i
      · rw [if_pos hji]
      · rw [if_neg hji]
        by_cases hki : k = i
        · subst hki; exact hwt j hw
        · rw [if_neg hki] at hk; exact hc k j hk hw
theorem wp_drawnV {P : Program} {ops : Array Oper} {Q : Exit → Act → World → Prop} {id : Nat} {a0 : Act} {w0 : World} (hm : P.follows .mixedOrders = true)
    (N : Nat) (hN : a0.tmps.size = N) (ht : inOrder ops = true) (hd : apartD ops N = true) (V : Nat → Value)
    (hstep : StepsV P ops V a0 w0.drew 0 ops.toList)
    (hend : ∀ a, a.defers = a0.defers → a.tmps.size = N → (∀ t, offD ops t = true → a.tmps[t]? = a0.tmps[t]?) → (∀ k, k < ops.size → valD ops a k = V k) → Q .normal a w0.drew) :
    (Code.region id ops true).wp P Q a0 w0 :=
  wp_drawnJ hm N hN ht hd (VInv ops V a0 w0.drew) ⟨rfl, fun _ h => absurd h Bool.false_ne_true, fun _ _ => rfl, fun _ _ h => absurd h Bool.false_ne_true⟩ hstep.J
    (fun a w S h1 h2 h3 h4 h5 => by
      obtain ⟨hw, h5, _, _⟩ := h5
      subst hw
      exact hend a h1 h2 h3 (fun k hk => h5 k (h4 k hk)))
/-- the values, by a list -/
def vals (l : List Value) (k : Nat) : Value := l.getD k undef
end Go.Proofs.YtckkhpegimkefaaGreatDoor
namespace Go.Proofs.YtckkhpegimkefaaGreatDoor
open Go.RowKit
set_option linter.unusedVariables false
set_option linter.unusedSimpArgs false
set_option maxRecDepth 1000000

theorem add_nums {u v cn : Nat} (hu : u < 4294967296) (hv : v < 4294967296) (hc : cn ≤ 1) : ∃ t1 t r c' : Nat, cn + u + v = r + c' * B32 ∧ IntKind.u64.wrap (u : Int) = (u : Int) ∧ IntKind.u64.wrap (v : Int) = (v : Int) ∧ IntKind.u64.wrap ((u : Int) + (v : Int)) = (t1 : Int) ∧ IntKind.u64.wrap ((cn : Int) + (t1 : Int)) = (t : Int) ∧ (t : Int) % 4294967296 = (r : Int) ∧ (t : Int) / 4294967296 = (c' : Int) ∧ c' ≤ 1 ∧ r < B32 := by
  refine ⟨u + v, cn + (u + v), (cn + (u + v)) % 4294967296, (cn + (u + v)) / 4294967296, ?_, wraps_u64 _ (by omega) (by omega), wraps_u64 _ (by omega) (by omega), ?_, ?_, by omega, by omega, by omega, ?_⟩
  · show cn + u + v = _ + _ * 4294967296; omega
  · rw [wraps_u64 _ (by omega) (by omega)]; omega
  · rw [wraps_u64 _ (by omega) (by omega)]; omega
  · show _ < 4294967296; omega
theorem idx_nums {a b n lu z p : Nat} (hp : p = a + b) (ha : a < n) (hl : ((b + n : Nat) : Int) ≤ 100000) (hlu : lu = b + n + 1 + z) : IntKind.i64.wrap ((a : Int) + (b : Int)) = (p : Int) ∧ wrap64 ((a : Int) + (b : Int)) = (p : Int) ∧ (p : Int) < (lu : Int) ∧ (a : Int) < (n : Int) := by
  have h1 : IntKind.i64.wrap ((a : Int) + (b : Int)) = (p : Int) := by rw [IntKind.wrap_i64]; omega
  exact ⟨h1, by rw [← h1, IntKind.wrap_i64]; unfold wrap64; omega, by omega, by omega⟩
theorem end_nums {x cn y j n lu z p : Nat} (hx : x < 4294967296) (hc : cn ≤ 1) (hy : y = (x + cn) % 4294967296) (hp : p = j + n) (hl : ((j + n : Nat) : Int) ≤ 100000) (hlu : lu = j + n + 1 + z) : (cn : Int) % 4294967296 = (cn : Int) ∧ IntKind.u32.wrap ((x : Int) + (cn : Int)) = (y : Int) ∧ ((x : Int) + (cn : Int)) % 4294967296 = (y : Int) ∧ IntKind.i64.wrap ((j : Int) + (n : Int)) = (p : Int) ∧ wrap64 ((j : Int) + (n : Int)) = (p : Int) ∧ (p : Int) < (lu : Int) := by
  have h1 : IntKind.i64.wrap ((j : Int) + (n : Int)) = (p : Int) := by rw [IntKind.wrap_i64]; omega
  exact ⟨by omega, by simp [IntKind.wrap, IntKind.bits, IntKind.signed]; omega, by omega, h1, by rw [← h1, IntKind.wrap_i64]; unfold wrap64; omega, by omega⟩
def beginsK (k : Nat) : Code → Bool
  | .region id _ _ => id == k
  | .seq a _ => beginsK k a
  | _ => false
def seqFromK (k : Nat) : Code → Option Code
  | .seq a b => if beginsK k a then some (.seq a b) else match seqFromK k a with
    | some c => some c
    | none => seqFromK k b
  | .loop c => seqFromK k c
  | .block _ c => seqFromK k c
  | .scope c => seqFromK k c
  | .cond _ a b => match seqFromK k a with
    | some c => some c
    | none => seqFromK k b
  | _ => none
noncomputable def kn42 : Code := (Tryz.f131.body.bind (seqFromK 42)).getD .skip
noncomputable def kn37 : Code := (Tryz.f131.body.bind (seqFromK 37)).getD .skip
noncomputable def kn28 : Code := (Tryz.f131.body.bind (seqFromK 28)).getD .skip
noncomputable def kn22 : Code := (Tryz.f131.body.bind (seqFromK 22)).getD .skip
/-- one block alone has changed -/
structure KOnly (g : Nat) (w w' : World) : Prop where
  b : Below g w w'
  o : ∀ k, k ≠ g → w'.heap[k]? = w.heap[k]?
  z : w'.heap.size = w.heap.size
theorem KOnly.refl (g : Nat) (w : World) : KOnly g w w := ⟨Below.refl _ _, fun _ _ => rfl, rfl⟩
theorem KOnly.drew {g : Nat} {w w' : World} (h : KOnly g w w') : KOnly g w w'.drew := ⟨⟨h.b.1, h.b.2, h.b.3, h.b.4, h.b.5⟩, h.o, h.z⟩
theorem KOnly.set {g : Nat} {w w' : World} (h : KOnly g w w') (i : Nat) (v : Value) : KOnly g w (w'.setCell ⟨g, i, none⟩ v) := ⟨h.b.setCell (p := ⟨g, i, none⟩) (Nat.le_refl _) v, fun k hk => by rw [← h.o k hk]; simp [World.setCell, Array.getElem?_modify, Ne.symm hk], by rw [← h.z]; simp⟩
theorem KOnly.trans {g : Nat} {w w' w'' : World} (h : KOnly g w w') (k : KOnly g w' w'') : KOnly g w w'' := ⟨h.b.trans k.b, fun q hq => (k.o q hq).trans (h.o q hq), k.z.trans h.z⟩
theorem WRow.only {g gv ov : Nat} {w w' : World} {vs : List Nat} (h : WRow w (some ⟨gv, ov, none⟩) vs) (k : KOnly g w w') (hg : gv ≠ g) : WRow w' (some ⟨gv, ov, none⟩) vs := by
  rcases h with h | ⟨g', off, e, hlt, hc⟩
  · exact .inl h
  · refine .inr ⟨g', off, e, by rw [k.z]; exact hlt, fun i x hi => ?_⟩
    have e2 : gv = g' := by simp at e; exact e.1
    have := hc i x hi
    unfold World.cell? at *
    rw [k.o g' (by rw [← e2]; exact hg)]
    exact this
theorem WRow.at {gv ov : Nat} {w : World} {vs : List Nat} (h : WRow w (some ⟨gv, ov, none⟩) vs) {i x : Nat} (hi : vs[i]? = some x) : w.cell? ⟨gv, ov + i, none⟩ = some (.int .u32 (x : Nat)) := by
  rcases h with h | ⟨g', off, e, hlt, hc⟩
  · rw [h] at hi; simp at hi
  · obtain ⟨rfl, rfl⟩ : gv = g' ∧ ov = off := by simpa using e
    exact hc i x hi
theorem row_at (lo R ws tl : List Nat) {i u : Nat} (hi : ws[i]? = some u) : lo ++ R ++ ws.drop i ++ tl = (lo ++ R) ++ u :: (ws.drop (i + 1) ++ tl) := by
  have hk : i < ws.length := (List.getElem?_eq_some_iff.1 hi).1
  rw [List.drop_eq_getElem_cons hk, (List.getElem?_eq_some_iff.1 hi).2]
  simp
theorem row_set (lo R ws tl : List Nat) {i u r : Nat} (p : Nat) (hp : p = (lo ++ R).length) : ((lo ++ R) ++ u :: (ws.drop (i + 1) ++ tl)).set p r = lo ++ (R ++ [r]) ++ ws.drop (i + 1) ++ tl := by
  rw [hp, List.set_append_right _ _ (Nat.le_refl _), Nat.sub_self]
  simp
theorem row_get (pre post : List Nat) (u p : Nat) (hp : p = pre.length) : (pre ++ u :: post)[p]? = some u := by
  rw [hp, List.getElem?_append_right (Nat.le_refl _), Nat.sub_self]; rfl
set_option maxHeartbeats 8000000 in
theorem knAdd (gu gv ov capv lu j n : Nat) (lo rs vs zs : List Nat) (x : Nat) (w : World) (Q : Exit → Act → World → Prop)
    (hU : VRow w gu (lo ++ rs ++ x :: zs)) (hV : WRow w (some ⟨gv, ov, none⟩) vs) (hg : gv ≠ gu) (hlo : lo.length = j) (hrs : rs.length = n) (hvs : vs.length = n) (okr : okV rs) (okv : okV vs) (hx : x < B32) (hjn : ((j + n : Nat) : Int) ≤ 100000) (hlu : lu = j + n + 1 + zs.length)
    (u0 u1 u2 u3 u4 u5 u6 u7 u8 u9 u10 u14 u15 u16 u17 u19 u20 u21 u23 u24 u25 u26 u27 u28 u29 u30 u31 u32 u33 u34 u35 u36 u37 u38 u39 u40 u41 u42 u43 u44 u45 u46 u47 u48 u49 u50 u51 u52 u53 u54 u55 u56 u57 u58 u59 u60 u61 u62 u63 u64 u65 u66 u67 u68 u69 u70 u71 u72 u73 u74 u75 u76 u77 u78 u79 u80 u81 u82 u83 u84 u85 u86 u87 u88 u89 u90 u91 u92 u93 u94 u95 u96 u97 u98 u99 u100 u101 u102 u103 u104 u105 u106 u107 u108 u109 u110 u111 u112 u113 u114 u115 u116 u117 u118 u119 u120 u121 u122 u123 u124 u125 u126 u127 u128 u129 u130 u131 u132 u133 u134 u135 u136 u137 u138 u139 u140 u141 u142 u143 u144 u145 u146 u147 u148 u149 u150 u151 u152 u153 u154 u155 u156 u157 u158 u159 u160 u161 u162 u163 u164 u165 u166 u167 u168 u169 u170 u171 u172 u173 u174 u175 u176 u177 u178 u179 u180 u181 u182 u183 u184 u185 u186 u187 u188 u189 u190 u191 u192 u193 u194 u195 u196 u197 u198 u199 u200 u201 u202 u203 u204 u205 u206 u207 u208 u209 u210 u211 u212 u213 u214 u215 u216 u217 u218 u219 u220 u221 u222 u223 u224 u225 u226 u227 u228 u229 u230 u231 u232 u233 u234 u235 u236 u237 u238 u239 u240 u241 u242 u243 u244 u245 u246 u247 u248 u249 u250 u251 u252 u253 u254 u255 u256 u257 u258 u259 u260 u261 u262 u263 u264 u265 u266 u267 u268 u269 u270 u271 u272 : Value)
    (hQ : ∀ (v22 v27 v223 v224 v225 v226 v227 v228 v229 v230 v231 v232 v233 v234 v235 v236 v237 v238 v239 v240 v241 v242 v243 v244 v245 v246 v247 v248 v249 v250 v251 v252 v253 v254 v255 v256 v257 v258 v259 v260 v261 : Value) (wy : World), (∃ (A : List Nat) (c2 : Nat), VRow wy gu (lo ++ A ++ (x + c2) % B32 :: zs) ∧ A.length = n ∧ okV A ∧ natV A + c2 * B32 ^ n = natV rs + natV vs ∧ KOnly gu w wy) → Q .normal ⟨List.toArray (u0 :: u1 :: u2 :: u3 :: u4 :: u5 :: u6 :: u7 :: u8 :: u9 :: u10 :: (.slice (some ⟨gv, ov, none⟩) n capv) :: (.slice (some ⟨gu, 0, none⟩) lu lu) :: (.int .i64 (n : Nat)) :: u14 :: u15 :: u16 :: u17 :: (.int .i64 (j : Nat)) :: u19 :: u20 :: u21 :: v22 :: u23 :: u24 :: u25 :: u26 :: v27 :: u28 :: u29 :: u30 :: u31 :: u32 :: u33 :: u34 :: u35 :: u36 :: u37 :: u38 :: u39 :: u40 :: u41 :: u42 :: u43 :: u44 :: u45 :: u46 :: u47 :: u48 :: u49 :: u50 :: u51 :: u52 :: u53 :: u54 :: u55 :: u56 :: u57 :: u58 :: u59 :: u60 :: u61 :: u62 :: u63 :: u64 :: u65 :: u66 :: u67 :: u68 :: u69 :: u70 :: u71 :: u72 :: u73 :: u74 :: u75 :: u76 :: u77 :: u78 :: u79 :: u80 :: u81 :: u82 :: u83 :: u84 :: u85 :: u86 :: u87 :: u88 :: u89 :: u90 :: u91 :: u92 :: u93 :: u94 :: u95 :: u96 :: u97 :: u98 :: u99 :: u100 :: u101 :: u102 :: u103 :: u104 :: u105 :: u106 :: u107 :: u108 :: u109 :: u110 :: u111 :: u112 :: u113 :: u114 :: u115 :: u116 :: u117 :: u118 :: u119 :: u120 :: u121 :: u122 :: u123 :: u124 :: u125 :: u126 :: u127 :: u128 :: u129 :: u130 :: u131 :: u132 :: u133 :: u134 :: u135 :: u136 :: u137 :: u138 :: u139 :: u140 :: u141 :: u142 :: u143 :: u144 :: u145 :: u146 :: u147 :: u148 :: u149 :: u150 :: u151 :: u152 :: u153 :: u154 :: u155 :: u156 :: u157 :: u158 :: u159 :: u160 :: u161 :: u162 :: u163 :: u164 :: u165 :: u166 :: u167 :: u168 :: u169 :: u170 :: u171 :: u172 :: u173 :: u174 :: u175 :: u176 :: u177 :: u178 :: u179 :: u180 :: u181 :: u182 :: u183 :: u184 :: u185 :: u186 :: u187 :: u188 :: u189 :: u190 :: u191 :: u192 :: u193 :: u194 :: u195 :: u196 :: u197 :: u198 :: u199 :: u200 :: u201 :: u202 :: u203 :: u204 :: u205 :: u206 :: u207 :: u208 :: u209 :: u210 :: u211 :: u212 :: u213 :: u214 :: u215 :: u216 :: u217 :: u218 :: u219 :: u220 :: u221 :: u222 :: v223 :: v224 :: v225 :: v226 :: v227 :: v228 :: v229 :: v230 :: v231 :: v232 :: v233 :: v234 :: v235 :: v236 :: v237 :: v238 :: v239 :: v240 :: v241 :: v242 :: v243 :: v244 :: v245 :: v246 :: v247 :: v248 :: v249 :: v250 :: v251 :: v252 :: v253 :: v254 :: v255 :: v256 :: v257 :: v258 :: v259 :: v260 :: v261 :: u262 :: u263 :: u264 :: u265 :: u266 :: u267 :: u268 :: u269 :: u270 :: u271 :: u272 :: []), []⟩ wy) :
    Code.wp Tryz.prog kn42 Q ⟨List.toArray (u0 :: u1 :: u2 :: u3 :: u4 :: u5 :: u6 :: u7 :: u8 :: u9 :: u10 :: (.slice (some ⟨gv, ov, none⟩) n capv) :: (.slice (some ⟨gu, 0, none⟩) lu lu) :: (.int .i64 (n : Nat)) :: u14 :: u15 :: u16 :: u17 :: (.int .i64 (j : Nat)) :: u19 :: u20 :: u21 :: (.int .u64 0) :: u23 :: u24 :: u25 :: u26 :: u27 :: u28 :: u29 :: u30 :: u31 :: u32 :: u33 :: u34 :: u35 :: u36 :: u37 :: u38 :: u39 :: u40 :: u41 :: u42 :: u43 :: u44 :: u45 :: u46 :: u47 :: u48 :: u49 :: u50 :: u51 :: u52 :: u53 :: u54 :: u55 :: u56 :: u57 :: u58 :: u59 :: u60 :: u61 :: u62 :: u63 :: u64 :: u65 :: u66 :: u67 :: u68 :: u69 :: u70 :: u71 :: u72 :: u73 :: u74 :: u75 :: u76 :: u77 :: u78 :: u79 :: u80 :: u81 :: u82 :: u83 :: u84 :: u85 :: u86 :: u87 :: u88 :: u89 :: u90 :: u91 :: u92 :: u93 :: u94 :: u95 :: u96 :: u97 :: u98 :: u99 :: u100 :: u101 :: u102 :: u103 :: u104 :: u105 :: u106 :: u107 :: u108 :: u109 :: u110 :: u111 :: u112 :: u113 :: u114 :: u115 :: u116 :: u117 :: u118 :: u119 :: u120 :: u121 :: u122 :: u123 :: u124 :: u125 :: u126 :: u127 :: u128 :: u129 :: u130 :: u131 :: u132 :: u133 :: u134 :: u135 :: u136 :: u137 :: u138 :: u139 :: u140 :: u141 :: u142 :: u143 :: u144 :: u145 :: u146 :: u147 :: u148 :: u149 :: u150 :: u151 :: u152 :: u153 :: u154 :: u155 :: u156 :: u157 :: u158 :: u159 :: u160 :: u161 :: u162 :: u163 :: u164 :: u165 :: u166 :: u167 :: u168 :: u169 :: u170 :: u171 :: u172 :: u173 :: u174 :: u175 :: u176 :: u177 :: u178 :: u179 :: u180 :: u181 :: u182 :: u183 :: u184 :: u185 :: u186 :: u187 :: u188 :: u189 :: u190 :: u191 :: u192 :: u193 :: u194 :: u195 :: u196 :: u197 :: u198 :: u199 :: u200 :: u201 :: u202 :: u203 :: u204 :: u205 :: u206 :: u207 :: u208 :: u209 :: u210 :: u211 :: u212 :: u213 :: u214 :: u215 :: u216 :: u217 :: u218 :: u219 :: u220 :: u221 :: u222 :: u223 :: u224 :: u225 :: u226 :: u227 :: u228 :: u229 :: u230 :: u231 :: u232 :: u233 :: u234 :: u235 :: u236 :: u237 :: u238 :: u239 :: u240 :: u241 :: u242 :: u243 :: u244 :: u245 :: u246 :: u247 :: u248 :: u249 :: u250 :: u251 :: u252 :: u253 :: u254 :: u255 :: u256 :: u257 :: u258 :: u259 :: u260 :: u261 :: u262 :: u263 :: u264 :: u265 :: u266 :: u267 :: u268 :: u269 :: u270 :: u271 :: u272 :: []), []⟩ w := by
  have HQQ := hide hQ; have HU := hide hU; have HV := hide hV; have HLU := hide hlu
  clear hQ hU hV hlu
  conv => arg 2; whnf
  go_wp2
  go_loopw [22, 27] (fun c i wr => ∃ (k cn : Nat) (A : List Nat), k ≤ n ∧ i = .int .i64 k ∧ c = .int .u64 cn ∧ cn ≤ 1 ∧ VRow wr gu (lo ++ A ++ rs.drop k ++ x :: zs) ∧ A.length = k ∧ okV A ∧ Hid (natV A + cn * B32 ^ k = natV (rs.take k) + natV (vs.take k)) ∧ KOnly gu w wr) (fun _ i _ => n - (intOf i).toNat)
  case atStart => exact ⟨0, 0, [], Nat.zero_le _, rfl, rfl, by decide, by simpa using unhide HU, rfl, okV_nil, hide (by simp [natV]), KOnly.refl _ _⟩
  case round =>
    clear HU
    obtain ⟨k, cn, A, hk, rfl, rfl, hcn, hU, hAl, hAok, hAv, hKO⟩ := hrel
    by_cases hlt : k < n
    · obtain ⟨u, hu⟩ : ∃ u, rs[k]? = some u := ⟨_, List.getElem?_eq_getElem (by omega)⟩
      obtain ⟨v, hv⟩ : ∃ v, vs[k]? = some v := ⟨_, List.getElem?_eq_getElem (by omega)⟩
      have hub : u < 4294967296 := okV_get okr hu
      have hvb : v < 4294967296 := okV_get okv hv
      have d1 := ((unhide HV).only hKO hg).at hv
      obtain ⟨p, hp⟩ : ∃ p, p = k + j := ⟨_, rfl⟩
      have hpl : p = (lo ++ A).length := by rw [List.length_append, hlo, hAl, hp, Nat.add_comm]
      rw [row_at lo A rs _ hu] at hU
      have d0 := hU.cell p u (row_get _ _ _ _ hpl)
      have f0 := hU.frozen p
      obtain ⟨t1, t, r, c', hsm, w1', w2', w3', w4', w5', w6', hc1, hrb⟩ := add_nums (u := u) (v := v) (cn := cn) hub hvb hcn
      obtain ⟨w7', w8', hpu, hkn⟩ := idx_nums (a := k) (b := j) (n := n) (lu := lu) (z := zs.length) hp hlt hjn (unhide HLU)
      have hsum := add_stepK (unhide hAv) hAl hu hv hsm
      have HV2 : Hid (VRow (wr.drew.setCell ⟨gu, p, none⟩ (.int .u32 (r : Nat))) gu (lo ++ (A ++ [r]) ++ rs.drop (k + 1) ++ x :: zs)) := hide (by
        have h9 : VRow wr.drew gu (lo ++ A ++ u :: (rs.drop (k + 1) ++ x :: zs)) := hU
        have := h9.set p r
        rwa [row_set lo A rs _ p hpl] at this)
      have HKO : Hid (KOnly gu w (wr.drew.setCell ⟨gu, p, none⟩ (.int .u32 (r : Nat)))) := hide (hKO.drew.set p _)
      have HSUM := hide hsum; have HAO := hide (okV_snoc hAok hrb)
      clear hu hv hub hvb hU hKO hpl hp hsm hsum hrb hAv hAok HV okr okv
      go_upto_region 45 with fail
      go_cut [22] from 223 to 251 (fun c wx => c = .int .u64 (t : Nat) ∧ wx = wr.drew)
      case first =>
        refine wp_drawnV (by kernel_rfl) 273 (by rfl) (by kernel_rfl) (by kernel_rfl) (vals [.int .u64 (cn : Nat), .slice (some ⟨gu, 0, none⟩) lu lu, .int .i64 (k : Nat), .int .i64 (j : Nat), .int .i64 (p : Nat), .pointer (some ⟨gu, p, none⟩), .int .u32 (u : Nat), .int .u64 (u : Nat), .slice (some ⟨gv, ov, none⟩) n capv, .int .i64 (k : Nat), .pointer (some ⟨gv, ov + k, none⟩), .int .u32 (v : Nat), .int .u64 (v : Nat), .int .u64 (t1 : Nat), .int .u64 (t : Nat), .int .u64 (t : Nat)]) ?_ ?_
        · refine ⟨?_, ?_, ?_, ?_, ?_, ?_, ?_, ?_, ?_, ?_, ?_, ?_, ?_, ?_, ?_, ?_, trivial⟩
          · intro ac hpre hoff hbef
            have e22 : ac.eval (.tmp 22) = .int .u64 (cn : Nat) := (hbef 15 (by kernel_rfl)).trans rfl
            have g22 := evT e22
            refine ⟨.int .u64 (cn : Nat), ?_, rfl⟩
            clear hpre hoff hbef
            go_simp
          · intro ac hpre hoff hbef
            have e12 : ac.eval (.tmp 12) = .slice (some ⟨gu, 0, none⟩) lu lu := (hoff 12 (by kernel_rfl)).trans rfl
            have g12 := evT e12
            refine ⟨.slice (some ⟨gu, 0, none⟩) lu lu, ?_, rfl⟩
            clear hpre hoff hbef
            go_simp
          · intro ac hpre hoff hbef
            have e27 : ac.eval (.tmp 27) = .int .i64 (k : Nat) := (hoff 27 (by kernel_rfl)).trans rfl
            have g27 := evT e27
            refine ⟨.int .i64 (k : Nat), ?_, rfl⟩
            clear hpre hoff hbef
            go_simp
          · intro ac hpre hoff hbef
            have e18 : ac.eval (.tmp 18) = .int .i64 (j : Nat) := (hoff 18 (by kernel_rfl)).trans rfl
            have g18 := evT e18
            refine ⟨.int .i64 (j : Nat), ?_, rfl⟩
            clear hpre hoff hbef
            go_simp
          · intro ac hpre hoff hbef
            have e230 : ac.eval (.tmp 230) = .int .i64 (k : Nat) := hpre 2 (by kernel_rfl)
            have g230 := evT e230
            have e231 : ac.eval (.tmp 231) = .int .i64 (j : Nat) := hpre 3 (by kernel_rfl)
            have g231 := evT e231
            refine ⟨.int .i64 (p : Nat), ?_, rfl⟩
            clear hpre hoff hbef
            go_simp
          · intro ac hpre hoff hbef
            have e229 : ac.eval (.tmp 229) = .slice (some ⟨gu, 0, none⟩) lu lu := hpre 1 (by kernel_rfl)
            have g229 := evT e229
            have e232 : ac.eval (.tmp 232) = .int .i64 (p : Nat) := hpre 4 (by kernel_rfl)
            have g232 := evT e232
            refine ⟨.pointer (some ⟨gu, p, none⟩), ?_, rfl⟩
            clear hpre hoff hbef
            go_simp
          · intro ac hpre hoff hbef
            have e233 : ac.eval (.tmp 233) = .pointer (some ⟨gu, p, none⟩) := hpre 5 (by kernel_rfl)
            have g233 := evT e233
            refine ⟨.int .u32 (u : Nat), ?_, rfl⟩
            clear hpre hoff hbef
            go_simp
          · intro ac hpre hoff hbef
            have e234 : ac.eval (.tmp 234) = .int .u32 (u : Nat) := hpre 6 (by kernel_rfl)
            have g234 := evT e234
            refine ⟨.int .u64 (u : Nat), ?_, rfl⟩
            clear hpre hoff hbef
            go_simp
          · intro ac hpre hoff hbef
            have e11 : ac.eval (.tmp 11) = .slice (some ⟨gv, ov, none⟩) n capv := (hoff 11 (by kernel_rfl)).trans rfl
            have g11 := evT e11
            refine ⟨.slice (some ⟨gv, ov, none⟩) n capv, ?_, rfl⟩
            clear hpre hoff hbef
            go_simp
          · intro ac hpre hoff hbef
            have e27 : ac.eval (.tmp 27) = .int .i64 (k : Nat) := (hoff 27 (by kernel_rfl)).trans rfl
            have g27 := evT e27
            refine ⟨.int .i64 (k : Nat), ?_, rfl⟩
            clear hpre hoff hbef
            go_simp
          · intro ac hpre hoff hbef
            have e236 : ac.eval (.tmp 236) = .slice (some ⟨gv, ov, none⟩) n capv := hpre 8 (by kernel_rfl)
            have g236 := evT e236
            have e237 : ac.eval (.tmp 237) = .int .i64 (k : Nat) := hpre 9 (by kernel_rfl)
            have g237 := evT e237
            refine ⟨.pointer (some ⟨gv, ov + k, none⟩), ?_, rfl⟩
            clear hpre hoff hbef
            go_simp
          · intro ac hpre hoff hbef
            have e238 : ac.eval (.tmp 238) = .pointer (some ⟨gv, ov + k, none⟩) := hpre 10 (by kernel_rfl)
            have g238 := evT e238
            refine ⟨.int .u32 (v : Nat), ?_, rfl⟩
            clear hpre hoff hbef
            go_simp
          · intro ac hpre hoff hbef
            have e239 : ac.eval (.tmp 239) = .int .u32 (v : Nat) := hpre 11 (by kernel_rfl)
            have g239 := evT e239
            refine ⟨.int .u64 (v : Nat), ?_, rfl⟩
            clear hpre hoff hbef
            go_simp
          · intro ac hpre hoff hbef
            have e235 : ac.eval (.tmp 235) = .int .u64 (u : Nat) := hpre 7 (by kernel_rfl)
            have g235 := evT e235
            have e240 : ac.eval (.tmp 240) = .int .u64 (v : Nat) := hpre 12 (by kernel_rfl)
            have g240 := evT e240
            refine ⟨.int .u64 (t1 : Nat), ?_, rfl⟩
            clear hpre hoff hbef
            go_simp
          · intro ac hpre hoff hbef
            have e228 : ac.eval (.tmp 228) = .int .u64 (cn : Nat) := hpre 0 (by kernel_rfl)
            have g228 := evT e228
            have e241 : ac.eval (.tmp 241) = .int .u64 (t1 : Nat) := hpre 13 (by kernel_rfl)
            have g241 := evT e241
            refine ⟨.int .u64 (t : Nat), ?_, rfl⟩
            clear hpre hoff hbef
            go_simp
          · intro ac hpre hoff hbef
            have e242 : ac.eval (.tmp 242) = .int .u64 (t : Nat) := hpre 14 (by kernel_rfl)
            have g242 := evT e242
            refine ⟨.int .u64 (t : Nat), ?_, rfl⟩
            clear hpre hoff hbef
            go_simp
        · intro ac hdf hsz hoff hall
          have h22 : ac.tmps.getD 22 undef = .int .u64 (t : Nat) := hall 15 (by decide)
          have hmix := mix_eq ([false, false, false, false, false, false, false, false, false, false, false, false, false, false, false, false, false, false, false, false, false, false, true, false, false, false, false, false, false, false, false, false, false, false, false, false, false, false, false, false, false, false, false, false, false, false, false, false, false, false, false, false, false, false, false, false, false, false, false, false, false, false, false, false, false, false, false, false, false, false, false, false, false, false, false, false, false, false, false, false, false, false, false, false, false, false, false, false, false, false, false, false, false, false, false, false, false, false, false, false, false, false, false, false, false, false, false, false, false, false, false, false, false, false, false, false, false, false, false, false, false, false, false, false, false, false, false, false, false, false, false, false, false, false, false, false, false, false, false, false, false, false, false, false, false, false, false, false, false, false, false, false, false, false, false, false, false, false, false, false, false, false, false, false, false, false, false, false, false, false, false, false, false, false, false, false, false, false, false, false, false, false, false, false, false, false, false, false, false, false, false, false, false, false, false, false, false, false, false, false, false, false, false, false, false, false, false, false, false, false, false, false, false, false, false, false, false, false, false, false, false, false, false, false, false, false, false, false, true, true, true, true, true, true, true, true, true, true, true, true, true, true, true, false, false, false, false, false, false, false, false, false, false, false, false, false, false, false, false, false, false, false, false, false, false, false, false, false, false, false, false, false, false]) rfl rfl hsz hdf (by kernel_rfl) hoff
          clear hoff hall hsz hdf
          simp only [mixL, Nat.reduceAdd, h22] at hmix
          rw [hmix]
          clear hmix
          go_wp2_with fail
          go_meet
          exact ⟨rfl, rfl⟩
      case rest =>
      obtain ⟨rfl, rfl⟩ := hcut
      go_wp2
      go_roundw
      case rel => exact ⟨k + 1, c', A ++ [r], by omega, by go_num, rfl, hc1, unhide HV2, by simp [hAl], unhide HAO, HSUM, unhide HKO⟩
      case measure => simp [intOf]; omega
    · have hkn : k = n := by omega
      have hkd : ¬ (k : Int) < (n : Int) := by omega
      have hA9 : natV A + cn * B32 ^ n = natV rs + natV vs := by
        have := unhide hAv
        rw [hkn, List.take_of_length_le (by omega), List.take_of_length_le (by omega)] at this
        exact this
      have hrd : rs.drop k = [] := List.drop_of_length_le (by omega)
      rw [hrd, List.append_nil] at hU
      obtain ⟨p, hp⟩ : ∃ p, p = j + n := ⟨_, rfl⟩
      have hpl : p = (lo ++ A).length := by rw [List.length_append, hlo, hAl, hp, hkn]
      have d0 := hU.cell p x (row_get _ _ _ _ hpl)
      have f0 := hU.frozen p
      obtain ⟨y, hy⟩ : ∃ y, y = (x + cn) % B32 := ⟨_, rfl⟩
      have hxb : x < 4294967296 := hx
      have hy' : y = (x + cn) % 4294967296 := hy
      obtain ⟨w1', w2', w2'', w7', w8', hpu⟩ := end_nums (x := x) (cn := cn) hxb hcn hy' hp hjn (unhide HLU)
      have HRES : Hid (∃ (A : List Nat) (c2 : Nat), VRow (wr.setCell ⟨gu, p, none⟩ (.int .u32 (y : Nat))) gu (lo ++ A ++ (x + c2) % B32 :: zs) ∧ A.length = n ∧ okV A ∧ natV A + c2 * B32 ^ n = natV rs + natV vs ∧ KOnly gu w (wr.setCell ⟨gu, p, none⟩ (.int .u32 (y : Nat)))) := hide ⟨A, cn, by
        have := hU.set p y
        rw [hpl, List.set_append_right _ _ (Nat.le_refl _), Nat.sub_self] at this
        rw [← hy, hpl]; exact this, by omega, hAok, hA9, hKO.set p _⟩
      clear hA9 hrd hU hpl hp hy hy' hxb hAok hAv hKO HV okr okv hkn hcn
      go_wp2
      refine unhide HQQ _ _ _ _ _ _ _ _ _ _ _ _ _ _ _ _ _ _ _ _ _ _ _ _ _ _ _ _ _ _ _ _ _ _ _ _ _ _ _ _ _ _ ?_
      exact unhide HRES
end Go.Proofs.YtckkhpegimkefaaGreatDoor
