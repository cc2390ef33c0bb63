/- A region that draws its order of evaluation, by an invariant of all that has come up; and with classes of values that are apart. -/
import Derived.Test.YtajkbkljonejnaaGreatDoorM04
namespace Go.Proofs.YtajkbkljonejnaaGreatDoor
set_option linter.unusedVariables false
def valD (ops : Array Oper) (a : Act) (k : Nat) : Value := (dstOf ops k).elim undef (fun d => a.eval (.tmp d))
def updD (f : Nat → Value) (i : Nat) (v : Value) (k : Nat) : Value := if k = i then v else f k
def addD (S : Nat → Bool) (i k : Nat) : Bool := if k = i then true else S k
def StepJ (P : Program) (ops : Array Oper) (J : (Nat → Bool) → (Nat → Value) → World → Prop) (a0 : Act) (i : Nat) (o : Oper) : Prop :=
  ∀ (S : Nat → Bool) (a : Act) (w : World), J S (valD ops a) w → S i = false → (∀ j, waits ops i j = true → S j = true) → (∀ t, offD ops t = true → a.eval (.tmp t) = a0.eval (.tmp t)) →
    Does P o a w fun v w' => J (addD S i) (updD (valD ops a) i (o.dst.elim undef (fun _ => v))) w'
def StepsJ (P : Program) (ops : Array Oper) (J : (Nat → Bool) → (Nat → Value) → World → Prop) (a0 : Act) : Nat → List Oper → Prop
  | _, [] => True
  | i, o :: l => StepJ P ops J a0 i o ∧ StepsJ P ops J a0 (i + 1) l
theorem StepsJ.at {P : Program} {ops : Array Oper} {J : (Nat → Bool) → (Nat → Value) → World → Prop} {a0 : Act} : ∀ {l : List Oper} {i : Nat}, StepsJ P ops J a0 i l → ∀ {k : Nat} {o : Oper}, l[k]? = some o → StepJ P ops J a0 (i + k) o
  | [], _, _, k, o, h => by cases h
  | x :: l, i, hs, 0, o, h => by cases h; exact hs.1
  | x :: l, i, hs, k + 1, o, h => by
    have := StepsJ.at hs.2 (k := k) (o := o) (by simpa using h)
    rw [Nat.add_assoc, Nat.add_comm 1 k] at this
    exact this
theorem wp_drawnJ {P : Program} {ops : Array Oper} {Q : Exit → Act → World → Prop} {id : Nat} {a0 : Act} {w0 : World} (hm : P.follows .mixedOrders = true)
    (N : Nat) (hN : a0.tmps.size = N) (ht : inOrder ops = true) (hd : apartD ops N = true) (J : (Nat → Bool) → (Nat → Value) → World → Prop) (hJ : J (fun _ => false) (valD ops a0) w0.drew)
    (hstep : StepsJ P ops J a0 0 ops.toList)
    (hend : ∀ a w S, a.defers = a0.defers → a.tmps.size = N → (∀ t, offD ops t = true → a.tmps[t]? = a0.tmps[t]?) → (∀ k, k < ops.size → S k = true) → J S (valD ops a) w → Q .normal a w) :
    (Code.region id ops true).wp P Q a0 w0 := by
  refine wp_region_any hm ?_
  refine wpAny_inv (fun listed a w => listed.size = ops.size ∧ a.tmps.size = N ∧ a.defers = a0.defers ∧ (∀ t, offD ops t = true → a.tmps[t]? = a0.tmps[t]?) ∧ J (fun k => listed.getD k false) (valD ops a) w) ?_ ?_ _ _ _ _ ?_ ?_
  · rintro listed a w i ⟨hs, hn, hf, hoff, hj⟩ hr
    obtain ⟨h0, o, ho, hpre⟩ := mem_ready.1 hr
    have hi : i < ops.size := by
      rcases Nat.lt_or_ge i ops.size with h' | h'
      · exact h'
      · rw [Array.getElem?_eq_none h'] at ho; cases ho
    have hot : ops.toList[i]? = some o := by rw [Array.getElem?_toList]; exact ho
    have hst := hstep.at hot
    rw [Nat.zero_add] at hst
    have hgd : o.guard = none := by
      have h1 := List.all_eq_true.1 ht i (List.mem_range.2 hi)
      rw [ho] at h1
      simp only [Option.map_some, Option.getD_some, Bool.and_eq_true] at h1
      simpa using h1.1
    have hdst : ∀ d, o.dst = some d → d < N ∧ ∀ j, j < ops.size → j ≠ i → dstOf ops j ≠ some d := by
      intro d hd'
      have h1 := List.all_eq_true.1 hd i (List.mem_range.2 hi)
      have e : dstOf ops i = some d := by unfold dstOf; rw [ho]; exact hd'
      rw [e] at h1
      simp only [Bool.and_eq_true, decide_eq_true_eq] at h1
      refine ⟨h1.1, fun j hj hji => ?_⟩
      have h2 := List.all_eq_true.1 h1.2 j (List.mem_range.2 hj)
      simpa [hji] using h2
    have hlt : ∀ d', o.dst = some d' → d' < a.tmps.size := fun d' h => by rw [hn]; exact (hdst d' h).1
    refine wpOp_step ho (fun K' hK => ?_)
    have hw : Region.wanted o (yielded ops a.tmps) = true := by unfold Region.wanted; rw [hgd]
    rw [if_pos hw]
    have hoffe : ∀ t, offD ops t = true → a.eval (.tmp t) = a0.eval (.tmp t) := fun t h => by
      show a.tmps.getD t undef = a0.tmps.getD t undef
      simp [hoff t h]
    have hwl : ∀ j, waits ops i j = true → listed.getD j false = true := fun j hj => by
      unfold waits at hj
      rw [ho] at hj
      simp only [Option.map_some, Option.getD_some, Array.any_eq_true', Bool.and_eq_true, beq_iff_eq] at hj
      obtain ⟨e, he, hb, rfl⟩ := hj
      exact hpre e he hb
    have hil : i < listed.size := by omega
    have hni : listed.getD i false = false := by
      simp [hil] at h0 ⊢; exact h0
    refine (hst _ a w hj hni hwl hoffe).wp fun v w' hv => hK _ _ ?_
    refine ⟨by simp [hs], by rw [put_sizeD]; exact hn, by rw [put_defersD]; exact hf, fun t h => ?_, ?_⟩
    · rw [put_atD]
      · exact hoff t h
      · intro e
        have h1 := (Array.all_eq_true'.1 h) o (Array.mem_of_getElem? ho)
        simp [e] at h1
    · have e1 : (fun k => (listed.setIfInBounds i true).getD k false) = addD (fun k => listed.getD k false) i := by
        funext k
        unfold addD
        by_cases hki : k = i
        · subst hki; rw [if_pos rfl]; simp [hil]
        · rw [if_neg hki, getD_set_ne false (Ne.symm hki)]
      have e2 : valD ops (a.put o.dst v) = updD (valD ops a) i (o.dst.elim undef (fun _ => v)) := by
        funext k
        unfold updD valD
        by_cases hki : k = i
        · subst hki
          rw [if_pos rfl]
          unfold dstOf
          rw [ho]
          show (o.dst.elim undef _) = _
          cases hdd : o.dst with
          | none => rfl
          | some d => show ((a.put (some d) v).eval (.tmp d)) = v; rw [put_evalD a (some d) v d (by intro d' e; exact hlt d' (hdd.trans e)), if_pos rfl]
        · rw [if_neg hki]
          cases hdk : dstOf ops k with
          | none => rfl
          | some d =>
            show (a.put o.dst v).eval (.tmp d) = a.eval (.tmp d)
            rw [put_evalD a o.dst v d hlt, if_neg]
            intro e
            have hks : k < ops.size := by
              rcases Nat.lt_or_ge k ops.size with h' | h'
              · exact h'
              · unfold dstOf at hdk; rw [Array.getElem?_eq_none h'] at hdk; cases hdk
            exact (hdst d e).2 k hks hki hdk
      rw [e1, e2]
      exact hv
  · rintro listed a w ⟨hs, hn, hf, hoff, hj⟩ hr
    exact hend a w _ hf hn hoff (fun k hk => all_listedD hs ht hr _ k (Nat.lt_succ_self _) hk) hj
  · unfold leftN
    exact Nat.le_trans List.countP_le_length (by simp)
  · refine ⟨by simp, hN, rfl, fun _ _ => rfl, ?_⟩
    have e : (fun k => (Array.replicate ops.size false).getD k false) = fun _ => false := by
      funext k
      rcases Nat.lt_or_ge k ops.size with h' | h' <;> simp [h']
    first
    | (rw [e]; exact hJ)
    | (have e2 : (fun k => ((ops.map (fun _ => false)).getD k false)) = fun _ => false := by
         funext k
         rcases Nat.lt_or_ge k ops.size with h' | h' <;> simp [h']
       rw [e2]; exact hJ)
structure PInv (G : World → Prop) (Φ : Nat → Value → World → Prop) (cls : Nat → Nat) (S : Nat → Bool) (f : Nat → Value) (w : World) : Prop where
  g : G w
  h : ∀ k, S k = true → Φ k (f k) w
  d : ∀ k j, S k = true → S j = true → cls k ≠ 0 → cls j ≠ 0 → cls k ≠ cls j → f k ≠ f j
def StepP (P : Program) (ops : Array Oper) (G : World → Prop) (Φ : Nat → Value → World → Prop) (cls : Nat → Nat) (a0 : Act) (i : Nat) (o : Oper) : Prop :=
  ∀ (a : Act) (w : World), G w → (∀ j, waits ops i j = true → Φ j (valD ops a j) w) → (∀ j k, waits ops i j = true → waits ops i k = true → cls j ≠ 0 → cls k ≠ 0 → cls j ≠ cls k → valD ops a j ≠ valD ops a k) → (∀ t, offD ops t = true → a.eval (.tmp t) = a0.eval (.tmp t)) →
    Does P o a w fun v w' => G w' ∧ Φ i (o.dst.elim undef (fun _ => v)) w' ∧
      (cls i = 0 ∨ (∀ k y, Φ k y w → cls k ≠ 0 → o.dst.elim undef (fun _ => v) ≠ y) ∨ (∃ j, waits ops i j = true ∧ cls j = cls i ∧ o.dst.elim undef (fun _ => v) = valD ops a j)) ∧
      (∀ k y, (cls i ≠ 0 → cls k ≠ 0 → cls k ≠ cls i → y ≠ o.dst.elim undef (fun _ => v)) → Φ k y w → Φ k y w')
def StepsP (P : Program) (ops : Array Oper) (G : World → Prop) (Φ : Nat → Value → World → Prop) (cls : Nat → Nat) (a0 : Act) : Nat → List Oper → Prop
  | _, [] => True
  | i, o :: l => StepP P ops G Φ cls a0 i o ∧ StepsP P ops G Φ cls a0 (i + 1) l
theorem Does.mono {P : Program} {o : Oper} {a : Act} {w : World} {R R' : Value → World → Prop} (h : Does P o a w R) (hk : ∀ v w', R v w' → R' v w') : Does P o a w R' := by
  cases h with
  | value v w' h hr => exact .value v w' h (hk _ _ hr)
  | skip w' h hr => exact .skip w' h (hk _ _ hr)
  | call f args h hr => exact .call f args h (hr.mono fun e w' ⟨v, he, hv⟩ => ⟨v, he, hk _ _ hv⟩)
theorem StepP.J {P : Program} {ops : Array Oper} {G : World → Prop} {Φ : Nat → Value → World → Prop} {cls : Nat → Nat} {a0 : Act} {i : Nat} {o : Oper} (h : StepP P ops G Φ cls a0 i o) : StepJ P ops (PInv G Φ cls) a0 i o := by
  intro S a w hj hi hwt hoff
  refine (h a w hj.g (fun j hw => hj.h j (hwt j hw)) (fun j k h1 h2 => hj.d j k (hwt j h1) (hwt k h2)) hoff).mono fun v w' hv => ?_
  obtain ⟨hg, hφ, hc, hk⟩ := hv
  have hv0 : ∀ k, S k = true → cls k ≠ 0 → cls i ≠ 0 → cls k ≠ cls i → valD ops a k ≠ o.dst.elim undef (fun _ => v) := by
    intro k hs c1 c2 c3
    rcases hc with h0 | h0 | ⟨j, hw, hcj, he⟩
    · exact absurd h0 c2
    · exact Ne.symm (h0 k _ (hj.h k hs) c1)
    · rw [he]
      exact hj.d k j hs (hwt j hw) c1 (by rw [hcj]; exact c2) (by rw [hcj]; exact c3)
  refine ⟨hg, fun k hs => ?_, fun k j hs1 hs2 c1 c2 c3 => ?_⟩
  · unfold updD
    unfold addD at hs
    by_cases hki : k = i
    · subst hki; rw [if_pos rfl]; exact hφ
    · rw [if_neg hki] at hs ⊢
      exact hk k _ (fun c1 c2 c3 => hv0 k hs c2 c1 c3) (hj.h k hs)
  · unfold updD
    unfold addD at hs1 hs2
    by_cases hki : k = i
    · subst hki
      rw [if_pos rfl]
      by_cases hji : j = k
      · subst hji; exact absurd rfl c3
      · rw [if_neg hji] at hs2 ⊢
        exact Ne.symm (hv0 j hs2 c2 c1 (Ne.symm c3))
    · rw [if_neg hki] at hs1 ⊢
      by_cases hji : j = i
      · subst hji
        rw [if_pos rfl]
        exact hv0 k hs1 c1 c2 c3
      · rw [if_neg hji] at hs2 ⊢
        exact hj.d k j hs1 hs2 c1 c2 c3
theorem StepsP.J {P : Program} {ops : Array Oper} {G : World → Prop} {Φ : Nat → Value → World → Prop} {cls : Nat → Nat} {a0 : Act} : ∀ {l : List Oper} {i : Nat}, StepsP P ops G Φ cls a0 i l → StepsJ P ops (PInv G Φ cls) a0 i l
  | [], _, _ => trivial
  | _ :: _, _, h => ⟨h.1.J, h.2.J⟩
theorem does_call3 {P : Program} {o : Oper} {a : Act} {w : World} {R : Value → World → Prop} (f : FuncId) (x y z : Operand) (ts : Array TypeId)
    (ho : o.op = .call { callee := .value (.func f), args := #[x, y, z], argTypes := ts }) (v u t : Value) (hx : a.eval x = v) (hy : a.eval y = u) (hz : a.eval z = t) (hf : ∀ args w, (callFunc f args).run P w = .ok (.enter f args) w)
    {S : Ending → World → Prop} (hc : Calls P f #[v, u, t] w S) (hv : ∀ e w', S e w' → ∃ v, e = .returned v ∧ R v w') : Does P o a w R := by
  refine Does.call f #[v, u, t] ?_ (hc.mono hv)
  obtain ⟨dst, op, ty, pos, after, guard⟩ := o
  cases ho
  show (callFunc f (#[] ++ #[x, y, z].map a.eval ++ #[])).run P w = _
  have e : (#[] ++ #[x, y, z].map a.eval ++ #[]) = #[v, u, t] := by simp [hx, hy, hz]
  rw [e]; exact hf _ _
end Go.Proofs.YtajkbkljonejnaaGreatDoor
namespace Go.Proofs.YtajkbkljonejnaaGreatDoor
set_option linter.unusedVariables false
structure SInv (L : Nat) (V : Nat → Value) (w0 w1 : World) (S : Nat → Bool) (f : Nat → Value) (w : World) : Prop where
  v : ∀ k, k < L → S k = true → f k = V k
  o : S L = false → w = w0
  t : S L = true → w = w1 ∧ ∀ k, k < L → S k = true
theorem SInv.same {L : Nat} {V : Nat → Value} {w0 w1 w : World} {S : Nat → Bool} {f : Nat → Value} (h : SInv L V w0 w1 S f w) {i : Nat} (hi : i < L) (hs : S i = false) : S L = false ∧ w = w0 := by
  cases hl : S L with
  | false => exact ⟨rfl, h.o hl⟩
  | true => have := (h.t hl).2 i hi; rw [hs] at this; cases this
theorem SInv.val {L : Nat} {V : Nat → Value} {w0 w1 w : World} {S : Nat → Bool} {f : Nat → Value} (h : SInv L V w0 w1 S f w) {i : Nat} (hi : i < L) (hs : S i = false) (v : Value) (hv : v = V i) : SInv L V w0 w1 (addD S i) (updD f i v) w := by
  obtain ⟨hl, hw⟩ := h.same hi hs
  refine ⟨fun k hk hx => ?_, fun _ => hw, fun hx => ?_⟩
  · unfold addD at hx
    unfold updD
    by_cases e : k = i
    · subst e; rw [if_pos rfl]; exact hv
    · rw [if_neg e] at hx ⊢; exact h.v k hk hx
  · unfold addD at hx
    rw [if_neg (by omega), hl] at hx
    cases hx
theorem SInv.last {L : Nat} {V : Nat → Value} {w0 w1 w : World} {S : Nat → Bool} {f : Nat → Value} (h : SInv L V w0 w1 S f w) (hall : ∀ k, k < L → S k = true) (v : Value) : SInv L V w0 w1 (addD S L) (updD f L v) w1 := by
  refine ⟨fun k hk hx => ?_, fun hx => ?_, fun _ => ⟨rfl, fun k hk => ?_⟩⟩
  · unfold updD; rw [if_neg (by omega)]; exact h.v k hk (hall k hk)
  · unfold addD at hx; rw [if_pos rfl] at hx; cases hx
  · unfold addD; rw [if_neg (by omega)]; exact hall k hk
structure SInvC (ops : Array Oper) (L : Nat) (V : Nat → Value) (w0 w1 : World) (S : Nat → Bool) (f : Nat → Value) (w : World) : Prop where
  s : SInv L V w0 w1 S f w
  c : ∀ k j, S k = true → waits ops k j = true → S j = true
theorem addD_closed {ops : Array Oper} {S : Nat → Bool} (c : ∀ k j, S k = true → waits ops k j = true → S j = true) {i : Nat} (hw : ∀ j, waits ops i j = true → S j = true) : ∀ k j, addD S i k = true → waits ops k j = true → addD S i j = true := by
  intro k j hk hkj
  unfold addD at hk ⊢
  by_cases hj : j = i
  · rw [if_pos hj]
  · rw [if_neg hj]
    by_cases e : k = i
    · subst e; exact hw j hkj
    · rw [if_neg e] at hk; exact c k j hk hkj
theorem SInvC.same {ops : Array Oper} {L : Nat} {V : Nat → Value} {w0 w1 w : World} {S : Nat → Bool} {f : Nat → Value} (h : SInvC ops L V w0 w1 S f w) {i : Nat} (hi : i < L) (hs : S i = false) : S L = false ∧ w = w0 := h.s.same hi hs
theorem SInvC.v {ops : Array Oper} {L : Nat} {V : Nat → Value} {w0 w1 w : World} {S : Nat → Bool} {f : Nat → Value} (h : SInvC ops L V w0 w1 S f w) : ∀ k, k < L → S k = true → f k = V k := h.s.v
theorem SInvC.val {ops : Array Oper} {L : Nat} {V : Nat → Value} {w0 w1 w : World} {S : Nat → Bool} {f : Nat → Value} (h : SInvC ops L V w0 w1 S f w) {i : Nat} (hi : i < L) (hs : S i = false) (hw : ∀ j, waits ops i j = true → S j = true) (v : Value) (hv : v = V i) : SInvC ops L V w0 w1 (addD S i) (updD f i v) w :=
  ⟨h.s.val hi hs v hv, addD_closed h.c hw⟩
theorem SInvC.last {ops : Array Oper} {L : Nat} {V : Nat → Value} {w0 w1 w : World} {S : Nat → Bool} {f : Nat → Value} (h : SInvC ops L V w0 w1 S f w) (hw : ∀ j, waits ops L j = true → S j = true) (hall : ∀ k, k < L → S k = true) (v : Value) : SInvC ops L V w0 w1 (addD S L) (updD f L v) w1 :=
  ⟨h.s.last hall v, addD_closed h.c hw⟩
theorem wp_drawnS {P : Program} {ops : Array Oper} {Q : Exit → Act → World → Prop} {id : Nat} {a0 : Act} {w0 : World} (hm : P.follows .mixedOrders = true)
    (N : Nat) (hN : a0.tmps.size = N) (ht : inOrder ops = true) (hd : apartD ops N = true) (L : Nat) (V : Nat → Value) (w1 : World)
    (hstep : StepsJ P ops (SInvC ops L V w0.drew w1) a0 0 ops.toList)
    (hend : ∀ a w S, a.defers = a0.defers → a.tmps.size = N → (∀ t, offD ops t = true → a.tmps[t]? = a0.tmps[t]?) → (∀ k, k < ops.size → S k = true) → SInv L V w0.drew w1 S (valD ops a) w → Q .normal a w) :
    (Code.region id ops true).wp P Q a0 w0 :=
  wp_drawnJ hm N hN ht hd _ ⟨⟨fun _ _ h => absurd h Bool.false_ne_true, fun _ => rfl, fun h => absurd h Bool.false_ne_true⟩, fun _ _ h => absurd h Bool.false_ne_true⟩ hstep (fun a w S h1 h2 h3 h4 h5 => hend a w S h1 h2 h3 h4 h5.s)
structure SInvT (ops : Array Oper) (L1 L2 : Nat) (V : Nat → Value) (w0 w1 w2 : World) (S : Nat → Bool) (f : Nat → Value) (w : World) : Prop where
  v : ∀ k, k ≠ L1 → k ≠ L2 → S k = true → f k = V k
  w : w = if S L2 = true then w2 else if S L1 = true then w1 else w0
  c : ∀ k j, S k = true → waits ops k j = true → S j = true
theorem SInvT.worlds {ops : Array Oper} {L1 L2 : Nat} {V : Nat → Value} {w0 w1 w2 w : World} {S : Nat → Bool} {f : Nat → Value} (h : SInvT ops L1 L2 V w0 w1 w2 S f w) : w = w0 ∨ w = w1 ∨ w = w2 := by
  have := h.w
  split at this
  · exact .inr (.inr this)
  · split at this
    · exact .inr (.inl this)
    · exact .inl this
theorem SInvT.val {ops : Array Oper} {L1 L2 : Nat} {V : Nat → Value} {w0 w1 w2 w : World} {S : Nat → Bool} {f : Nat → Value} (h : SInvT ops L1 L2 V w0 w1 w2 S f w) {i : Nat} (h1 : i ≠ L1) (h2 : i ≠ L2) (hw : ∀ j, waits ops i j = true → S j = true) (v : Value) (hv : v = V i) : SInvT ops L1 L2 V w0 w1 w2 (addD S i) (updD f i v) w := by
  refine ⟨fun k hk1 hk2 hx => ?_, ?_, addD_closed h.c hw⟩
  · unfold addD at hx
    unfold updD
    by_cases e : k = i
    · subst e; rw [if_pos rfl]; exact hv
    · rw [if_neg e] at hx ⊢; exact h.v k hk1 hk2 hx
  · unfold addD
    rw [if_neg h2.symm, if_neg h1.symm]
    exact h.w
theorem SInvT.one {ops : Array Oper} {L1 L2 : Nat} {V : Nat → Value} {w0 w1 w2 w : World} {S : Nat → Bool} {f : Nat → Value} (h : SInvT ops L1 L2 V w0 w1 w2 S f w) (h12 : L1 ≠ L2) (hw : ∀ j, waits ops L1 j = true → S j = true) (hs : S L1 = false) (hwt : waits ops L2 L1 = true) (v : Value) : w = w0 ∧ SInvT ops L1 L2 V w0 w1 w2 (addD S L1) (updD f L1 v) w1 := by
  have h2 : S L2 = false := by
    cases e : S L2 with
    | false => rfl
    | true => have := h.c L2 L1 e hwt; rw [hs] at this; cases this
  refine ⟨by rw [h.w, h2, hs]; rfl, fun k hk1 hk2 hx => ?_, ?_, addD_closed h.c hw⟩
  · unfold addD at hx
    unfold updD
    rw [if_neg hk1] at hx ⊢
    exact h.v k hk1 hk2 hx
  · unfold addD
    rw [if_neg h12.symm, if_pos rfl, h2]
    rfl
theorem SInvT.two {ops : Array Oper} {L1 L2 : Nat} {V : Nat → Value} {w0 w1 w2 w : World} {S : Nat → Bool} {f : Nat → Value} (h : SInvT ops L1 L2 V w0 w1 w2 S f w) (hw : ∀ j, waits ops L2 j = true → S j = true) (hs : S L2 = false) (hwt : waits ops L2 L1 = true) (v : Value) : w = w1 ∧ SInvT ops L1 L2 V w0 w1 w2 (addD S L2) (updD f L2 v) w2 := by
  have h1 : S L1 = true := hw L1 hwt
  refine ⟨by rw [h.w, hs, h1]; rfl, fun k hk1 hk2 hx => ?_, ?_, addD_closed h.c hw⟩
  · unfold addD at hx
    unfold updD
    rw [if_neg hk2] at hx ⊢
    exact h.v k hk1 hk2 hx
  · unfold addD
    rw [if_pos rfl, if_pos rfl]
theorem wp_drawnT {P : Program} {ops : Array Oper} {Q : Exit → Act → World → Prop} {id : Nat} {a0 : Act} {w0 : World} (hm : P.follows .mixedOrders = true)
    (N : Nat) (hN : a0.tmps.size = N) (ht : inOrder ops = true) (hd : apartD ops N = true) (L1 L2 : Nat) (V : Nat → Value) (w1 w2 : World)
    (hstep : StepsJ P ops (SInvT ops L1 L2 V w0.drew w1 w2) a0 0 ops.toList)
    (hend : ∀ a w S, a.defers = a0.defers → a.tmps.size = N → (∀ t, offD ops t = true → a.tmps[t]? = a0.tmps[t]?) → (∀ k, k < ops.size → S k = true) → SInvT ops L1 L2 V w0.drew w1 w2 S (valD ops a) w → Q .normal a w) :
    (Code.region id ops true).wp P Q a0 w0 :=
  wp_drawnJ hm N hN ht hd _ ⟨fun _ _ _ h => absurd h Bool.false_ne_true, rfl, fun _ _ h => absurd h Bool.false_ne_true⟩ hstep hend
end Go.Proofs.YtajkbkljonejnaaGreatDoor
namespace Go.Proofs.YtajkbkljonejnaaGreatDoor
set_option linter.unusedVariables false
def StepV (P : Program) (ops : Array Oper) (V : Nat → Value) (a0 : Act) (w : World) (i : Nat) (o : Oper) : Prop :=
  ∀ (a : Act), (∀ j, waits ops i j = true → valD ops a j = V j) → (∀ t, offD ops t = true → a.eval (.tmp t) = a0.eval (.tmp t)) → (∀ k, waits ops k i = true → valD ops a k = valD ops a0 k) →
    ∃ v, (execOp a.eval o).run P w = .ok (.value v) w ∧ o.dst.elim undef (fun _ => v) = V i
def StepsV (P : Program) (ops : Array Oper) (V : Nat → Value) (a0 : Act) (w : World) : Nat → List Oper → Prop
  | _, [] => True
  | i, o :: l => StepV P ops V a0 w i o ∧ StepsV P ops V a0 w (i + 1) l
structure VInv (ops : Array Oper) (V : Nat → Value) (a0 : Act) (w0 : World) (S : Nat → Bool) (f : Nat → Value) (w : World) : Prop where
  w : w = w0
  v : ∀ k, S k = true → f k = V k
  o : ∀ k, S k = false → f k = valD ops a0 k
  c : ∀ k j, S k = true → waits ops k j = true → S j = true
theorem StepsV.J {P : Program} {ops : Array Oper} {V : Nat → Value} {a0 : Act} {w0 : World} : ∀ {l : List Oper} {i : Nat}, StepsV P ops V a0 w0 i l → StepsJ P ops (VInv ops V a0 w0) a0 i l
  | [], _, _ => trivial
  | o :: l, i, h => by
    refine ⟨fun S a w hj hi hwt hoff => ?_, h.2.J⟩
    obtain ⟨hw0, hj, ho, hc⟩ := hj
    subst hw0
    obtain ⟨v, hv, hd⟩ := h.1 a (fun j hw => hj j (hwt j hw)) hoff (fun k hk => ho k (by
      cases hs : S k with
      | false => rfl
      | true => have := hc k i hs hk; rw [hi] at this; cases this))
    refine Does.value v _ hv ⟨rfl, fun k hk => ?_, fun k hk => ?_, fun k j hk hw => ?_⟩
    · unfold updD
      unfold addD at hk
      by_cases hki : k = i
      · subst hki; rw [if_pos rfl]; exact hd
      · rw [if_neg hki] at hk ⊢; exact hj k hk
    · unfold updD
      unfold addD at hk
      by_cases hki : k = i
      · rw [if_pos hki] at hk; cases hk
      · rw [if_neg hki] at hk ⊢; exact ho k hk
    · unfold addD at hk ⊢
      by_cases hji : j = i
      · rw [if_pos hji]
      · rw [if_neg hji]
        by_cases hki : k = i
        · subst hki; exact hwt j hw
        · rw [if_neg hki] at hk; exact hc k j hk hw
def vals (l : List Value) (k : Nat) : Value := l.getD k undef
end Go.Proofs.YtajkbkljonejnaaGreatDoor
