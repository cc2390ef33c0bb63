/- For all ways and every scene: if Walk goes well it is by a way that applies, with that way's Code, and every one ahead of it that applies does not go well and has Next; if it does not, none that is reached goes well, and BitWays is found; where something is wrong nothing is answered beside the error. No conditions. -/
import Derived.Test.YtklnbkfajjgkaafWalkAll
import Derived.Test.YtklnbkfajjgkaafRows
import Derived.WalkKit
import Derived.ProofKit
import Derived.OpenShut
import Derived.ShutString
import Derived.ChangeOld
import Derived.Below
namespace Go.Proofs.Ytklnbkfajjgkaaf
open Go.ChangeShapes Go.WideShapes Go.ChangeAt Go.RowKit
open Go.ChangeMaps (open_string shut_string)
set_option linter.unusedVariables false





structure FIn (v : XWays) (s : XScene) (w : World) (ga : Nat) (a : Int × Bool × Int) (wr : World) : Prop where
  bel : Below w.heap.size w wr
  ws : WsAt wr w.heap.size v
  sc : ScAt wr (w.heap.size + 1) s
  k : KAt wr ga a
theorem FIn.below {v : XWays} {s : XScene} {w : World} {ga : Nat} {a : Int × Bool × Int} {wr wr' : World} (h : FIn v s w ga a wr) (hb : Below wr.heap.size wr wr') : FIn v s w ga a wr' :=
  ⟨h.bel.trans (hb.mono h.bel.size), h.ws.below hb, h.sc.below hb, h.k.below hb⟩
theorem wBits_and0 (u : Bool) : bits .and .i64 (wBits u false) 1 = 0 := by cases u <;> decide
theorem wBits_and1 (u : Bool) : bits .and .i64 (wBits u true) 1 = 1 := by cases u <;> decide

set_option maxHeartbeats 4000000 in
theorem walkFirstBad (v : XWays) (s : XScene) (w : World) (hr : RowWay w v.listo v.list) (hra : Rowint w s.ableo s.able) (hrw : Rowint w s.wello s.well) (h : walkE v s ≠ 0) :
    Calls Try.prog 5 #[valWays v, valScene s] w fun e w' => e = .returned (.bool true) ∧ Below w.heap.size w w' := by
  have n1 := fun w' (h : Below w.heap.size w w') => walk_any v s w' (hr.below h) (hra.below h) (hrw.below h)
  have ha : walkA v s = (0, false, 0) := by rw [walkA, if_neg h]
  rw [ha] at n1
  have hne : (walkE v s != 0) = true := by simpa using h
  have hbx := below_lboxes v s w
  clear hr hra hrw ha h
  generalize walkE v s = we at *
  unfold valWays valScene valWalked at *
  simp only at n1
  have N1 := hide n1
  clear n1
  go_enter Try.func5, Try.ntmps5
  go_wp2_with fail
  refine (unhide N1 _ hbx).mono ?_
  rintro e x1 ⟨rfl, hb1⟩
  have hbw := hbx.trans (hb1.mono hbx.size)
  go_wp2
  go_ret
  exact ⟨ret_bool (by simp), hbw.alloc hbw.size _⟩

set_option maxHeartbeats 8000000 in
theorem walkRuleFirst (v : XWays) (s : XScene) (w : World) (hv : okWays w v) (hs : okScene w s) :
    Calls Try.prog 5 #[valWays v, valScene s] w fun e w' => e = .returned (.bool true) ∧ Below w.heap.size w w' := by
  have hr : RowWay w v.listo v.list := hv.2.2
  have hra : Rowint w s.ableo s.able := hs.2.1
  have hrw : Rowint w s.wello s.well := hs.2.2
  clear hv hs
  by_cases h : walkE v s = 0
  case neg => exact walkFirstBad v s w hr hra hrw h
  have h1 : waysE v = 0 := by
    by_cases h1 : waysE v = 0
    · exact h1
    · rw [walkE, if_neg h1] at h; exact h
  have hall := (waysE_zero h1).2.2
  have hlen := (waysE_zero h1).1
  have n1 := fun w' (h : Below w.heap.size w w') => walk_any v s w' (hr.below h) (hra.below h) (hrw.below h)
  rw [h] at n1
  have haL : walkA v s = walkL v s v.list (-1) false := by rw [walkA, if_pos h]
  rw [haL] at n1
  have n3 := fun x w' (hb : Below w.heap.size w w') h0 h7 => rapplies_any x v s w' (hra.below hb) h0 h7
  have n4 := fun code w' (hb : Below w.heap.size w w') h0 => rgoesWell_any code s w' (hra.below hb) (hrw.below hb) h0
  have hbx := below_lboxes v s w
  have hat := lboxes_at v s w
  obtain ⟨vx, vy, vo, vl, vc⟩ := v
  obtain ⟨a, haE⟩ : ∃ a, walkL ⟨vx, vy, vo, vl, vc⟩ s vl (-1) false = a := ⟨_, rfl⟩
  unfold valWays valScene valWay valWalked at *
  simp only at n1 n3 n4 hr hlen hall ⊢
  rw [haE] at n1
  have N1 := hide n1; have N3 := hide n3; have N4 := hide n4; have HALL := hide hall; have HAE := hide haE
  clear n1 n3 n4 h1 h hra hrw hall haL haE
  go_enter Try.func5, Try.ntmps5
  go_wp2_with fail
  refine (unhide N1 _ hbx).mono ?_
  rintro e x1 ⟨rfl, hb1⟩
  have hw1 := hat.1.below hb1
  have hs1 := hat.2.below hb1
  have hbw := hbx.trans (hb1.mono hbx.size)
  have d2 := hw1.cells.2.2
  simp only at d2
  have hz0 : w.heap.size < x1.heap.size := block_ltW hw1
  have hwi : FIn ⟨vx, vy, vo, vl, vc⟩ s w x1.heap.size a (x1.alloc (Obj.cells #[.int .i64 a.1, .bool a.2.1, .int .i64 a.2.2] 37)) :=
    ⟨hbw.alloc hbw.size _, hw1.below ((Below.refl _ _).alloc (Nat.le_refl _) _), hs1.below ((Below.refl _ _).alloc (Nat.le_refl _) _), heap_at _ _ _ rfl⟩
  have HWI := hide hwi
  have HR := hide hr
  clear hb1 hat hbx N1 hwi hw1 hs1 hbw hr
  go_wp2
  clear d2 hz0
  generalize x1.heap.size = ga at *
  go_loopw [23] (fun iv wr => ∃ (k : Nat) (last : Int) (u : Bool), k ≤ vl.length ∧ iv = .int .i64 k ∧ Hid (walkL ⟨vx, vy, vo, vl, vc⟩ s (vl.drop k) last u = a) ∧ FIn ⟨vx, vy, vo, vl, vc⟩ s w ga a wr) (fun i _ => vl.length - (intOf i).toNat)
  case atStart => exact ⟨0, -1, false, Nat.zero_le _, rfl, hide (unhide HAE), unhide HWI⟩
  case round =>
    obtain ⟨k, last, u, hk, rfl, HE, hwi⟩ := hrel
    by_cases hlt : k < vl.length
    · obtain ⟨x, hx⟩ : ∃ x, vl[k]? = some x := ⟨_, List.getElem?_eq_getElem hlt⟩
      have hdrop := drop_step vl k x hx
      obtain ⟨⟨hc0, hc1⟩, hw0, hw7⟩ := inB_of (unhide HALL) hx
      have hE := unhide HE
      rw [hdrop, walkL_step] at hE
      obtain ⟨hrr, _, _⟩ := (unhide HR).below hwi.bel
      rcases hrr with hnil | ⟨b, off, rfl, hb, hc⟩
      · rw [hnil] at hlt; simp at hlt
      obtain ⟨d0, d1, d2⟩ := hc k x hx
      have hal : Below wr.heap.size wr (wr.alloc (Obj.cells #[.int .i64 x.code, .int .i64 x.when, .bool x.next] 43)) := (Below.refl _ _).alloc (Nat.le_refl _) _
      have hwi1 := hwi.below hal
      have n3 := unhide N3 x _ hwi1.bel hw0 hw7
      have n4 := fun w3 (h3 : FIn ⟨vx, vy, some ⟨b, off, none⟩, vl, vc⟩ s w ga a w3) => unhide N4 x.code w3 h3.bel hc0
      have hbw := box_way wr x
      obtain ⟨p0, p1, p2⟩ := hwi.ws.cells
      simp only at p0 p1 p2
      obtain ⟨q0, q1, q2, q3⟩ := hwi.sc.cells
      have hz0 : w.heap.size < wr.heap.size := block_ltW hwi.ws
      have hz1 : w.heap.size + 1 < wr.heap.size := block_ltW hwi.sc
      have HI1 := hide hwi1
      clear hc hx hdrop HE hwi hwi1 hal N3 N4 HALL hw0 hw7 hc0 hc1 HAE
      generalize appB x ⟨vx, vy, some ⟨b, off, none⟩, vl, vc⟩ s = q at *
      generalize wellB x.code s = qw at *
      cases q with
      | false =>
        simp only [cond_false] at hE
        have HE := hide hE
        have N3' := hide n3
        clear hE n3 n4 hbw
        go_wp2_with fail
        refine (unhide N3').mono ?_
        rintro e w3 ⟨rfl, hb3⟩
        have hwi3 := (unhide HI1).below hb3
        clear d0 d1 d2 p0 p1 p2 q0 q1 q2 q3 hz0 hz1
        go_wp2_with fail
        go_roundw
        case rel => exact ⟨k + 1, last, u, by omega, by go_num, HE, hwi3⟩
        case measure => simp [intOf]; omega
      | true =>
        simp only [cond_true] at hE
        have N3' := hide n3
        have N4' := hide n4
        have HBW := hide hbw
        have HE0 := hide hE
        clear n3 n4 hbw hE
        go_wp2_with fail
        refine (unhide N3').mono ?_
        rintro e w3 ⟨rfl, hb3⟩
        have hwi3 := (unhide HI1).below hb3
        obtain ⟨m0, m2⟩ := unhide HBW w3 hb3
        have n4 := unhide N4' w3 hwi3
        clear q0 q1 q2 q3
        obtain ⟨q0, q1, q2, q3⟩ := hwi3.sc.cells
        have HI3 := hide hwi3
        have hE := unhide HE0
        clear d0 d1 d2 p0 p1 p2 hz0 hz1 hb3 hwi3 N4' N3' HBW HE0 HI1
        have N4' := hide n4
        clear n4
        generalize (u || decide (5 < x.code)) = U at *
        cases qw with
        | true =>
          simp only [cond_true] at hE
          have o0 := wBits_and0 U
          have HE := hide hE
          clear hE
          go_wp2_with fail
          refine (unhide N4').mono ?_
          rintro e w4 ⟨rfl, hb4⟩
          have hwi4 := (unhide HI3).below hb4
          have hk4 := hwi4.k
          rw [← unhide HE] at hk4
          obtain ⟨k0, k1, k2⟩ := hk4.cells
          simp only at k0 k1 k2
          have m0' := (hb4.cell (World.block_lt_of_cell? _ _ m0)).trans m0
          have HBE := hide hwi4.bel
          clear hwi4 hb4 m2 m0 q0 q1 q2 q3 N4' hk4
          go_wp2
          go_ret
          exact ⟨ret_bool (by simp), unhide HBE⟩
        | false =>
          simp only [cond_false] at hE
          cases hnx : x.next with
          | true =>
            rw [hnx] at hE m2
            simp only [cond_true] at hE
            have HE := hide hE
            clear hE hnx
            go_wp2_with fail
            refine (unhide N4').mono ?_
            rintro e w4 ⟨rfl, hb4⟩
            have hwi4 := (unhide HI3).below hb4
            have m2' := (hb4.cell (World.block_lt_of_cell? _ _ m2)).trans m2
            clear hb4 m2 m0 q0 q1 q2 q3 N4'
            go_wp2_with fail
            go_roundw
            case rel => exact ⟨k + 1, x.code, U, by omega, by go_num, HE, hwi4⟩
            case measure => simp [intOf]; omega
          | false =>
            rw [hnx] at hE m2
            simp only [cond_false] at hE
            have o1 := wBits_and1 U
            have HE := hide hE
            clear hE hnx
            go_wp2_with fail
            refine (unhide N4').mono ?_
            rintro e w4 ⟨rfl, hb4⟩
            have hwi4 := (unhide HI3).below hb4
            have hk4 := hwi4.k
            rw [← unhide HE] at hk4
            obtain ⟨k0, k1, k2⟩ := hk4.cells
            simp only at k0 k1 k2
            have m0' := (hb4.cell (World.block_lt_of_cell? _ _ m0)).trans m0
            have m2' := (hb4.cell (World.block_lt_of_cell? _ _ m2)).trans m2
            have HBE := hide hwi4.bel
            clear hwi4 hb4 m2 m0 q0 q1 q2 q3 N4' hk4
            go_wp2
            go_ret
            exact ⟨ret_bool (by simp), unhide HBE⟩
    · have hkl : k = vl.length := by omega
      have hE := unhide HE
      rw [hkl, List.drop_length] at hE
      have hE2 : (last, false, wBits u true) = a := hE
      have o1 := wBits_and1 u
      have hk4 := hwi.k
      rw [← hE2] at hk4
      obtain ⟨k0, k1, k2⟩ := hk4.cells
      simp only at k0 k1 k2
      have HBE := hide hwi.bel
      clear hE HE hwi hkl hE2 hk4
      go_wp2
      go_ret
      exact ⟨ret_bool (by simp), unhide HBE⟩

theorem ownRuleFirst : ownKnob Try.prog.godebug = none := by kernel_rfl
theorem laidOutRuleFirst : laidOutB Try.prog = true := by kernel_rfl
set_option maxRecDepth 100000 in
theorem contractRuleFirst (H : Type) (enc : TypeId × Value → H) (W : World) (base : Nat) (args : Array Value) (ds gs : List (DataW H)) (before : List MemPlace)
    (hval0 : ∀ (j : Nat) t v, Try.f5.params[j]? = some t → args[j]? = some v → Value.okWide Try.prog W .any base t v)
    (hW : DataW.Whole enc Try.prog Try.f5.params.toList Rows.ruleFirstSpec.vars false W args.toList ds gs before) :
    Calls Try.prog 5 args W fun e W' => ∃ v, e = .returned v ∧ Rows.ruleFirstSpec.post enc Try.prog Try.f5 false true false false W args v W' := by
  have hval : ∀ (j : Nat) t v, Try.f5.params[j]? = some t → args[j]? = some v → Value.okWide Try.prog W .any base t v := hval0
  have hW' := hW
  obtain ⟨p, q, hA0, hV, rfl, hfz, hnd⟩ := hW
  have hA : DataW.TrodAll enc Try.prog W 0 (fun _ => true) true Try.f5.params.toList args.toList ds p := hA0
  rw [Try.params5] at hA hval
  obtain ⟨v0, vs0, d0, ds0, p0, q0, hargs, rfl, rfl, h0, r0⟩ := trodAll_cons hA
  obtain ⟨v1, vs1, d1, ds1, p1, q1, rfl, rfl, rfl, h1, r1⟩ := trodAll_cons r0
  obtain ⟨rfl, rfl, rfl⟩ := trodAll_nil r1
  obtain rfl : args = #[v0, v1] := by cases args; simp_all
  obtain ⟨rfl, rfl⟩ := trodVars_none hV
  clear hA0 hval0
  simp only [List.append_nil] at hW'
  have hlt0 : ∀ x ∈ p0, x.block < W.heap.size := fun x hx => by simpa using hW'.lt x (by simp [hx])
  have hargs0 : ∀ (W' : World), Below W.heap.size W W' → DataW.Trod enc Try.prog W' 0 (fun b => decide (b < W.heap.size)) true 32 v0 d0 p0 :=
    fun W' hn => Below.trod laidOutRuleFirst (by kernel_rfl) (of_decide_eq_true (by kernel_rfl)) h0 hn hlt0
  have hlt1 : ∀ x ∈ p1, x.block < W.heap.size := fun x hx => by simpa using hW'.lt x (by simp [hx])
  have hargs1 : ∀ (W' : World), Below W.heap.size W W' → DataW.Trod enc Try.prog W' 0 (fun b => decide (b < W.heap.size)) true 35 v1 d1 p1 :=
    fun W' hn => Below.trod laidOutRuleFirst (by kernel_rfl) (of_decide_eq_true (by kernel_rfl)) h1 hn hlt1
  obtain ⟨x0, rfl, hr0⟩ := openWays (hval 0 32 v0 rfl rfl) h0
  obtain ⟨x1, rfl, hr1⟩ := openScene (hval 1 35 v1 rfl rfl) h1
  refine (walkRuleFirst x0 x1 W hr0 hr1).mono fun e W' ⟨he, bel⟩ => ?_
  subst he
  exact ⟨_, rfl, _, _, _, [], _, [], hW', trodAll_mk1 (shut_bool Try.underlying4 _), (trodAll_cons_mk (hargs0 _ bel) (trodAll_cons_mk (hargs1 _ bel) trodAll_mk0)), rfl, bel.frame _, fun h => by cases h⟩

set_option maxRecDepth 100000 in
theorem liftedRuleFirst (os : Os) (started : os.Started) (H : Type) (enc : TypeId × Value → H) :
    ReturnsInHanded {} Try.checked os 5 .any (Rows.ruleFirstSpec.pre6 enc Try.prog Try.f5 Rows.ruleFirstRow.domain false) (Rows.ruleFirstSpec.post enc Try.prog Try.f5 false true false false) := by
  refine returnsInHanded_of_change (C := Try.checked) ownRuleFirst started (by kernel_rfl) Try.func5
    (ChangeSpec.witness6 (enc := enc) (C := Try.checked) false ⟨#[], #[.agg #[.int .i64 0, .int .i64 0, .slice none 0 0], .agg #[.int .i64 0, .bool false, .slice none 0 0, .slice none 0 0]], []⟩ 8 (by kernel_rfl) (by kernel_rfl) (by kernel_rfl) (by kernel_rfl)) ?_
  intro W base args ds gs before hval hW hcnd _
  exact contractRuleFirst H enc W base args ds gs before hval hW

theorem overRuleFirst : Rows.ruleFirstRow.holds Try.pinned (OpenSpec.ofChange Rows.ruleFirstSpec) :=
  OpenClaim.holds_of_wide 5 Try.f5 rfl rfl rfl rfl rfl rfl rfl ⟨rfl, rfl, rfl, rfl, rfl⟩ rfl rfl rfl rfl rfl (by kernel_rfl) Try.func5 (by kernel_rfl)
    (of_decide_eq_true (by kernel_rfl)) (by unfold Func.isWrapper; first | (rw [if_pos (by decide +kernel)]; kernel_rfl) | (rw [if_neg (by decide +kernel)]; exact ⟨rfl, rfl⟩))
    (fun os started H enc _ => liftedRuleFirst os started H enc)

/-- THE STATEMENT -/
theorem ruleFirst_holds : Rows.RuleFirstSaid := overRuleFirst
#print axioms ruleFirst_holds
end Go.Proofs.Ytklnbkfajjgkaaf
