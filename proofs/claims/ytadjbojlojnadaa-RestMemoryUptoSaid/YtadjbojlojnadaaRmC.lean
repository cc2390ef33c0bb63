/- What is cleared, run twice. -/
import Derived.Test.YtadjbojlojnadaaRmB
namespace Go.Proofs.Ytadjbojlojnadaa
open Go.RowKit
set_option linter.unusedVariables false
set_option linter.unusedSimpArgs false
set_option maxRecDepth 100000

def pstM (x : XPosted) : Pst := ⟨x.frm, x.dst, x.shop, x.trace, x.amt, x.day⟩
def runStep (st : Clr × List Ow) (s : XStep) : Clr × List Ow :=
  if s.dO = 0 then ((postS st.1 (pstM s.posted)).2, st.2)
  else if s.dO = 1 then ((doS st.1 s.shop s.trace ⟨1, s.day, s.amount⟩).2, st.2)
  else ({ st.1 with ow := fun _ _ => 0 }, st.2 ++ cutL st.1.ow)
def runL (l : List XStep) : Clr × List Ow := l.foldl runStep (newS ⟨5, 5, 5, 3⟩, [])
theorem runL_snoc (l : List XStep) (s : XStep) : runL (l ++ [s]) = runStep (runL l) s := by unfold runL; rw [List.foldl_append]; rfl
theorem runL_take {l : List XStep} {k : Nat} {s : XStep} (h : l[k]? = some s) : runL (l.take (k + 1)) = runStep (runL (l.take k)) s := by
  obtain ⟨hk, rfl⟩ := List.getElem?_eq_some_iff.1 h
  rw [List.take_succ_eq_append_getElem hk, runL_snoc]
theorem cutB_lenM (ow : Int → Int → Int) (a : Int) (k : Nat) : (cutB ow a k).length ≤ k := by
  induction k with
  | zero => simp [cutB]
  | succ k ih => rw [cutB, List.length_append]; split <;> simp <;> omega
theorem cutA_lenM (ow : Int → Int → Int) (k : Nat) : (cutA ow k).length ≤ 99 * k := by
  induction k with
  | zero => simp [cutA]
  | succ k ih => rw [cutA, List.length_append]; have := cutB_lenM ow ((k : Int) + 1) 99; omega
theorem cutL_lenM (ow : Int → Int → Int) : (cutL ow).length ≤ 10000 := by have := cutA_lenM ow 99; unfold cutL; omega
def stepO (s : XStep) : Obj := .cells #[.int .i64 s.dO, .int .i64 s.shop, .int .i64 s.trace, .int .i64 s.amount, .int .i64 s.day, .bool s.forShop, .int .i64 s.posted.frm, .int .i64 s.posted.dst, .int .i64 s.posted.shop, .int .i64 s.posted.trace, .int .i64 s.posted.amt, .int .i64 s.posted.day] 59
/-- a run's world -/
structure RunW (w wr : World) (b : Nat) (S : Clr) (F : Nat → Prop) (v : Value) (ol : List Ow) : Prop where
  c : CAt wr F b S
  ok : okS S
  fB : ∀ x, F x → w.heap.size ≤ x
  row : OwnR wr w.heap.size 65 3 cellsO v ol
  dis : ∀ x, F x → v.ownBlock ≠ some x
  bel : Below w.heap.size w wr
theorem CAt.ltM {w : World} {F : Nat → Prop} {b : Nat} {S : Clr} (h : CAt w F b S) : ∀ x, F x → x < w.heap.size := by obtain ⟨_, _, _, _, _, h⟩ := h; exact h.flt
theorem CAt.keepM {w w' : World} {F : Nat → Prop} {b : Nat} {S : Clr} (h : CAt w F b S) (hs : w.heap.size ≤ w'.heap.size) (hb : ∀ x, F x → w'.heap[x]? = w.heap[x]?) : CAt w' F b S := by obtain ⟨a1, a2, a3, a4, a5, h⟩ := h; exact ⟨a1, a2, a3, a4, a5, h.keep hs hb⟩
theorem OwnR.of_blockM {α : Type} {w w' : World} {base : Nat} {e : TypeId} {m : Nat} {c : α → List Value} {v : Value} {l : List α} (h : OwnR w base e m c v l) (hk : ∀ x, v.ownBlock = some x → w'.heap[x]? = w.heap[x]?) : OwnR w' base e m c v l := by
  refine ⟨h.1, ?_⟩
  rcases h.2 with h0 | ⟨g, cap, cur, e1, e2, e3, e4⟩
  · exact .inl h0
  · exact .inr ⟨g, cap, cur, e1, e2, by rw [hk g (by rw [e1]; rfl)]; exact e3, e4⟩
theorem oRM {α : Type} {w : World} {base : Nat} {e : TypeId} {m : Nat} {c : α → List Value} {v : Value} {l : List α} (h : OwnR w base e m c v l) {x : Nat} (hx : v.ownBlock = some x) : x < w.heap.size := (h.lt x hx).2
variable {w wr w' : World} {b : Nat} {S : Clr} {F : Nat → Prop} {v : Value} {ol : List Ow}
theorem RunW.below (h : RunW w wr b S F v ol) (hb : Below wr.heap.size wr w') : RunW w w' b S F v ol :=
  ⟨h.c.keepM hb.size (fun x hx => hb.block x (h.c.ltM x hx)), h.ok, h.fB, h.row.below hb, h.dis, h.bel.trans (hb.mono h.bel.size)⟩
/-- behind a call of the Clear -/
theorem RunW.call (h : RunW w wr b S F v ol) {S' : Clr} {F' : Nat → Prop} (hc : CAt w' F' b S') (hok : okS S') (hC : Chg F wr w') (hF : ∀ x, F' x → F x ∨ wr.heap.size ≤ x) : RunW w w' b S' F' v ol := by
  have hs := h.bel.size
  refine ⟨hc, hok, fun x hx => ?_, h.row.of_blockM (fun x hx => hC.block x (h.row.lt x hx).2 (fun hf => h.dis x hf hx)), fun x hx e => ?_, h.bel.trans (hC.below hs h.fB)⟩
  · rcases hF x hx with e | e
    · exact h.fB x e
    · omega
  · rcases hF x hx with e1 | e1
    · exact h.dis x e1 e
    · have := (h.row.lt x e).2; omega
/-- behind the append of what was cut -/
theorem RunW.more (h : RunW w wr b S F v ol) {l2 : List Ow} {g cap n : Nat} (hg : wr.grownBy w' v.ownBlock) (hn : n = (ol ++ l2).length) (own : w'.ownsRow w.heap.size 65 3 (.slice (some ⟨g, 0, none⟩) n cap) n (rowC cellsO ol ++ rowC cellsO l2)) (hat : v.ownBlock = some g ∨ g = wr.heap.size) :
    RunW w w' b S F (.slice (some ⟨g, 0, none⟩) n cap) (ol ++ l2) := by
  subst hn
  have hs := h.bel.size
  refine ⟨h.c.keepM hg.size (fun x hx => hg.block x (h.c.ltM x hx) (Ne.symm (h.dis x hx))), h.ok, h.fB, ?_, fun x hx e => ?_, h.bel.grown hg hs (fun k hk => (h.row.lt k hk).1)⟩
  · show w'.ownsRow _ _ _ _ _ (rowC cellsO (ol ++ l2))
    rw [rowC_append]; exact own
  · obtain rfl : g = x := Option.some.inj e
    rcases hat with e1 | e1
    · exact h.dis g hx e1
    · have := h.c.ltM g hx; omega
/-- what was cut is spoilt -/
theorem RunW.spoilt (h : RunW w wr b S F v ol) {v2 : Value} (hC : Chg (fun x => v2.ownBlock = some x) wr w') (h2 : ∀ x, v2.ownBlock = some x → w.heap.size ≤ x ∧ ¬ F x ∧ v.ownBlock ≠ some x) : RunW w w' b S F v ol := by
  refine ⟨h.c.keepM hC.size (fun x hx => hC.block x (h.c.ltM x hx) (fun e => (h2 x e).2.1 hx)), h.ok, h.fB, h.row.of_blockM (fun x hx => hC.block x (h.row.lt x hx).2 (fun e => (h2 x e).2.2 hx)), h.dis, h.bel.trans (hC.below h.bel.size (fun x hx => (h2 x hx).1))⟩
set_option maxHeartbeats 8000000 in
theorem run_any (rough : Bool) (l : List XStep) (ao : Option Addr) (cap sx : Nat) (w : World) (hbx : w.cell? ⟨sx, 0, none⟩ = some (.slice ao l.length cap)) (hsx : sx < w.heap.size) (hl : RowStep w ao l) (hll : l.length ≤ 1048576) :
    Calls Try.prog 14 #[.bool rough, .pointer (some ⟨sx, 0, none⟩)] w fun e w' => (∃ v', e = .returned v' ∧ OwnR w' w.heap.size 65 3 cellsO v' (runL l).2) ∧ Below w.heap.size w w' := by
  obtain ⟨i0, hi, hz0, hz1, hz2⟩ := info_parts infoO
  have HI := hide hi; have Z0 := hide hz0; have Z1 := hide hz1; have Z2 := hide hz2
  have HL := hide hl; have HLL := hide hll
  have hlen : (l.length : Int) ≤ 1048576 := by omega
  have HLN := hide hlen
  have N1 := hide (new_any ⟨5, 5, 5, 3⟩ w)
  unfold dysV at N1
  dsimp only at N1
  obtain ⟨res, hres⟩ : ∃ res, res = (runL l).2 := ⟨_, rfl⟩
  rw [← hres]
  have HRES := hide hres
  clear hi hz0 hz1 hz2 hl hll hlen hres
  go_enter Try.func14, Try.ntmps14
  go_wp2_with fail
  refine (unhide N1).mono ?_
  rintro e w1 (⟨hbad, _, _⟩ | ⟨hgood, b, F0, rfl, hC, hb1, hF⟩)
  · exact absurd hbad (by decide)
  · have hbx1 : w1.cell? ⟨sx, 0, none⟩ = some (.slice ao l.length cap) := (hb1.cell (p := ⟨sx, 0, none⟩) hsx).trans hbx
    have HRW : Hid (RunW w w1 b (newS ⟨5, 5, 5, 3⟩) F0 (.slice none 0 0) []) := hide ⟨hC, newS_ok hgood, hF, OwnR.nil _ _ _ _ _, fun x _ e => (by cases e), hb1⟩
    clear hgood hC hb1 hF hbx
    go_wp2
    go_loopw [4, 19] (fun v iv wr => ∃ (k : Nat) (S : Clr) (F : Nat → Prop) (ol : List Ow), k ≤ l.length ∧ iv = .int .i64 k ∧ Hid ((S, ol) = runL (l.take k) ∧ ol.length ≤ 10000 * k) ∧ RunW w wr b S F v ol) (fun _ iv _ => l.length - (intOf iv).toNat)
    case atStart => exact ⟨0, _, F0, [], Nat.zero_le _, rfl, hide ⟨by rw [List.take_zero]; rfl, by simp⟩, unhide HRW⟩
    case round =>
      obtain ⟨k, S, F, ol, hk, rfl, HE, hrw⟩ := hrel
      by_cases hlt : k < l.length
      · obtain ⟨s, hs⟩ : ∃ s, l[k]? = some s := ⟨_, List.getElem?_eq_getElem hlt⟩
        have hsok := (unhide HL).2.1 s (List.mem_of_getElem? hs)
        have HST := hide (runL_take hs)
        rcases (unhide HL).1 with hn | ⟨gb, go, rfl, hgl, hcell⟩
        · rw [hn] at hlt; simp at hlt
        obtain ⟨s0, s1, s2, s3, s4, s5, s6, s7, s8, s9, s10, s11⟩ := hcell k s hs
        have hbl := hrw.bel
        replace s0 := (hbl.cell (p := ⟨gb, go + k * 12, none⟩) hgl).trans s0; replace s1 := (hbl.cell (p := ⟨gb, go + k * 12 + 1, none⟩) hgl).trans s1; replace s2 := (hbl.cell (p := ⟨gb, go + k * 12 + 2, none⟩) hgl).trans s2; replace s3 := (hbl.cell (p := ⟨gb, go + k * 12 + 3, none⟩) hgl).trans s3
        replace s4 := (hbl.cell (p := ⟨gb, go + k * 12 + 4, none⟩) hgl).trans s4; replace s5 := (hbl.cell (p := ⟨gb, go + k * 12 + 5, none⟩) hgl).trans s5; replace s6 := (hbl.cell (p := ⟨gb, go + k * 12 + 6, none⟩) hgl).trans s6; replace s7 := (hbl.cell (p := ⟨gb, go + k * 12 + 7, none⟩) hgl).trans s7
        replace s8 := (hbl.cell (p := ⟨gb, go + k * 12 + 8, none⟩) hgl).trans s8; replace s9 := (hbl.cell (p := ⟨gb, go + k * 12 + 9, none⟩) hgl).trans s9; replace s10 := (hbl.cell (p := ⟨gb, go + k * 12 + 10, none⟩) hgl).trans s10; replace s11 := (hbl.cell (p := ⟨gb, go + k * 12 + 11, none⟩) hgl).trans s11
        have hki : (k : Int) < (l.length : Int) := by omega
        have hR1 := hrw.below ((Below.refl wr.heap.size wr).alloc (Nat.le_refl _) (stepO s))
        unfold stepO at hR1
        obtain ⟨_, hi1, hi2, hi3, hi4, hi5⟩ := hsok
        have HIN := hide (And.intro hi1 (And.intro hi2 hi5))
        have hlO := unhide HLN
        obtain ⟨⟨va, vc, hva⟩, _⟩ := hrw.row.form
        subst hva
        have HR1 := hide hR1
        clear hs hcell hR1 hi1 hi2 hi3 hi4 hi5 hbl hrw
        obtain ⟨sd, sh, st, sa, sy, sf, ⟨pf, pd, ps, pt, pa, py⟩⟩ := s
        dsimp only at *
        by_cases q0 : sd = 0
        · have b0 : (sd == 0) = true := by simpa using q0
          obtain ⟨c1, c2, c3, c4, c5, hc⟩ := (unhide HR1).c
          have NP := hide (post_any hc (unhide HR1).ok ⟨pf, pd, ps, pt, pa, py⟩ (unhide HIN).2.2.2.2.1 (unhide HIN).2.2.2.2.2.1)
          have HNX : Hid (((postS S ⟨pf, pd, ps, pt, pa, py⟩).2, ol) = runL (l.take (k + 1)) ∧ ol.length ≤ 10000 * (k + 1)) := hide ⟨by rw [unhide HST, ← (unhide HE).1]; unfold runStep; rw [if_pos q0]; rfl, by have := (unhide HE).2; omega⟩
          have HOK2 := hide (post_ok (unhide HR1).ok ⟨pf, pd, ps, pt, pa, py⟩)
          unfold pstV at NP
          dsimp only at NP
          clear q0 hc
          go_wp2_with fail
          refine (unhide NP).mono ?_
          rintro e y1 ⟨rfl, F1, z1, z2, z3⟩
          have HR2 := hide ((unhide HR1).call z1 (unhide HOK2) z2 z3)
          clear z1 z2 z3
          go_wp2
          go_roundw
          case rel => exact ⟨k + 1, _, F1, ol, by omega, by go_num, HNX, unhide HR2⟩
          case measure => simp [intOf]; omega
        by_cases q1 : sd = 1
        · have b0 : (sd == 0) = false := by simpa using q0
          have b1 : (sd == 1) = true := by simpa using q1
          obtain ⟨c1, c2, c3, c4, c5, hc⟩ := (unhide HR1).c
          have NP := hide (dispute_any hc (unhide HR1).ok sh st sa sy (unhide HIN).1 (unhide HIN).2.1)
          have HNX : Hid (((doS S sh st ⟨1, sy, sa⟩).2, ol) = runL (l.take (k + 1)) ∧ ol.length ≤ 10000 * (k + 1)) := hide ⟨by rw [unhide HST, ← (unhide HE).1]; unfold runStep; rw [if_neg q0, if_pos q1], by have := (unhide HE).2; omega⟩
          have HOK2 := hide (do_ok (unhide HR1).ok sh st ⟨1, sy, sa⟩ ⟨by show (1 : Int) ≤ 1; decide, by show (1 : Int) ≤ 5; decide⟩)
          clear q0 q1 hc
          go_wp2_with fail
          refine (unhide NP).mono ?_
          rintro e y1 ⟨rfl, F1, z1, z2, z3⟩
          have HR2 := hide ((unhide HR1).call z1 (unhide HOK2) z2 z3)
          clear z1 z2 z3
          go_wp2
          go_roundw
          case rel => exact ⟨k + 1, _, F1, ol, by omega, by go_num, HNX, unhide HR2⟩
          case measure => simp [intOf]; omega
        have b0 : (sd == 0) = false := by simpa using q0
        have b1 : (sd == 1) = false := by simpa using q1
        obtain ⟨c1, c2, c3, c4, c5, hc⟩ := (unhide HR1).c
        have NP := hide (cut_any hc (unhide HR1).ok)
        have HNX : Hid ((({ S with ow := fun _ _ => 0 } : Clr), ol ++ cutL S.ow) = runL (l.take (k + 1)) ∧ (ol ++ cutL S.ow).length ≤ 10000 * (k + 1)) := hide ⟨by rw [unhide HST, ← (unhide HE).1]; unfold runStep; rw [if_neg q0, if_neg q1], by have := (unhide HE).2; have := cutL_lenM S.ow; rw [List.length_append]; omega⟩
        have HOK2 := hide (cut_ok (unhide HR1).ok)
        clear q0 q1 hc
        go_wp2_with fail
        refine (unhide NP).mono ?_
        rintro e y1 ⟨v2, F1, rfl, z0, z1, z2, z3, z4⟩
        have HR2 := hide ((unhide HR1).call z1 (unhide HOK2) z2 z3)
        have hsz0 := (unhide HR1).bel.size
        have HV2 : Hid (∀ x, v2.ownBlock = some x → w.heap.size ≤ x ∧ ¬ F1 x ∧ (Value.slice va ol.length vc).ownBlock ≠ some x) := hide (fun x hx => by
          have h1 := (z0.lt x hx).1
          refine ⟨Nat.le_trans hsz0 h1, fun hf => z4 x hf hx, fun e => ?_⟩
          have := ((unhide HR1).row.lt x e).2
          omega)
        have HZ0 := hide z0
        obtain ⟨⟨a2, c2, hv2⟩, hform⟩ := z0.form
        subst hv2
        have hcl := cutL_lenM S.ow
        have hol := (unhide HE).2
        have HCL := hide hcl; have HOL := hide hol
        obtain ⟨cl, hcle⟩ : ∃ cl, cl = cutL S.ow := ⟨_, rfl⟩
        rw [← hcle] at HNX HZ0 HCL hform ⊢
        have NS0 := hide (fun U (hU : OwnR U (wr.alloc (.cells #[.int .i64 sd, .int .i64 sh, .int .i64 st, .int .i64 sa, .int .i64 sy, .bool sf, .int .i64 pf, .int .i64 pd, .int .i64 ps, .int .i64 pt, .int .i64 pa, .int .i64 py] 59)).heap.size 65 3 cellsO (.slice a2 cl.length c2) cl) => spoil_any cl (.slice a2 cl.length c2) _ U hU)
        rw [← hcle] at HV2
        clear z0 z1 z2 z3 z4 hcl hol hcle hsz0
        by_cases hnil : cl = []
        · subst hnil
          have HR3 : Hid (RunW w y1 b { S with ow := fun _ _ => 0 } F1 (.slice va ol.length vc) (ol ++ [])) := hide (by rw [List.append_nil]; exact unhide HR2)
          have NSP := hide (unhide NS0 y1 (unhide HZ0))
          have HSP := HV2
          clear hform
          have hvf : (va = none ∧ ol.length = 0 ∧ vc = 0) ∨ ∃ gv, va = some ⟨gv, 0, none⟩ ∧ ol.length ≤ vc := by
            rcases (unhide HR1).row.2 with ⟨e1, _⟩ | ⟨gv, cv, _, e1, _, _, e9, _⟩
            · injection e1 with e1 e2 e3
              exact .inl ⟨e1, e2, e3⟩
            · injection e1 with e1 e2 e3
              exact .inr ⟨gv, e1, by rw [e3]; exact e9⟩
          rcases hvf with ⟨rfl, hol0, rfl⟩ | ⟨gv, rfl, hvc⟩
          · obtain rfl : ol = [] := List.length_eq_zero_iff.1 hol0
            clear hol0
            cases a2 with
            | none =>
              cases rough
              · skip
                go_wp2
                go_roundw
                case rel => exact ⟨k + 1, _, F1, _, by omega, by go_num, HNX, unhide HR3⟩
                case measure => simp [intOf]; omega
              · skip
                go_wp2_with fail
                refine (unhide NSP).mono ?_
                rintro e y9 ⟨rfl, hy9⟩
                have HR9 := hide ((unhide HR3).spoilt hy9 (unhide HSP))
                clear hy9
                go_wp2
                go_roundw
                case rel => exact ⟨k + 1, _, F1, _, by omega, by go_num, HNX, unhide HR9⟩
                case measure => simp [intOf]; omega
            | some a =>
              cases rough
              · skip
                go_wp2
                go_roundw
                case rel => exact ⟨k + 1, _, F1, _, by omega, by go_num, HNX, unhide HR3⟩
                case measure => simp [intOf]; omega
              · skip
                go_wp2_with fail
                refine (unhide NSP).mono ?_
                rintro e y9 ⟨rfl, hy9⟩
                have HR9 := hide ((unhide HR3).spoilt hy9 (unhide HSP))
                clear hy9
                go_wp2
                go_roundw
                case rel => exact ⟨k + 1, _, F1, _, by omega, by go_num, HNX, unhide HR9⟩
                case measure => simp [intOf]; omega
          · skip
            cases a2 with
            | none =>
              cases rough
              · skip
                go_wp2
                go_roundw
                case rel => exact ⟨k + 1, _, F1, _, by omega, by go_num, HNX, unhide HR3⟩
                case measure => simp [intOf]; omega
              · skip
                go_wp2_with fail
                refine (unhide NSP).mono ?_
                rintro e y9 ⟨rfl, hy9⟩
                have HR9 := hide ((unhide HR3).spoilt hy9 (unhide HSP))
                clear hy9
                go_wp2
                go_roundw
                case rel => exact ⟨k + 1, _, F1, _, by omega, by go_num, HNX, unhide HR9⟩
                case measure => simp [intOf]; omega
            | some a =>
              cases rough
              · skip
                go_wp2
                go_roundw
                case rel => exact ⟨k + 1, _, F1, _, by omega, by go_num, HNX, unhide HR3⟩
                case measure => simp [intOf]; omega
              · skip
                go_wp2_with fail
                refine (unhide NSP).mono ?_
                rintro e y9 ⟨rfl, hy9⟩
                have HR9 := hide ((unhide HR3).spoilt hy9 (unhide HSP))
                clear hy9
                go_wp2
                go_roundw
                case rel => exact ⟨k + 1, _, F1, _, by omega, by go_num, HNX, unhide HR9⟩
                case measure => simp [intOf]; omega
        · rcases hform with hn | ⟨g2, c2', hv2, _, hg2l⟩
          · exact absurd hn hnil
          · injection hv2 with hv2a _ hv2c
            subst hv2a hv2c
            have HPOS := hide (List.length_pos_iff.2 hnil)
            have HNW : Hid (∀ j u, (rowC cellsO cl)[j]? = some u → y1.cell? ((⟨g2, 0, none⟩ : Addr).add j) = some u) := hide (by
              obtain ⟨ao', cap', he', hf'⟩ := RdR.of_own cellsO_len (unhide HZ0)
              injection he' with he1 _ he3
              rcases hf' with hn | ⟨b', off', h1', h2', h3'⟩
              · exact absurd hn hnil
              · rw [h1'] at he1
                injection he1 with he1
                injection he1 with he1 he2
                subst he1 he2
                exact rd_news cellsO_len h3')
            have HRL := hide (rowC_length (c := cellsO) cellsO_len cl)
            have HONE : Hid (∀ u ∈ rowC cellsO cl, u.oneCell' = true) := hide (rowC_cells (fun x u hu => by simp [cellsO] at hu; rcases hu with rfl | rfl | rfl <;> rfl) cl)
            have HB2 := hide ((unhide HR2).bel.size)
            have HKK : Hid (k ≤ 1048576) := hide (by have := unhide HLL; omega)
            clear hnil
            go_wp2_with (at_builtin; refine wpList_append_lies _ rfl _ _ 55 rfl w.heap.size 65 i0 (.agg #[.int .i64 0, .int .i64 0, .int .i64 0]) 3 24 Try.underlying55 (unhide HI) (unhide Z0) (unhide Z1) (unhide Z2) rfl (by decide) _ _ _ rfl (unhide HR2).row ⟨g2, 0, none⟩ cl.length c2 (rowC cellsO cl) rfl (unhide HRL) (unhide HNW) (unhide HONE) (unhide HPOS) ?c3 ?c4 (unhide HB2) y1.heap.size rfl ?_)
            case c3 => have := unhide HCL; have := unhide HOL; have := unhide HKK; unfold maxLen; omega
            case c4 => have := unhide HCL; have := unhide HOL; have := unhide HKK; omega
            intro g5 cap5 w5 own5 hgrow5 hat5 hlt5
            (try go_frame)
            have hR5 := (unhide HR2).more hgrow5 (by rw [List.length_append]) own5 hat5
            have hZ5 := (unhide HZ0).of_blockM (w' := w5) (fun x hx => hgrow5.block x (oRM (unhide HZ0) hx) (Ne.symm (unhide HV2 x hx).2.2))
            have NSP := hide (unhide NS0 w5 hZ5)
            have HSP : Hid (∀ x, (Value.slice (some ⟨g2, 0, none⟩) cl.length c2).ownBlock = some x → w.heap.size ≤ x ∧ ¬ F1 x ∧ (Value.slice (some ⟨g5, 0, none⟩) (ol.length + cl.length) cap5).ownBlock ≠ some x) := hide (fun x hx => by
              obtain ⟨h1, h2, h3⟩ := unhide HV2 x hx
              refine ⟨h1, h2, fun e => ?_⟩
              obtain rfl : g5 = x := Option.some.inj e
              rcases hat5 with e1 | e1
              · exact h3 e1
              · have := oRM (unhide HZ0) hx; omega)
            have HR3 := hide hR5
            clear own5 hgrow5 hat5 hlt5 hR5 hZ5
            cases rough
            · skip
              go_wp2
              go_roundw
              case rel => exact ⟨k + 1, _, F1, _, by omega, by go_num, HNX, unhide HR3⟩
              case measure => simp [intOf]; omega
            · skip
              go_wp2_with fail
              refine (unhide NSP).mono ?_
              rintro e y9 ⟨rfl, hy9⟩
              have HR9 := hide ((unhide HR3).spoilt hy9 (unhide HSP))
              clear hy9
              go_wp2
              go_roundw
              case rel => exact ⟨k + 1, _, F1, _, by omega, by go_num, HNX, unhide HR9⟩
              case measure => simp [intOf]; omega
      · have hke : k = l.length := by omega
        have HEQ : Hid (res = ol) := hide (by
          have := (unhide HE).1
          rw [hke, List.take_length] at this
          rw [unhide HRES, ← this])
        have HRW2 := hide hrw
        clear hrw hke
        go_wp2
        go_ret
        rw [unhide HEQ]
        exact ⟨⟨_, rfl, (unhide HRW2).row⟩, (unhide HRW2).bel⟩
end Go.Proofs.Ytadjbojlojnadaa
