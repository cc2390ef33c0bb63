/- What rests in memory: the law. -/
import Derived.Test.YtadjbojlojnadaaRmC
import Derived.Test.YtadjbojlojnadaaWalkAll
import Derived.Test.YtadjbojlojnadaaJudAll
import Derived.Deep.RegionHeld3
namespace Go.Proofs.Ytadjbojlojnadaa
open Go.RowKit
set_option linter.unusedVariables false
set_option linter.unusedSimpArgs false
set_option maxRecDepth 100000

set_option maxHeartbeats 2000000 in
theorem sameO_any (L : List Ow) (u v : Value) (w : World) (hg : RdR w 3 cellsO u L) (hh : RdR w 3 cellsO v L) (hl : (L.length : Int) ≤ 900000000000000) :
    Calls Try.prog 19 #[u, v] w fun e w' => e = .returned (.bool true) ∧ Below w.heap.size w w' := by
  obtain ⟨ua, uc, rfl, fu⟩ := hg
  obtain ⟨va, vc, rfl, fv⟩ := hh
  have FU := hide fu; have FV := hide fv
  clear fu fv
  go_enter Try.func19, Try.ntmps19
  go_wp2
  go_loopw [13] (fun i wr => ∃ k : Nat, k ≤ L.length ∧ i = .int .i64 k ∧ ∃ q, wr = w.drewN q) (fun i _ => L.length - (intOf i).toNat)
  case atStart => exact ⟨0, Nat.zero_le _, rfl, 0, rfl⟩
  case round =>
    obtain ⟨k, hk, rfl, q, rfl⟩ := hrel
    by_cases hlt : k < L.length
    · obtain ⟨x, hx⟩ : ∃ s, L[k]? = some s := ⟨_, List.getElem?_eq_getElem hlt⟩
      rcases unhide FU with hn | ⟨b1, o1, rfl, _, hc1⟩
      · rw [hn] at hlt; simp at hlt
      rcases unhide FV with hn | ⟨b2, o2, rfl, _, hc2⟩
      · rw [hn] at hlt; simp at hlt
      have c0 : w.cell? ⟨b1, o1 + k * 3, none⟩ = some (.int .i64 x.a) := hc1 k x hx 0 (by omega)
      have d0 : w.cell? ⟨b2, o2 + k * 3, none⟩ = some (.int .i64 x.a) := hc2 k x hx 0 (by omega)
      have c1 : w.cell? ⟨b1, o1 + k * 3 + 1, none⟩ = some (.int .i64 x.b) := hc1 k x hx 1 (by omega)
      have d1 : w.cell? ⟨b2, o2 + k * 3 + 1, none⟩ = some (.int .i64 x.b) := hc2 k x hx 1 (by omega)
      have c2 : w.cell? ⟨b1, o1 + k * 3 + 2, none⟩ = some (.int .i64 x.n) := hc1 k x hx 2 (by omega)
      have d2 : w.cell? ⟨b2, o2 + k * 3 + 2, none⟩ = some (.int .i64 x.n) := hc2 k x hx 2 (by omega)
      have hki : (k : Int) < (L.length : Int) := by omega
      clear hx hc1 hc2
      go_wp2_with fail
      go_quiet (fail)
      go_wp2
      go_roundw
      case rel => exact ⟨k + 1, by omega, by go_num, _, rfl⟩
      case measure => simp [intOf]; omega
    · go_wp2
      go_ret
      exact ⟨rfl, below_drewN (Below.refl _ _) _⟩
theorem runStep_len (st : Clr × List Ow) (s : XStep) : (runStep st s).2.length ≤ st.2.length + 10000 := by
  unfold runStep
  split
  · show st.2.length ≤ _; omega
  · split
    · show st.2.length ≤ _; omega
    · show (st.2 ++ cutL st.1.ow).length ≤ _
      have := cutL_lenM st.1.ow
      rw [List.length_append]; omega
theorem runFold_len (l : List XStep) : ∀ st : Clr × List Ow, (l.foldl runStep st).2.length ≤ st.2.length + 10000 * l.length := by
  induction l with
  | nil => intro st; simp
  | cons s l ih =>
    intro st
    have h1 := ih (runStep st s)
    have h2 := runStep_len st s
    rw [List.foldl_cons, List.length_cons]
    omega
theorem runL_len (l : List XStep) (h : l.length ≤ 1048576) : ((runL l).2.length : Int) ≤ 900000000000000 := by
  have := runFold_len l (newS ⟨5, 5, 5, 3⟩, [])
  have h2 : (runL l).2.length ≤ 10000 * l.length := by unfold runL; simpa using this
  omega

def boxW (v : XWays) : Obj := .cells #[.int .i64 v.x, .int .i64 v.y, .slice v.listo v.list.length v.listc] 24
def boxS (s : XScene) : Obj := .cells #[.int .i64 s.amount, .bool s.cash, .slice s.ableo s.able.length s.ablec, .slice s.wello s.well.length s.wellc] 27
def boxK (r : XRisk) : Obj := .cells #[.int .i64 r.floor, .int .i64 r.frm, .int .i64 r.share, .int .i64 r.most, .int .i64 r.lower, .int .i64 r.upper, .slice r.blacko r.black.length r.blackc] 30
/-- what the law laid down, in blocks of its own -/
structure MemB (w' : World) (n : Nat) (v : XWays) (s : XScene) (k : XRisk) (u : Value) : Prop where
  a : w'.heap[n]? = some (boxW v)
  b : w'.heap[n + 1]? = some (boxS s)
  c : w'.heap[n + 1 + 1]? = some (boxK k)
  d : w'.heap[n + 1 + 1 + 1]? = some (.cells #[u] 31)
theorem ltM {w : World} {g : Nat} {o : Obj} (h : w.heap[g]? = some o) : g < w.heap.size := by
  rcases Nat.lt_or_ge g w.heap.size with h1 | h1
  · exact h1
  · rw [Array.getElem?_eq_none h1] at h
    cases h
theorem MemB.below {w' w'' : World} {n : Nat} {v : XWays} {s : XScene} {k : XRisk} {u : Value} (h : MemB w' n v s k u) (hb : Below w'.heap.size w' w'') : MemB w'' n v s k u :=
  ⟨(hb.block _ (ltM h.a)).trans h.a, (hb.block _ (ltM h.b)).trans h.b, (hb.block _ (ltM h.c)).trans h.c, (hb.block _ (ltM h.d)).trans h.d⟩
theorem MemB.mk0 (w : World) (v : XWays) (s : XScene) (k : XRisk) (u : Value) : MemB ((((w.alloc (boxW v)).alloc (boxS s)).alloc (boxK k)).alloc (.cells #[u] 31)) w.heap.size v s k u := by
  refine ⟨?_, ?_, ?_, ?_⟩
  · rw [heap_past _ _ _ (by simp; omega), heap_past _ _ _ (by simp; omega), heap_past _ _ _ (by simp), heap_at _ _ _ rfl]
  · rw [heap_past _ _ _ (by simp), heap_past _ _ _ (by simp), heap_at _ _ _ (by simp)]
  · rw [heap_past _ _ _ (by simp), heap_at _ _ _ (by simp)]
  · rw [heap_at _ _ _ (by simp)]
theorem MemB.cW {w' : World} {n : Nat} {v : XWays} {s : XScene} {k : XRisk} {u : Value} (h : MemB w' n v s k u) : w'.cell? ⟨n, 0, none⟩ = some (.int .i64 v.x) ∧ w'.cell? ⟨n, 1, none⟩ = some (.int .i64 v.y) ∧ w'.cell? ⟨n, 2, none⟩ = some (.slice v.listo v.list.length v.listc) :=
  ⟨cell_of_row _ _ _ _ _ _ h.a, cell_of_row _ _ _ _ _ _ h.a, cell_of_row _ _ _ _ _ _ h.a⟩
theorem MemB.cS {w' : World} {n : Nat} {v : XWays} {s : XScene} {k : XRisk} {u : Value} (h : MemB w' n v s k u) : w'.cell? ⟨n + 1, 0, none⟩ = some (.int .i64 s.amount) ∧ w'.cell? ⟨n + 1, 1, none⟩ = some (.bool s.cash) ∧ w'.cell? ⟨n + 1, 2, none⟩ = some (.slice s.ableo s.able.length s.ablec) ∧ w'.cell? ⟨n + 1, 3, none⟩ = some (.slice s.wello s.well.length s.wellc) :=
  ⟨cell_of_row _ _ _ _ _ _ h.b, cell_of_row _ _ _ _ _ _ h.b, cell_of_row _ _ _ _ _ _ h.b, cell_of_row _ _ _ _ _ _ h.b⟩
theorem MemB.cK {w' : World} {n : Nat} {v : XWays} {s : XScene} {r : XRisk} {u : Value} (h : MemB w' n v s r u) : w'.cell? ⟨n + 1 + 1, 0, none⟩ = some (.int .i64 r.floor) ∧ w'.cell? ⟨n + 1 + 1, 1, none⟩ = some (.int .i64 r.frm) ∧ w'.cell? ⟨n + 1 + 1, 2, none⟩ = some (.int .i64 r.share) ∧ w'.cell? ⟨n + 1 + 1, 3, none⟩ = some (.int .i64 r.most) ∧ w'.cell? ⟨n + 1 + 1, 4, none⟩ = some (.int .i64 r.lower) ∧ w'.cell? ⟨n + 1 + 1, 5, none⟩ = some (.int .i64 r.upper) ∧ w'.cell? ⟨n + 1 + 1, 6, none⟩ = some (.slice r.blacko r.black.length r.blackc) :=
  ⟨cell_of_row _ _ _ _ _ _ h.c, cell_of_row _ _ _ _ _ _ h.c, cell_of_row _ _ _ _ _ _ h.c, cell_of_row _ _ _ _ _ _ h.c, cell_of_row _ _ _ _ _ _ h.c, cell_of_row _ _ _ _ _ _ h.c, cell_of_row _ _ _ _ _ _ h.c⟩
theorem MemB.cX {w' : World} {n : Nat} {v : XWays} {s : XScene} {k : XRisk} {u : Value} (h : MemB w' n v s k u) : w'.cell? ⟨n + 1 + 1 + 1, 0, none⟩ = some u := cell_of_row _ _ _ _ _ _ h.d
theorem OwnR.upM {α : Type} {w w' : World} {base : Nat} {e : TypeId} {m : Nat} {c : α → List Value} {v : Value} {l : List α} (h : OwnR w base e m c v l) (hb : Below w.heap.size w w') : OwnR w' base e m c v l := h.of_blockM (fun x hx => hb.block x (h.lt x hx).2)

set_option maxHeartbeats 4000000 in
theorem walkRM (v : XWays) (s : XScene) (k : XRisk) (l : List XStep) (ao : Option Addr) (cap : Nat) (w : World)
    (hr : RowWay w v.listo v.list) (hra : Rowint w s.ableo s.able) (hrw : Rowint w s.wello s.well) (hrb : Rowstring w k.blacko k.black) (hst : RowStep w ao l)
    (h1 : v.list.length ≤ 1048576) (h2 : s.able.length ≤ 1048576) (h3 : s.well.length ≤ 1048576) (h4 : k.black.length ≤ 1048576) (h5 : l.length ≤ 1048576) :
    Calls Try.prog 3 #[valWays v, valScene s, valRisk k, .slice ao l.length cap] w fun e w' => e = .returned (.bool true) ∧ Below w.heap.size w w' := by
  have NC1 := hide (fun w' (hb : Below w.heap.size w w') => cloneW_any v.list _ w' (rd_way (cap := v.listc) (hr.below hb)) h1)
  have NC2 := hide (fun w' (hb : Below w.heap.size w w') => cloneI_any s.able _ w' (rd_int (cap := s.ablec) (hra.below hb)) h2)
  have NC3 := hide (fun w' (hb : Below w.heap.size w w') => cloneI_any s.well _ w' (rd_int (cap := s.wellc) (hrw.below hb)) h3)
  have NC4 := hide (fun w' (hb : Below w.heap.size w w') => cloneS_any k.black _ w' (rd_str (cap := k.blackc) (hrb.below hb)) h4)
  have NW := hide (fun w' (hb : Below w.heap.size w w') => walk_any v s w' (hr.below hb) (hra.below hb) (hrw.below hb))
  have NJ := hide (fun w' (hb : Below w.heap.size w w') => judge_any k ⟨⟨#[]⟩, 0, 0, 0, 0, 1⟩ w' (hrb.below hb))
  have NK := hide (fun w' (hb : Below w.heap.size w w') => checkWays_any v w' (hr.below hb))
  have NS1 := hide (fun w' (hb : Below w.heap.size w w') u (hu : RdR w' 3 cW u v.list) => sameW_any v.list _ u w' (rd_way (cap := v.listc) (hr.below hb)) hu (by omega))
  have NS2 := hide (fun w' (hb : Below w.heap.size w w') u (hu : RdR w' 1 cI u s.able) => sameI_any s.able _ u w' (rd_int (cap := s.ablec) (hra.below hb)) hu (by omega))
  have NS3 := hide (fun w' (hb : Below w.heap.size w w') u (hu : RdR w' 1 cI u s.well) => sameI_any s.well _ u w' (rd_int (cap := s.wellc) (hrw.below hb)) hu (by omega))
  have NS4 := hide (fun w' (hb : Below w.heap.size w w') u (hu : RdR w' 1 cS u k.black) => sameS_any k.black _ u w' (rd_str (cap := k.blackc) (hrb.below hb)) hu (by omega))
  have NR := hide (fun rough sx w' (hb : Below w.heap.size w w') (hbx : w'.cell? ⟨sx, 0, none⟩ = some (.slice ao l.length cap)) (hsx : sx < w'.heap.size) => run_any rough l ao cap sx w' hbx hsx (hst.below hb) h5)
  have HLEN := hide (runL_len l h5)
  obtain ⟨res, hres⟩ : ∃ res, res = (runL l).2 := ⟨_, rfl⟩
  rw [← hres] at HLEN NR
  have NSO := hide (fun w' u u' (h1 : RdR w' 3 cellsO u res) (h2 : RdR w' 3 cellsO u' res) => sameO_any res u u' w' h1 h2 (unhide HLEN))
  have HM := hide (MemB.mk0 w v s k (.slice ao l.length cap))
  have HB0 : Hid (Below w.heap.size w ((((w.alloc (boxW v)).alloc (boxS s)).alloc (boxK k)).alloc (.cells #[.slice ao l.length cap] 31))) := hide (((((Below.refl _ _).alloc (Nat.le_refl _) _).alloc (by simp) _).alloc (by simp; omega) _).alloc (by simp; omega) _)
  unfold boxW boxS boxK at HM HB0
  clear hr hra hrw hrb hst h1 h2 h3 h4 h5 hres
  unfold valWays valScene valRisk valSeen valWalked at *
  dsimp only at *
  go_enter Try.func3, Try.ntmps3
  go_wp2_with fail
  generalize (((w.alloc _).alloc _).alloc _).alloc _ = x0 at *
  have hS : ∀ w', Below x0.heap.size x0 w' → (w'.cell? ⟨w.heap.size, 2, none⟩ = some (.slice v.listo v.list.length v.listc) ∧ w'.cell? ⟨w.heap.size + 1, 2, none⟩ = some (.slice s.ableo s.able.length s.ablec) ∧ w'.cell? ⟨w.heap.size + 1, 3, none⟩ = some (.slice s.wello s.well.length s.wellc) ∧ w'.cell? ⟨w.heap.size + 1 + 1, 6, none⟩ = some (.slice k.blacko k.black.length k.blackc)) := fun w' hb =>
    ⟨((unhide HM).below hb).cW.2.2, ((unhide HM).below hb).cS.2.2.1, ((unhide HM).below hb).cS.2.2.2, ((unhide HM).below hb).cK.2.2.2.2.2.2⟩
  have HUP : Hid (∀ w', Below x0.heap.size x0 w' → Below w.heap.size w w') := hide (fun w' hb => (unhide HB0).trans (hb.mono (unhide HB0).size))
  go_region_held3 (fun w' => w'.cell? ⟨w.heap.size, 2, none⟩ = some (.slice v.listo v.list.length v.listc) ∧ w'.cell? ⟨w.heap.size + 1, 2, none⟩ = some (.slice s.ableo s.able.length s.ablec) ∧ w'.cell? ⟨w.heap.size + 1, 3, none⟩ = some (.slice s.wello s.well.length s.wellc) ∧ w'.cell? ⟨w.heap.size + 1 + 1, 6, none⟩ = some (.slice k.blacko k.black.length k.blackc))
    (first
      | exact hS _ (Below.refl _ _)
      | exact hS _ (Below.refl _ _).drew
      | exact hs1
      | exact hs2
      | exact hs3
      | exact hs4
      | fail)
    ((first
      | (go_at_call 4; refine (unhide NC1 _ (unhide HUP _ (Below.refl _ _).drew)).mono ?_; rintro e y1 ⟨⟨u1, rfl, ho1⟩, hy⟩; have hy1 : Below x0.heap.size x0 y1 := (Below.refl _ _).drew.trans hy; have HO1 := hide ho1; have hs1 := hS _ hy1; clear ho1 hy)
      | (go_at_call 5; refine (unhide NC2 _ (unhide HUP _ hy1)).mono ?_; rintro e y2 ⟨⟨u2, rfl, ho2⟩, hy⟩; have hy2 : Below x0.heap.size x0 y2 := hy1.trans (hy.mono hy1.size); have HO2 := hide ho2; replace HO1 := hide ((unhide HO1).upM hy); have hs2 := hS _ hy2; clear ho2 hy)
      | (go_at_call 5; refine (unhide NC3 _ (unhide HUP _ hy2)).mono ?_; rintro e y3 ⟨⟨u3, rfl, ho3⟩, hy⟩; have hy3 : Below x0.heap.size x0 y3 := hy2.trans (hy.mono hy2.size); have HO3 := hide ho3; replace HO1 := hide ((unhide HO1).upM hy); replace HO2 := hide ((unhide HO2).upM hy); have hs3 := hS _ hy3; clear ho3 hy)
      | (go_at_call 6; refine (unhide NC4 _ (unhide HUP _ hy3)).mono ?_; rintro e y4 ⟨⟨u4, rfl, ho4⟩, hy⟩; have hy4 : Below x0.heap.size x0 y4 := hy3.trans (hy.mono hy3.size); have HO4 := hide ho4; replace HO1 := hide ((unhide HO1).upM hy); replace HO2 := hide ((unhide HO2).upM hy); replace HO3 := hide ((unhide HO3).upM hy); have hs4 := hS _ hy4; clear ho4 hy)
      | fail))
  clear hs1 hs2 hs3 hs4 hS hy1 hy2 hy3 NC1 NC2 NC3 NC4
  obtain ⟨c0, c1, c2⟩ := ((unhide HM).below hy4).cW
  obtain ⟨d0, d1, d2, d3⟩ := ((unhide HM).below hy4).cS
  go_wp2_with fail
  refine (unhide NW _ (unhide HUP _ hy4)).mono ?_
  rintro e y5 ⟨rfl, hy⟩
  have hy5 : Below x0.heap.size x0 y5 := hy4.trans (hy.mono hy4.size)
  replace HO1 := hide ((unhide HO1).upM hy); replace HO2 := hide ((unhide HO2).upM hy); replace HO3 := hide ((unhide HO3).upM hy); replace HO4 := hide ((unhide HO4).upM hy)
  clear c0 c1 c2 d0 d1 d2 d3 hy hy4 NW
  obtain ⟨c0, c1, c2, c3, c4, c5, c6⟩ := ((unhide HM).below hy5).cK
  go_wp2_with fail
  refine (unhide NJ _ (unhide HUP _ hy5)).mono ?_
  rintro e y6 ⟨rfl, hy⟩
  have hy6 : Below x0.heap.size x0 y6 := hy5.trans (hy.mono hy5.size)
  replace HO1 := hide ((unhide HO1).upM hy); replace HO2 := hide ((unhide HO2).upM hy); replace HO3 := hide ((unhide HO3).upM hy); replace HO4 := hide ((unhide HO4).upM hy)
  clear c0 c1 c2 c3 c4 c5 c6 hy hy5 NJ
  obtain ⟨c0, c1, c2⟩ := ((unhide HM).below hy6).cW
  go_wp2_with fail
  refine (unhide NK _ (unhide HUP _ hy6)).mono ?_
  rintro e y7 ⟨rfl, hy⟩
  have hy7 : Below x0.heap.size x0 y7 := hy6.trans (hy.mono hy6.size)
  replace HO1 := hide ((unhide HO1).upM hy); replace HO2 := hide ((unhide HO2).upM hy); replace HO3 := hide ((unhide HO3).upM hy); replace HO4 := hide ((unhide HO4).upM hy)
  clear c0 c1 c2 hy hy6 NK
  obtain ⟨c0, c1, c2⟩ := ((unhide HM).below hy7).cW
  go_wp2_with fail
  refine (unhide NS1 _ (unhide HUP _ hy7) _ (RdR.of_own cW_len (unhide HO1))).mono ?_
  rintro e y8 ⟨rfl, hy⟩
  have hy8 : Below x0.heap.size x0 y8 := hy7.trans (hy.mono hy7.size)
  replace HO1 := hide ((unhide HO1).upM hy); replace HO2 := hide ((unhide HO2).upM hy); replace HO3 := hide ((unhide HO3).upM hy); replace HO4 := hide ((unhide HO4).upM hy)
  clear c0 c1 c2 hy hy7 NS1
  obtain ⟨c0, c1, c2, c3⟩ := ((unhide HM).below hy8).cS
  go_wp2_with fail
  refine (unhide NS2 _ (unhide HUP _ hy8) _ (RdR.of_own cI_len (unhide HO2))).mono ?_
  rintro e y9 ⟨rfl, hy⟩
  have hy9 : Below x0.heap.size x0 y9 := hy8.trans (hy.mono hy8.size)
  replace HO1 := hide ((unhide HO1).upM hy); replace HO2 := hide ((unhide HO2).upM hy); replace HO3 := hide ((unhide HO3).upM hy); replace HO4 := hide ((unhide HO4).upM hy)
  clear c0 c1 c2 c3 hy hy8 NS2
  obtain ⟨c0, c1, c2, c3⟩ := ((unhide HM).below hy9).cS
  go_wp2_with fail
  refine (unhide NS3 _ (unhide HUP _ hy9) _ (RdR.of_own cI_len (unhide HO3))).mono ?_
  rintro e y10 ⟨rfl, hy⟩
  have hy10 : Below x0.heap.size x0 y10 := hy9.trans (hy.mono hy9.size)
  replace HO1 := hide ((unhide HO1).upM hy); replace HO2 := hide ((unhide HO2).upM hy); replace HO3 := hide ((unhide HO3).upM hy); replace HO4 := hide ((unhide HO4).upM hy)
  clear c0 c1 c2 c3 hy hy9 NS3
  obtain ⟨c0, c1, c2, c3, c4, c5, c6⟩ := ((unhide HM).below hy10).cK
  go_wp2_with fail
  refine (unhide NS4 _ (unhide HUP _ hy10) _ (RdR.of_own cS_len (unhide HO4))).mono ?_
  rintro e y11 ⟨rfl, hy⟩
  have hy11 : Below x0.heap.size x0 y11 := hy10.trans (hy.mono hy10.size)
  replace HO1 := hide ((unhide HO1).upM hy); replace HO2 := hide ((unhide HO2).upM hy); replace HO3 := hide ((unhide HO3).upM hy); replace HO4 := hide ((unhide HO4).upM hy)
  clear c0 c1 c2 c3 c4 c5 c6 hy hy10 NS4
  clear HO1 HO2 HO3 HO4
  have NN := hide (new_any ⟨5, 5, 5, 3⟩ y11)
  unfold dysV at NN
  dsimp only at NN
  go_wp2_with fail
  refine (unhide NN).mono ?_
  rintro e y12 (⟨hbad, _, _⟩ | ⟨_, b, F0, rfl, _, hy, _⟩)
  · exact absurd hbad (by decide)
  have hy12 : Below x0.heap.size x0 y12 := hy11.trans (hy.mono hy11.size)
  clear hy hy11 NN
  have hbx := ((unhide HM).below hy12).cX
  have hlx := ltM ((unhide HM).below hy12).d
  go_wp2_with fail
  refine (unhide NR false _ _ (unhide HUP _ hy12) hbx hlx).mono ?_
  rintro e y13 ⟨⟨r1, rfl, ho1⟩, hy⟩
  have hy13 : Below x0.heap.size x0 y13 := hy12.trans (hy.mono hy12.size)
  have HO1 := hide ho1
  clear hy hy12 hbx hlx ho1
  have hbx := ((unhide HM).below hy13).cX
  have hlx := ltM ((unhide HM).below hy13).d
  go_wp2_with fail
  refine (unhide NR true _ _ (unhide HUP _ hy13) hbx hlx).mono ?_
  rintro e y14 ⟨⟨r2, rfl, ho2⟩, hy⟩
  have hy14 : Below x0.heap.size x0 y14 := hy13.trans (hy.mono hy13.size)
  have HO2 := hide ho2
  replace HO1 := hide ((unhide HO1).upM hy)
  clear hy hy13 hbx hlx ho2
  go_wp2_with fail
  refine (unhide NSO _ _ _ (RdR.of_own cellsO_len (unhide HO1)) (RdR.of_own cellsO_len (unhide HO2))).mono ?_
  rintro e y15 ⟨rfl, hy⟩
  have HE := hide (unhide HUP _ (hy14.trans (hy.mono hy14.size)))
  clear hy hy14
  go_wp2
  go_ret
  exact ⟨rfl, unhide HE⟩
end Go.Proofs.Ytadjbojlojnadaa
