/- Candidates of the reference: the walk. -/
import Derived.Test.YtlnoilfnpgogbaeRCan
import Derived.Test.YtlnoilfnpgogbaeQB
namespace Go.Proofs.Ytlnoilfnpgogbae
open Go.RowKit
set_option linter.unusedVariables false

theorem ownsRow_belowP {w w' : World} {base : Nat} {e : TypeId} {size : Nat} {v : Value} {n : Nat} {xs : List Value} (h : w.ownsRow base e size v n xs) (hb : Below w.heap.size w w') : w'.ownsRow base e size v n xs := by
  refine ⟨h.1, ?_⟩
  rcases h.2 with h0 | ⟨g, cap, cur, e1, e2, e3, e4⟩
  · exact .inl h0
  · exact .inr ⟨g, cap, cur, e1, e2, by rw [hb.block g (block_ltP e3)]; exact e3, e4⟩
theorem app_new1 (w : World) (x : XApp) (e : TypeId) (j : Nat) (u : Value) (h : (cellsA x)[j]? = some u) :
    (w.alloc (.cells #[.string x.name, .string x.label, .int .i64 x.prio, .bool x.confirm] e)).cell? ((⟨w.heap.size, 0, none⟩ : Addr).add j) = some u := by
  have hg := heap_alloc_new w (.cells #[.string x.name, .string x.label, .int .i64 x.prio, .bool x.confirm] e)
  rw [show (⟨w.heap.size, 0, none⟩ : Addr).add j = ⟨w.heap.size, 0 + j, none⟩ from by unfold Addr.add; split <;> simp_all, Nat.zero_add, cell_of_row _ _ j _ e _ hg]
  simpa [cellsA] using h
theorem ext_callR {W x y : World} (h : Below W.heap.size W x) (k : Below x.heap.size x y) : Below W.heap.size W y := h.trans (k.mono h.size)
set_option maxRecDepth 100000 in
set_option maxHeartbeats 8000000 in
theorem rcandidates_any (l : List XApp) (ao : Option Addr) (cap : Nat) (sh : List XKnown) (bo : Option Addr) (cap2 : Nat) (w : World) (hr : RowApp w ao l) (hs : RowKnown w bo sh) :
    Calls Try.prog 14 #[.slice ao l.length cap, .slice bo sh.length cap2] w fun e w' => (∃ v : Value, e = .returned (.tuple #[v, .int .i64 (candE l sh)]) ∧ AGiven w w' v (candS l sh)) ∧ Below w.heap.size w w' := by
  obtain ⟨i0, hi, hz0, hz1, hz2⟩ := info_parts infoApp
  have n1 := rapps_any l ao cap w hr
  have hS0 : candE l sh ≠ 0 → candS l sh = [] := fun h => by rw [candS, if_neg h]
  have HS0 := hide hS0
  clear hS0
  by_cases h1 : appsE l = 0
  case neg =>
    have he : candE l sh = appsE l := by rw [candE, if_pos h1]
    have hn' : (appsE l != 0) = true := by simpa using h1
    have HE := hide he; have HCS := hide (unhide HS0 (by omega))
    generalize appsE l = ke at *
    have N1 := hide n1
    clear n1 hr hs h1 he HS0
    go_enter Try.func14, Try.ntmps14
    go_wp2_with fail
    refine (unhide N1).mono ?_
    rintro e w1 ⟨rfl, b1⟩
    go_wp2
    go_ret2
    exact ⟨⟨_, by rw [unhide HE]; rfl, by rw [unhide HCS]; exact .inl ⟨rfl, none, 0, rfl⟩⟩, b1⟩
  have hE : candE l sh = knownE sh := by rw [candE, if_neg (by omega)]
  obtain ⟨h20, hx⟩ := appsE_zero h1
  rw [h1] at n1
  by_cases h50 : 50 < sh.length
  · have he : candE l sh = 2 := by rw [hE, knownE, if_pos h50]
    have HE := hide he; have HCS := hide (unhide HS0 (by omega))
    have N1 := hide n1
    have h50' : (50 : Int) < (sh.length : Int) := by omega
    clear n1 hr hs h1 he HS0 hE h50
    go_enter Try.func14, Try.ntmps14
    go_wp2_with fail
    refine (unhide N1).mono ?_
    rintro e w1 ⟨rfl, b1⟩
    go_wp2
    go_ret2
    exact ⟨⟨_, by rw [unhide HE]; rfl, by rw [unhide HCS]; exact .inl ⟨rfl, none, 0, rfl⟩⟩, b1⟩
  have h50' : (sh.length : Int) ≤ 50 := by omega
  have h20' : (l.length : Int) ≤ 20 := by omega
  obtain ⟨hr, _, _⟩ := hr
  obtain ⟨hs, _, _⟩ := hs
  have N1 := hide n1; have HR := hide hr; have HS := hide hs; have HEE := hide hE; have HX := hide hx; have HI := hide hi; have Z0 := hide hz0; have Z1 := hide hz1; have Z2 := hide hz2; have H50 := hide h50
  clear n1 hr hs hE hx hi hz0 hz1 hz2 h1 h50
  go_enter Try.func14, Try.ntmps14
  go_wp2_with fail
  refine (unhide N1).mono ?_
  rintro e w1 ⟨rfl, b1⟩
  clear N1
  go_wp2
  go_loopw [26] (fun i wr => ∃ k : Nat, k ≤ sh.length ∧ i = .int .i64 k ∧ Hid ((sh.take k).any knoB = false) ∧ Below w.heap.size w wr) (fun i _ => sh.length - (intOf i).toNat)
  case atStart => exact ⟨0, Nat.zero_le _, rfl, hide (by simp), b1⟩
  case round =>
    clear b1
    obtain ⟨k, hk, rfl, HK, hbw⟩ := hrel
    by_cases hlt : k < sh.length
    · obtain ⟨y, hy⟩ : ∃ y, sh[k]? = some y := ⟨_, List.getElem?_eq_getElem hlt⟩
      rcases (unhide HS) with hnil | ⟨b, off, rfl, hb, hc⟩
      · rw [hnil] at hlt; simp at hlt
      obtain ⟨c0, c1⟩ := hc k y hy
      have d0 : wr.cell? ⟨b, off + k * 2, none⟩ = _ := (hbw.cell (p := ⟨b, off + k * 2, none⟩) hb).trans c0
      have d1 : wr.cell? ⟨b, off + k * 2 + 1, none⟩ = _ := (hbw.cell (p := ⟨b, off + k * 2 + 1, none⟩) hb).trans c1
      have hst := anyP_take_succ sh knoB k y hy
      rw [unhide HK, Bool.false_or] at hst
      have hbA := fun o : Obj => hbw.alloc hbw.size o
      have HBA := hide hbA
      clear hc c0 c1 hy hbA hbw
      by_cases hkn : y.name.size = 0 ∨ 16 < y.name.size
      · have hall := anyP_of_take sh knoB (k + 1) (hst.trans (decide_eq_true hkn))
        have he : candE l sh = 1 := by rw [unhide HEE, knownE_yes (unhide H50) hall]
        have HE := hide he; have HCS := hide (unhide HS0 (by omega))
        clear hst hall he
        by_cases hz : (y.name.size : Int) < 1
        · clear hkn
          go_wp2
          go_ret2
          exact ⟨⟨_, by rw [unhide HE]; rfl, by rw [unhide HCS]; exact .inl ⟨rfl, none, 0, rfl⟩⟩, unhide HBA _⟩
        · have hz2 : (16 : Int) < (y.name.size : Int) := by omega
          clear hkn
          go_wp2
          go_ret2
          exact ⟨⟨_, by rw [unhide HE]; rfl, by rw [unhide HCS]; exact .inl ⟨rfl, none, 0, rfl⟩⟩, unhide HBA _⟩
      · have HST := hide (hst.trans (decide_eq_false hkn))
        have hz : ¬ (y.name.size : Int) < 1 := by omega
        have hz2 : ¬ (16 : Int) < (y.name.size : Int) := by omega
        clear hst hkn
        go_wp2
        go_roundw
        case rel => exact ⟨k + 1, by omega, by go_num, HST, unhide HBA _⟩
        case measure => simp [intOf]; omega
    · have hall : sh.any knoB = false := by have := unhide HK; rw [List.take_of_length_le (by omega)] at this; exact this
      have he : candE l sh = 0 := by rw [unhide HEE, knownE_no (unhide H50) hall]
      have HE := hide he
      have HCS : Hid (candS l sh = candL l sh) := hide (by rw [candS, if_pos he])
      clear hall he HK HS0 HEE H50
      have hBB := hbw
      go_wp2
      generalize wr = w0 at *
      go_loopw [9, 10] (fun v r wx => ∃ R : Nat, 1 ≤ R ∧ R ≤ 17 ∧ r = .int .i64 R ∧ wx.ownsRow w0.heap.size 31 4 v (gath l sh R 0).length (cellsL (gath l sh R 0)) ∧ Below w0.heap.size w0 wx) (fun _ r _ => 17 - (intOf r).toNat)
      case atStart => exact ⟨1, by omega, by omega, rfl, by rw [gath_zero]; exact World.ownsRow_nil _ _ _ _, Below.refl _ _⟩
      case round =>
        have HBB := hide hBB
        clear hbw hBB
        obtain ⟨R, hR1, hR17, rfl, hown, hbx⟩ := hrel
        by_cases hR : R ≤ 16
        · have hRd : decide ((R : Int) ≤ 16) = true := decide_eq_true (by omega)
          have HO0 := hide hown; have HBX0 := hide hbx
          clear hown hbx
          go_wp2
          go_loopw [9, 47] (fun v i wy => ∃ k : Nat, k ≤ l.length ∧ i = .int .i64 k ∧ wy.ownsRow w0.heap.size 31 4 v (gath l sh R k).length (cellsL (gath l sh R k)) ∧ Below w0.heap.size w0 wy) (fun _ i _ => l.length - (intOf i).toNat)
          case atStart => exact ⟨0, Nat.zero_le _, rfl, unhide HO0, unhide HBX0⟩
          case round =>
            clear HO0 HBX0
            obtain ⟨k, hk, rfl, hown, hbx⟩ := hrel
            by_cases hkl : k < l.length
            · obtain ⟨y, hy⟩ : ∃ y, l[k]? = some y := ⟨_, List.getElem?_eq_getElem hkl⟩
              rcases (unhide HR) with hnil | ⟨b, off, rfl, hb, hc⟩
              · rw [hnil] at hkl; simp at hkl
              obtain ⟨c0, c1, c2, c3⟩ := hc k y hy
              have hbz := (unhide HBB).trans (hbx.mono (unhide HBB).size)
              have d0 : wr.cell? ⟨b, off + k * 4, none⟩ = _ := (hbz.cell (p := ⟨b, off + k * 4, none⟩) hb).trans c0
              have d1 : wr.cell? ⟨b, off + k * 4 + 1, none⟩ = _ := (hbz.cell (p := ⟨b, off + k * 4 + 1, none⟩) hb).trans c1
              have d2 : wr.cell? ⟨b, off + k * 4 + 2, none⟩ = _ := (hbz.cell (p := ⟨b, off + k * 4 + 2, none⟩) hb).trans c2
              have d3 : wr.cell? ⟨b, off + k * 4 + 3, none⟩ = _ := (hbz.cell (p := ⟨b, off + k * 4 + 3, none⟩) hb).trans c3
              have hkd : decide ((k : Int) < (l.length : Int)) = true := decide_eq_true (by omega)
              have hst := gath_step l sh R k y hy
              obtain ⟨hy16, hy0, hy15⟩ := unhide HX y (List.mem_of_getElem? hy)
              have hrm := rank_mod y ⟨hy0, hy15⟩ R hR1 hR
              obtain ⟨W, hW⟩ : ∃ W, W = wr.alloc (.cells #[.string y.name, .string y.label, .int .i64 y.prio, .bool y.confirm] 31) := ⟨_, rfl⟩
              have q0 : ∀ w', Below W.heap.size W w' → w'.cell? ⟨wr.heap.size, 0, none⟩ = some (.string y.name) ∧ w'.cell? ⟨wr.heap.size, 1, none⟩ = some (.string y.label) ∧ w'.cell? ⟨wr.heap.size, 2, none⟩ = some (.int .i64 y.prio) ∧ w'.cell? ⟨wr.heap.size, 3, none⟩ = some (.bool y.confirm) := fun w' hb => by
                have hWs : W.heap.size = wr.heap.size + 1 := by rw [hW]; simp
                refine ⟨?_, ?_, ?_, ?_⟩ <;> (refine (hb.cell (by rw [hWs]; simp)).trans ?_; rw [hW, World.cell?_alloc_at _ _ _ _ (by simp)]; rfl)
              have hbW : Below w0.heap.size w0 W := by rw [hW]; exact hbx.alloc hbx.size _
              have hoW : W.ownsRow w0.heap.size 31 4 u9 (gath l sh R k).length (cellsL (gath l sh R k)) := by rw [hW]; exact hown.alloc _
              have HW := hide hW; have HQ0 := hide q0; have HBW := hide hbW; have HOW := hide hoW; have HST := hide hst; have HRM := hide hrm
              clear hc c0 c1 c2 c3 hbz hy hst hrm hW q0 hbW hoW hown hbx hy0 hy15
              go_wp2
              rw [← unhide HW]
              go_loopw [13, 53] (fun bt i wz => ∃ m : Nat, m ≤ sh.length ∧ i = .int .i64 m ∧ bt = .bool ((sh.take m).any (pB y.name.data.toList)) ∧ Below W.heap.size W wz) (fun _ i _ => sh.length - (intOf i).toNat)
              case atStart => exact ⟨0, Nat.zero_le _, rfl, rfl, Below.refl _ _⟩
              case round =>
                clear d0 d1 d2 d3
                obtain ⟨m, hm, rfl, rfl, hbz⟩ := hrel
                by_cases hml : m < sh.length
                · obtain ⟨x, hx⟩ : ∃ x, sh[m]? = some x := ⟨_, List.getElem?_eq_getElem hml⟩
                  rcases (unhide HS) with hnil | ⟨b2, off2, rfl, hb2, hc2⟩
                  · rw [hnil] at hml; simp at hml
                  obtain ⟨c0, c1⟩ := hc2 m x hx
                  have hbq := ext_callR (ext_callR (unhide HBB) (unhide HBW)) hbz
                  have e0 : wr.cell? ⟨b2, off2 + m * 2, none⟩ = _ := (hbq.cell (p := ⟨b2, off2 + m * 2, none⟩) hb2).trans c0
                  have e1 : wr.cell? ⟨b2, off2 + m * 2 + 1, none⟩ = _ := (hbq.cell (p := ⟨b2, off2 + m * 2 + 1, none⟩) hb2).trans c1
                  obtain ⟨q0, q1, q2, q3⟩ := unhide HQ0 wr hbz
                  have hs2 := anyP_take_succ sh (pB y.name.data.toList) m x hx
                  have hbA := fun o : Obj => hbz.alloc hbz.size o
                  have HBA := hide hbA
                  obtain ⟨V, hV⟩ : ∃ V, V = wr.alloc (.cells #[.string x.name, .bool x.part] 37) := ⟨_, rfl⟩
                  have r0 : V.cell? ⟨wr.heap.size, 0, none⟩ = some (.string x.name) := by rw [hV, World.cell?_alloc_at _ _ _ _ (by simp)]; rfl
                  have r1 : V.cell? ⟨wr.heap.size, 1, none⟩ = some (.bool x.part) := by rw [hV, World.cell?_alloc_at _ _ _ _ (by simp)]; rfl
                  have hbV : Below W.heap.size W V := by rw [hV]; exact hbA _
                  obtain ⟨s0, s1, s2, s3⟩ := unhide HQ0 V hbV
                  have HV := hide hV; have HBV := hide hbV
                  clear hc2 c0 c1 hbq hx hbA hbz q0 q1 q2 q3 hV hbV HBA
                  generalize (sh.take m).any (pB y.name.data.toList) = bt at *
                  cases bt with
                  | true =>
                    rw [Bool.true_or] at hs2
                    have HS2 := hide hs2
                    clear hs2
                    go_wp2_with fail
                    rw [← unhide HV]
                    clear e0 e1
                    go_quiet (fail)
                    go_wp2
                    go_roundw
                    case rel => exact ⟨m + 1, by omega, by go_num, by rw [unhide HS2], below_drewN (unhide HBV) _⟩
                    case measure => simp [intOf]; omega
                  | false =>
                  rw [Bool.false_or] at hs2
                  by_cases hxe : x.name = y.name
                  · have HS2 := hide (hs2.trans (pB_eq hxe))
                    have hte := text_eq hxe
                    clear hs2 hxe
                    go_wp2_with fail
                    rw [← unhide HV]
                    clear e0 e1
                    go_quiet (fail)
                    go_wp2
                    go_roundw
                    case rel => exact ⟨m + 1, by omega, by go_num, by rw [unhide HS2], below_drewN (unhide HBV) _⟩
                    case measure => simp [intOf]; omega
                  have htn := text_ne hxe
                  obtain ⟨xn, xp⟩ := x
                  simp only at e0 e1 hxe htn r0 r1 HV
                  cases xp with
                  | false =>
                    have HS2 := hide (hs2.trans (pB_nopart hxe rfl))
                    clear hs2 hxe
                    go_wp2_with fail
                    rw [← unhide HV]
                    clear e0 e1
                    go_quiet (fail)
                    go_wp2
                    go_roundw
                    case rel => exact ⟨m + 1, by omega, by go_num, by rw [unhide HS2], below_drewN (unhide HBV) _⟩
                    case measure => simp [intOf]; omega
                  | true =>
                  by_cases hle : xn.size ≤ y.name.size
                  · have hpq := pB_short (x := ⟨xn, true⟩) hxe rfl hle
                    simp only at hpq
                    have hli : (xn.size : Int) ≤ (y.name.size : Int) := by omega
                    have hsl := fun wx => run_slice_string_h (P := Try.prog) wx 9 y.name Try.underlying9 .i64 (xn.size : Int) (by omega) (by omega)
                    have HS2 := hide (hs2.trans hpq)
                    clear hs2 hxe hpq hle
                    go_wp2_with fail
                    rw [← unhide HV]
                    clear e0 e1
                    go_quiet (fail)
                    go_wp2
                    go_roundw
                    case rel => exact ⟨m + 1, by omega, by go_num, by rw [unhide HS2], below_drewN (unhide HBV) _⟩
                    case measure => simp [intOf]; omega
                  · have HS2 := hide (hs2.trans (pB_long (x := ⟨xn, true⟩) hxe hle))
                    have hli : decide (xn.size ≤ y.name.size) = false := decide_eq_false hle
                    clear hs2 hxe hle
                    go_wp2_with fail
                    rw [← unhide HV]
                    clear e0 e1
                    go_quiet (fail)
                    go_wp2
                    go_roundw
                    case rel => exact ⟨m + 1, by omega, by go_num, by rw [unhide HS2], below_drewN (unhide HBV) _⟩
                    case measure => simp [intOf]; omega
                · rw [List.take_of_length_le (by omega), ← bothB_any]
                  obtain ⟨q0, q1, q2, q3⟩ := unhide HQ0 wr hbz
                  have hst := unhide HST
                  have hrm := unhide HRM
                  have hmod : ((R % 16 : Nat) : Int) = (R : Int) % 16 := by omega
                  rw [hmod] at hrm
                  have hoz := ownsRow_belowP (unhide HOW) hbz
                  have hbk := ext_callR (unhide HBW) hbz
                  have hlen := gath_length l sh R k hR h20
                  have HOZ := hide hoz; have HBK := hide hbk
                  have hszk := hbk.size
                  clear hmod hoz hbk hbz
                  cases hbo : bothB sh y.name.data.toList with
                  | false =>
                    rw [hbo, Bool.false_and, cond_false, List.append_nil] at hst
                    have HST2 := hide hst
                    clear hst hrm hbo
                    go_wp2
                    go_roundw
                    case rel => exact ⟨k + 1, by omega, by go_num, by rw [unhide HST2]; exact unhide HOZ, unhide HBK⟩
                    case measure => simp [intOf]; omega
                  | true =>
                  rw [hbo, Bool.true_and, ← hrm] at hst
                  generalize hpe : (y.prio == (R : Int) % 16) = pe at *
                  cases pe with
                  | false =>
                    rw [cond_false, List.append_nil] at hst
                    have HST2 := hide hst
                    clear hst hrm hbo
                    go_wp2
                    go_roundw
                    case rel => exact ⟨k + 1, by omega, by go_num, by rw [unhide HST2]; exact unhide HOZ, unhide HBK⟩
                    case measure => simp [intOf]; omega
                  | true =>
                    rw [cond_true] at hst
                    have HST2 := hide hst
                    have hown4 := (unhide HOZ).alloc (.cells #[.string y.name, .string y.label, .int .i64 y.prio, .bool y.confirm] 31)
                    have hlt4 : ∀ q', u9.ownBlock = some q' → w0.heap.size ≤ q' := fun q' h => ((unhide HOZ).lt q' h).1
                    have H4 := hide hown4; have HL4 := hide hlt4
                    clear hst hrm hbo hown4 hlt4
                    generalize gath l sh R k = F at *
                    go_wp2_with (at_builtin; refine wpList_append_own _ rfl _ _ 22 rfl w0.heap.size 31 i0 (.agg #[.string ⟨#[]⟩, .string ⟨#[]⟩, .int .i64 0, .bool false]) 4 48 Try.underlying22 (unhide HI) (unhide Z0) (unhide Z1) (unhide Z2) rfl (by decide) _ _ _ rfl (unhide H4) ⟨wr.heap.size, 0, none⟩ 1 1 (cellsA y) rfl rfl (fun j u hu => app_new1 wr y _ j u hu) ?c2 ?c3 ?c4 ?c5 ?_)
                    case c2 => intro u hu; simp [cellsA] at hu; rcases hu with rfl | rfl | rfl | rfl <;> rfl
                    case c3 => unfold maxLen; omega
                    case c4 => omega
                    case c5 => simp; omega
                    intro v' w5 hown' hgrow _
                    have hb5 : Below w0.heap.size w0 w5 := ((unhide HBK).alloc hszk _).grown hgrow (by simp; omega) (fun q hq => unhide HL4 q hq)
                    have hown5 : w5.ownsRow w0.heap.size 31 4 v' (F ++ [y]).length (cellsL (F ++ [y])) := by
                      rw [cellsL_snoc, List.length_append]
                      exact hown'
                    have H5 := hide hown5; have HB5 := hide hb5
                    clear hown' hgrow hown5 hb5 H4 HL4
                    go_wp2
                    go_roundw
                    case rel => exact ⟨k + 1, by omega, by go_num, by rw [unhide HST2]; exact unhide H5, unhide HB5⟩
                    case measure => simp [intOf]; omega
            · rw [show k = l.length by omega] at hown
              rw [gath_end l sh R hR1] at hown
              have HO := hide hown
              clear hown
              go_wp2
              go_roundw
              case rel => exact ⟨R + 1, by omega, by omega, by go_num, unhide HO, hbx⟩
              case measure => simp [intOf]; omega
        · have hRd : decide ((R : Int) ≤ 16) = false := decide_eq_false (by omega)
          have hR' : R = 17 := by omega
          rw [gath_zero, hR'] at hown
          have hcl : passes (candF l sh) 1 (17 - 1) = candL l sh := rfl
          rw [hcl] at hown
          have hbz := (unhide HBB).trans (hbx.mono (unhide HBB).size)
          have hgw := (unhide HBB).size
          have hgv : AGiven w wr u9 (candS l sh) := by
            rw [unhide HCS]
            rcases arow_of_own hown with ⟨hF, ao', cap', hv⟩ | ⟨g, cap', hv, hg, h1, hA⟩
            · exact .inl ⟨hF, ao', cap', hv⟩
            · exact .inr ⟨g, cap', hv, by omega, hA⟩
          have HGV := hide hgv; have HBZ := hide hbz
          clear hgv hbz hown hcl hR' hbx
          go_wp2
          go_ret2
          exact ⟨⟨_, by rw [unhide HE]; rfl, unhide HGV⟩, unhide HBZ⟩
end Go.Proofs.Ytlnoilfnpgogbae
