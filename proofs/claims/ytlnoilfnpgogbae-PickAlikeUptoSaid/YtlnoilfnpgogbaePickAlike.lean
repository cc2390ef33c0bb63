/- For all applications and everything that a shop knows, of bulk at most 1048576, and every number: in which order a shop knows applications, and how often, makes no difference to Candidates of the program; each candidate is the card's, none stands twice, and none stands ahead of a better one. -/
import Derived.Test.YtlnoilfnpgogbaePAlkW
import Derived.Test.YtlnoilfnpgogbaeRows
import Derived.WalkKit
import Derived.ProofKit
import Derived.OpenShut
import Derived.ShutString
import Derived.ChangeOld
import Derived.Below
namespace Go.Proofs.Ytlnoilfnpgogbae
open Go.ChangeShapes Go.WideShapes Go.ChangeAt Go.RowKit
open Go.ChangeMaps (open_string shut_string)
set_option linter.unusedVariables false




theorem and_one (x : Int) : ∃ c : Nat, c ≤ 1 ∧ bits .and .i64 x 1 = (c : Int) := by
  have hlt : (BitVec.ofInt 64 x &&& BitVec.ofInt 64 1).toNat ≤ 1 := by
    rw [BitVec.toNat_and]
    exact Nat.le_trans Nat.and_le_right (by decide)
  refine ⟨(BitVec.ofInt 64 x &&& BitVec.ofInt 64 1).toNat, hlt, ?_⟩
  simp only [bits]
  exact wraps_i64 _ (by omega) (Int.lt_of_lt_of_le (Int.ofNat_lt.2 (Nat.lt_succ_of_le hlt)) (by decide))
theorem bulk_pos {H : Type} (d : DataW H) : 1 ≤ Rows.uptoBulk d := by
  cases d with
  | lit x => cases x <;> simp [Rows.uptoBulk]
  | _ => simp [Rows.uptoBulk]
theorem bulkAll_length {H : Type} {es : List (DataW H)} : es.length ≤ Rows.uptoBulkAll es := by
  induction es with
  | nil => simp
  | cons d r ih =>
    have := bulk_pos d
    simp only [Rows.uptoBulkAll, List.length_cons]
    omega

set_option maxRecDepth 100000 in
set_option maxHeartbeats 8000000 in
theorem walkPickAlike (l : List XApp) (ao : Option Addr) (cap : Nat) (sh : List XKnown) (bo : Option Addr) (cap2 : Nat) (kk : Int) (w : World) (hr : RowApp w ao l) (hb0 : l.length ≤ 1048576) (hs : RowKnown w bo sh) (hb1 : sh.length ≤ 1048576) (hkk : -9223372036854775808 ≤ kk ∧ kk ≤ 9223372036854775807) :
    Calls Try.prog 6 #[.slice ao l.length cap, .slice bo sh.length cap2, .int .i64 kk] w fun e w' => e = .returned (.bool true) ∧ Below w.heap.size w w' := by
  obtain ⟨i0, hi, hz0, hz1, hz2⟩ := info_parts infoKnown
  obtain ⟨bb, hbb, hand⟩ := and_one kk
  have n0 := candidates_any [debA] (some ⟨w.heap.size, 0, none⟩) 1 [debK] (some ⟨w.heap.size + 1, 0, none⟩) 1 _ (deb_rows w 31 37).1 (deb_rows w 31 37).2
  have hS1 := deb_one
  rw [deb_zero] at n0
  generalize candS [debA] [debK] = S1 at *
  unfold debA debK at n0
  simp only [List.length_cons, List.length_nil, Nat.zero_add] at n0
  have hbx := fun o o' : Obj => ((Below.refl w.heap.size w).alloc (Nat.le_refl _) o).alloc (by simp) o'
  have n1 := fun w' (hb : Below w.heap.size w w') => candidates_any l ao cap sh bo cap2 w' (hr.below hb) (hs.below hb)
  have n2 := fun (T : List XKnown) (bo : Option Addr) (cap2 : Nat) w' (hb : Below w.heap.size w w') (hT : RowKnown w' bo T) => candidates_any l ao cap T bo cap2 w' (hr.below hb) hT
  have hokk : ∀ x ∈ sh, okKnown w x := hs.2.1
  have N0 := hide n0; have N1 := hide n1; have N2 := hide n2; have HBX := hide hbx; have HS1 := hide hS1; have HR := hide hr; have HS := hide hs.1; have HOK := hide hokk
  have HI := hide hi; have Z0 := hide hz0; have Z1 := hide hz1; have Z2 := hide hz2
  have hshi : (sh.length : Int) ≤ 1048576 := by omega
  have hsub : IntKind.i64.wrap ((sh.length : Int) - 1) = (sh.length : Int) - 1 := by rw [IntKind.wrap_i64]; omega
  clear n0 n1 n2 hbx hS1 hr hs hokk hi hz0 hz1 hz2 hkk
  go_enter Try.func6, Try.ntmps6
  go_wp2_with fail
  refine (unhide N0).mono ?_
  rintro e x1 ⟨⟨v1, rfl, hg1⟩, b1⟩
  obtain ⟨a1, c1, rfl, hA1⟩ := hg1.some_len
  rw [unhide HS1]
  have b2 := ext_callR (unhide HBX _ _) b1
  clear hg1 hA1 b1 N0
  go_wp2
  go_loopw [9, 10] (fun v r wx => ∃ (i : Nat) (T : List XKnown), i ≤ sh.length ∧ r = .int .i64 ((i : Int) - 1) ∧ wx.ownsRow x1.heap.size 37 2 v T.length (cellsKL T) ∧ Hid (Turned sh T i bb) ∧ Below x1.heap.size x1 wx) (fun _ r _ => (intOf r + 1).toNat)
  case atStart => exact ⟨sh.length, [], Nat.le_refl _, by first | rfl | go_num, World.ownsRow_nil _ _ _ _, hide (turned_start sh bb), Below.refl _ _⟩
  case round =>
    obtain ⟨i, T, hi, rfl, hown, HT, hbw⟩ := hrel
    by_cases h0 : i = 0
    · subst h0
      have hT0 := unhide HT
      have hTl := turned_length hT0
      obtain ⟨hE, hSS⟩ := turned_end hT0 hbb l
      obtain ⟨ta, tc, rfl, hTR⟩ := known_of_own hown (fun x hx => unhide HOK x (hT0.1 x hx)) (by unfold maxLen; omega)
      have hb3 := ext_callR b2 hbw
      have N1' := hide (unhide N1 wr hb3)
      have n2 := fun w' (hb : Below wr.heap.size wr w') => unhide N2 T ta tc w' (ext_callR hb3 hb) (hTR.below hb)
      rw [hE, hSS] at n2
      have hcl := candS_length l sh
      have hord := candS_order l sh
      have hwh := candS_where l sh
      generalize candE l sh = ce at *
      generalize candS l sh = S at *
      have N2' := hide n2
      have N3 := hide (fun (ao bo : Option Addr) (c d : Nat) (w : World) h1 h2 => sameA_any S ao bo c d w h1 h2 hcl)
      have HORD := hide hord; have HWH := hide hwh; have HB3 := hide hb3
      have hcli : (S.length : Int) ≤ 1000 := by omega
      clear hT0 hTl hE hSS hTR hown hbw hb3 n2 hord hwh HT N1 N2 hcl b2 hi
      go_wp2_with fail
      refine (unhide N1').mono ?_
      rintro e y1 ⟨⟨v1, rfl, hg1⟩, c1⟩
      obtain ⟨a1, k1, rfl, hA1⟩ := hg1.some_len
      have HA1 := hide hA1
      clear hg1 hA1 N1'
      go_wp2_with fail
      refine (unhide N2' _ c1).mono ?_
      rintro e y2 ⟨⟨v2, rfl, hg2⟩, c2⟩
      obtain ⟨a2, k2, rfl, hA2⟩ := hg2.some_len
      have H1 : Hid (S = [] ∨ ∃ g, a1 = some ⟨g, 0, none⟩ ∧ ARow y2 g S) := hide (by
        rcases unhide HA1 with h | ⟨g, h1, h2⟩
        · exact .inl h
        · exact .inr ⟨g, h1, h2.below c2⟩)
      have HA2 := hide hA2
      have c3 := ext_callR (ext_callR (unhide HB3) c1) c2
      have HC3 := hide c3
      clear hg2 hA2 c1 c2 c3 HA1 HB3 N2'
      go_wp2_with fail
      refine (unhide N3 _ _ _ _ _ (unhide H1) (unhide HA2)).mono ?_
      rintro e y3 ⟨rfl, c4⟩
      have HY : Hid (S = [] ∨ ∃ g, a1 = some ⟨g, 0, none⟩ ∧ ARow y3 g S) := hide (by
        rcases unhide H1 with h | ⟨g, h1, h2⟩
        · exact .inl h
        · exact .inr ⟨g, h1, h2.below c4⟩)
      have c5 := ext_callR (unhide HC3) c4
      have HC5 := hide c5
      clear H1 HA2 HC3 c4 c5 N3
      go_wp2
      go_loopw [85] (fun i wx => ∃ n : Nat, n ≤ S.length ∧ i = .int .i64 n ∧ Below y3.heap.size y3 wx) (fun i _ => S.length - (intOf i).toNat)
      case atStart => exact ⟨0, Nat.zero_le _, rfl, Below.refl _ _⟩
      case round =>
        obtain ⟨n, hn, rfl, hbn⟩ := hrel
        have hbN := ext_callR (unhide HC5) hbn
        by_cases hlt : n < S.length
        · obtain ⟨x, hx⟩ : ∃ x, S[n]? = some x := ⟨_, List.getElem?_eq_getElem hlt⟩
          obtain ⟨hl20, hxp, j, hj, hoth⟩ := unhide HWH x (List.mem_of_getElem? hx)
          have hpos : S ≠ [] := fun e => by rw [e] at hlt; simp at hlt
          obtain ⟨g, rfl, hAR⟩ := (unhide HY).resolve_left hpos
          have hAw := hAR.below hbn
          obtain ⟨d0, d1, d2, d3⟩ := hAw.cell n x hx
          have hnd : decide ((n : Int) < (S.length : Int)) = true := decide_eq_true (by omega)
          have hl20I : (l.length : Int) ≤ 20 := by omega
          obtain ⟨W, hW⟩ : ∃ W, W = wr.alloc (.cells #[.string x.name, .string x.label, .int .i64 x.prio, .bool x.confirm] 31) := ⟨_, rfl⟩
          have hbW : Below y3.heap.size y3 W := by rw [hW]; exact hbn.alloc hbn.size _
          have hAW : ARow W g S := hAR.below hbW
          have q0 : ∀ w', Below W.heap.size W w' → w'.cell? ⟨wr.heap.size, 0, none⟩ = some (.string x.name) ∧ w'.cell? ⟨wr.heap.size, 1, none⟩ = some (.string x.label) ∧ w'.cell? ⟨wr.heap.size, 2, none⟩ = some (.int .i64 x.prio) ∧ w'.cell? ⟨wr.heap.size, 3, none⟩ = some (.bool x.confirm) := fun w' hb => by
            have hWs : W.heap.size = wr.heap.size + 1 := by rw [hW]; simp
            refine ⟨?_, ?_, ?_, ?_⟩ <;> (refine (hb.cell (by rw [hWs]; simp)).trans ?_; rw [hW, World.cell?_alloc_at _ _ _ _ (by simp)]; rfl)
          have HW := hide hW; have HQ0 := hide q0; have HBW := hide hbW; have HAW := hide hAW; have HJ := hide hj; have HOTH := hide hoth; have HXX := hide hx
          clear hpos hAR hAw hW q0 hbW hAW hj hoth hx hbN hbn
          go_wp2
          rw [← unhide HW]
          go_loopw [17, 92] (fun c i wz => ∃ (m cn : Nat), m ≤ l.length ∧ i = .int .i64 m ∧ c = .int .i64 cn ∧ Hid (cn = if j < m then 1 else 0) ∧ Below W.heap.size W wz) (fun _ i _ => l.length - (intOf i).toNat)
          case atStart => exact ⟨0, 0, Nat.zero_le _, rfl, rfl, hide (by simp), Below.refl _ _⟩
          case round =>
            clear d0 d1 d2 d3
            obtain ⟨m, cn, hm, rfl, rfl, HCN, hbz⟩ := hrel
            by_cases hml : m < l.length
            · obtain ⟨y, hy⟩ : ∃ y, l[m]? = some y := ⟨_, List.getElem?_eq_getElem hml⟩
              rcases (unhide HR).1 with hnil | ⟨b, off, rfl, hb, hc⟩
              · rw [hnil] at hml; simp at hml
              obtain ⟨c0, c1, c2, c3⟩ := hc m y hy
              have hbq := ext_callR (ext_callR (unhide HC5) (unhide HBW)) hbz
              have e0 : wr.cell? ⟨b, off + m * 4, none⟩ = _ := (hbq.cell (p := ⟨b, off + m * 4, none⟩) hb).trans c0
              have e1 : wr.cell? ⟨b, off + m * 4 + 1, none⟩ = _ := (hbq.cell (p := ⟨b, off + m * 4 + 1, none⟩) hb).trans c1
              have e2 : wr.cell? ⟨b, off + m * 4 + 2, none⟩ = _ := (hbq.cell (p := ⟨b, off + m * 4 + 2, none⟩) hb).trans c2
              have e3 : wr.cell? ⟨b, off + m * 4 + 3, none⟩ = _ := (hbq.cell (p := ⟨b, off + m * 4 + 3, none⟩) hb).trans c3
              obtain ⟨p0, p1, p2, p3⟩ := unhide HQ0 (wr.alloc (.cells #[.string y.name, .string y.label, .int .i64 y.prio, .bool y.confirm] 31)) (hbz.alloc hbz.size _)
              have hcn1 : (cn : Int) ≤ 1 := by have := unhide HCN; split at this <;> omega
              have hbA := fun o : Obj => hbz.alloc hbz.size o
              have HBA := hide hbA
              clear hc c0 c1 c2 c3 hbq hbA hbz
              by_cases hmj : m = j
              · have hyx : y = x := by
                  have := unhide HJ
                  rw [← hmj, hy] at this
                  simpa using this
                subst hyx
                have HC2 : Hid (cn + 1 = if j < m + 1 then 1 else 0) := hide (by
                  have := unhide HCN
                  rw [if_neg (by omega)] at this
                  rw [if_pos (by omega), this])
                clear hy hmj
                go_wp2
                go_roundw
                case rel => exact ⟨m + 1, cn + 1, by omega, by go_num, by go_num, HC2, unhide HBA _⟩
                case measure => simp [intOf]; omega
              · have htn := text_ne (unhide HOTH m y hy hmj)
                have HC2 : Hid (cn = if j < m + 1 then 1 else 0) := hide (by
                  have := unhide HCN
                  rw [this]
                  by_cases h' : j < m
                  · rw [if_pos h', if_pos (by omega)]
                  · rw [if_neg h', if_neg (by omega)])
                clear hy hmj
                go_wp2
                go_roundw
                case rel => exact ⟨m + 1, cn, by omega, by go_num, rfl, HC2, unhide HBA _⟩
                case measure => simp [intOf]; omega
            · have hcn : cn = 1 := by
                have := unhide HCN
                have hjl := (List.getElem?_eq_some_iff.1 (unhide HJ)).1
                rw [if_pos (by omega)] at this
                exact this
              subst hcn
              obtain ⟨p0, p1, p2, p3⟩ := unhide HQ0 wr hbz
              have hAz := (unhide HAW).below hbz
              have hbq := ext_callR (unhide HBW) hbz
              have HBQ := hide hbq
              obtain ⟨hxp0, hxp15⟩ := hxp
              have hwx : IntKind.i64.wrap (x.prio + 15) = x.prio + 15 := by rw [IntKind.wrap_i64]; omega
              cases n with
              | zero =>
                clear hAz hbz hbq
                go_wp2_with fail
                go_quiet (fail)
                go_wp2
                go_roundw
                case rel => exact ⟨1, by omega, by go_num, below_drewN (unhide HBQ) _⟩
                case measure => simp [intOf]; omega
              | succ p =>
                obtain ⟨z, hz⟩ : ∃ z, S[p]? = some z := ⟨_, List.getElem?_eq_getElem (by omega)⟩
                obtain ⟨r0, r1, r2, r3⟩ := hAz.cell p z hz
                obtain ⟨ho1, ho2⟩ := unhide HORD p z x hz (unhide HXX)
                obtain ⟨_, ⟨hzp0, hzp15⟩, _⟩ := unhide HWH z (List.mem_of_getElem? hz)
                have hwz : IntKind.i64.wrap (z.prio + 15) = z.prio + 15 := by rw [IntKind.wrap_i64]; omega
                have htn := text_ne ho2
                have hgt : decide ((x.prio + 15) % 16 < (z.prio + 15) % 16) = false := decide_eq_false (by omega)
                have hpI : ((p + 1 : Nat) : Int) - 1 = (p : Int) := by omega
                have hw1 : IntKind.i64.wrap (((p + 1 : Nat) : Int) - 1) = (p : Int) := by rw [IntKind.wrap_i64]; omega
                have hpl : (p : Int) < (S.length : Int) := by omega
                clear hAz hbz hbq hz ho1 ho2
                go_wp2_with fail
                go_quiet (fail)
                go_wp2
                go_roundw
                case rel => exact ⟨p + 1 + 1, by omega, by go_num, below_drewN (unhide HBQ) _⟩
                case measure => simp [intOf]; omega
        · go_wp2
          go_ret
          exact ⟨rfl, hbN⟩
    · obtain ⟨j, rfl⟩ : ∃ j, i = j + 1 := ⟨i - 1, by omega⟩
      have ej : ((j + 1 : Nat) : Int) - 1 = (j : Int) := by omega
      rw [ej]
      obtain ⟨x, hx⟩ : ∃ x, sh[j]? = some x := ⟨_, List.getElem?_eq_getElem (by omega)⟩
      rcases (unhide HS) with hnil | ⟨b, off, rfl, hb, hc⟩
      · rw [hnil] at hx; simp at hx
      obtain ⟨c0, c1⟩ := hc j x hx
      have hbz := ext_callR b2 hbw
      have d0 : wr.cell? ⟨b, off + j * 2, none⟩ = _ := (hbz.cell (p := ⟨b, off + j * 2, none⟩) hb).trans c0
      have d1 : wr.cell? ⟨b, off + j * 2 + 1, none⟩ = _ := (hbz.cell (p := ⟨b, off + j * 2 + 1, none⟩) hb).trans c1
      have hTl := turned_length (unhide HT)
      have hsz0 := hbw.size
      have hji : (j : Int) < (sh.length : Int) := by omega
      have hnx : IntKind.i64.wrap ((j : Int) - 1) = (j : Int) - 1 := by rw [IntKind.wrap_i64]; omega
      have hj63 : (j : Int) ≤ 9223372036854775807 := by omega
      have HOW := hide hown; have HBW := hide hbw; have HC0 := hide c0; have HC1 := hide c1
      have hlt4 : ∀ q', u9.ownBlock = some q' → x1.heap.size ≤ q' := fun q' h => (hown.lt q' h).1
      have HL4 := hide hlt4
      have HX := hide hx; have HBZ := hide hbz
      clear hc c0 c1 hown hbw hlt4 hx hbz ej h0
      go_wp2_with (at_builtin; refine wpList_append_own _ rfl _ _ 33 rfl x1.heap.size 37 i0 (.agg #[.string ⟨#[]⟩, .bool false]) 2 24 Try.underlying33 (unhide HI) (unhide Z0) (unhide Z1) (unhide Z2) rfl (by decide) _ _ _ rfl ((unhide HOW).alloc _) ⟨wr.heap.size, 0, none⟩ 1 1 (cellsK x) rfl rfl (fun j u hu => known_new wr x _ j u hu) ?c2 ?c3 ?c4 ?c5 ?_)
      case c2 => intro u hu; simp [cellsK] at hu; rcases hu with rfl | rfl <;> rfl
      case c3 => unfold maxLen; omega
      case c4 => omega
      case c5 => simp; omega
      intro v' w5 hown' hgrow _
      have hb5 : Below x1.heap.size x1 w5 := ((unhide HBW).alloc hsz0 _).grown hgrow (by simp; omega) (fun q hq => unhide HL4 q hq)
      have hown5 : w5.ownsRow x1.heap.size 37 2 v' (T ++ [x]).length (cellsKL (T ++ [x])) := by
        rw [cellsKL_snoc, List.length_append]
        exact hown'
      have hT1 : ((T ++ [x]).length : Int) ≤ 1048600 := by rw [List.length_append]; simp; omega
      have H5 := hide hown5; have HB5 := hide hb5
      clear hown' hgrow hown5 hb5 HOW HBW HL4 d0 d1
      by_cases hm : j % 3 = bb
      · have hmI : (((j : Int) % 3) == (bb : Int)) = true := by simp; omega
        by_cases h30 : sh.length ≤ 30
        · have h30I : (sh.length : Int) ≤ 30 := by omega
          have HTT := hide (turned_twice (unhide HT) (unhide HX) hbb ⟨hm, h30⟩)
          have hbz5 := ext_callR b2 (unhide HB5)
          have d0 : w5.cell? ⟨b, off + j * 2, none⟩ = _ := (hbz5.cell (p := ⟨b, off + j * 2, none⟩) hb).trans (unhide HC0)
          have d1 : w5.cell? ⟨b, off + j * 2 + 1, none⟩ = _ := (hbz5.cell (p := ⟨b, off + j * 2 + 1, none⟩) hb).trans (unhide HC1)
          have hlt4 : ∀ q', v'.ownBlock = some q' → x1.heap.size ≤ q' := fun q' h => ((unhide H5).lt q' h).1
          have HL4 := hide hlt4
          have hsz5 := (unhide HB5).size
          obtain ⟨va, vn, vc, hv'⟩ : ∃ va vn vc, v' = .slice va vn vc := by
            rcases (unhide H5).2 with ⟨hv, _⟩ | ⟨g, cap, cur, hv, _⟩
            · exact ⟨_, _, _, hv⟩
            · exact ⟨_, _, _, hv⟩
          clear hm h30 hbz5 hlt4 hv'
          generalize T ++ [x] = T1 at *
          go_wp2_with (at_builtin; refine wpList_append_own _ rfl _ _ 33 rfl x1.heap.size 37 i0 (.agg #[.string ⟨#[]⟩, .bool false]) 2 24 Try.underlying33 (unhide HI) (unhide Z0) (unhide Z1) (unhide Z2) rfl (by decide) _ _ _ rfl ((unhide H5).alloc _) ⟨w5.heap.size, 0, none⟩ 1 1 (cellsK x) rfl rfl (fun j u hu => known_new w5 x _ j u hu) ?c2 ?c3 ?c4 ?c5 ?_)
          case c2 => intro u hu; simp [cellsK] at hu; rcases hu with rfl | rfl <;> rfl
          case c3 => unfold maxLen; omega
          case c4 => omega
          case c5 => simp; omega
          intro v2 w6 hown' hgrow _
          have hb6 : Below x1.heap.size x1 w6 := ((unhide HB5).alloc hsz5 _).grown hgrow (by simp; omega) (fun q hq => unhide HL4 q hq)
          have hown6 : w6.ownsRow x1.heap.size 37 2 v2 (T1 ++ [x]).length (cellsKL (T1 ++ [x])) := by
            rw [cellsKL_snoc, List.length_append]
            exact hown'
          have H6 := hide hown6; have HB6 := hide hb6
          clear hown' hgrow hown6 hb6 H5 HB5 HL4 d0 d1
          go_wp2
          go_roundw
          case rel => exact ⟨j, T1 ++ [x], by omega, by go_num, unhide H6, HTT, unhide HB6⟩
          case measure => simp [intOf] <;> omega
        · have h30I : ¬ (sh.length : Int) ≤ 30 := by omega
          have HTT := hide (turned_once (unhide HT) (unhide HX) hbb (fun h => h30 h.2))
          clear hm h30
          go_wp2
          go_roundw
          case rel => exact ⟨j, T ++ [x], by omega, by go_num, unhide H5, HTT, unhide HB5⟩
          case measure => simp [intOf] <;> omega
      · have hmI : (((j : Int) % 3) == (bb : Int)) = false := by simp; omega
        have HTT := hide (turned_once (unhide HT) (unhide HX) hbb (fun h => hm h.1))
        clear hm
        go_wp2
        go_roundw
        case rel => exact ⟨j, T ++ [x], by omega, by go_num, unhide H5, HTT, unhide HB5⟩
        case measure => simp [intOf] <;> omega
theorem ownPickAlike : ownKnob Try.prog.godebug = none := by kernel_rfl
theorem laidOutPickAlike : laidOutB Try.prog = true := by kernel_rfl
set_option maxRecDepth 100000 in
theorem contractPickAlike (H : Type) (enc : TypeId × Value → H) (W : World) (base : Nat) (args : Array Value) (ds gs : List (DataW H)) (before : List MemPlace)
    (hval0 : ∀ (j : Nat) t v, Try.f6.params[j]? = some t → args[j]? = some v → Value.okWide Try.prog W .any base t v)
    (hW : DataW.Whole enc Try.prog Try.f6.params.toList Rows.pickAlikeSpec.vars false W args.toList ds gs before) (hk : Rows.uptoSmall H (ds ++ gs) = true) :
    Calls Try.prog 6 args W fun e W' => ∃ v, e = .returned v ∧ Rows.pickAlikeSpec.post enc Try.prog Try.f6 false true false false W args v W' := by
  have hval : ∀ (j : Nat) t v, Try.f6.params[j]? = some t → args[j]? = some v → Value.okWide Try.prog W .any base t v := hval0
  have hW' := hW
  obtain ⟨p, q, hA0, hV, rfl, hfz, hnd⟩ := hW
  have hA : DataW.TrodAll enc Try.prog W 0 (fun _ => true) true Try.f6.params.toList args.toList ds p := hA0
  rw [Try.params6] at hA hval
  obtain ⟨v0, vs0, d0, ds0, p0, q0, hargs, rfl, rfl, h0, r0⟩ := trodAll_cons hA
  obtain ⟨v1, vs1, d1, ds1, p1, q1, rfl, rfl, rfl, h1, r1⟩ := trodAll_cons r0
  obtain ⟨v2, vs2, d2, ds2, p2, q2, rfl, rfl, rfl, h2, r2⟩ := trodAll_cons r1
  obtain ⟨rfl, rfl, rfl⟩ := trodAll_nil r2
  obtain rfl : args = #[v0, v1, v2] := by cases args; simp_all
  obtain ⟨rfl, rfl⟩ := trodVars_none hV
  clear hA0 hval0
  simp only [List.append_nil] at hW' hk
  have hbulk : Rows.uptoBulk d0 + Rows.uptoBulk d1 + Rows.uptoBulk d2 ≤ 1048576 := by
    have h : Rows.uptoBulkAll _ ≤ 1048576 := of_decide_eq_true hk
    simp only [Rows.uptoBulkAll] at h
    omega
  have hlt0 : ∀ x ∈ p0, x.block < W.heap.size := fun x hx => by simpa using hW'.lt x (by simp [hx])
  have hargs0 : ∀ (W' : World), Below W.heap.size W W' → DataW.Trod enc Try.prog W' 0 (fun b => decide (b < W.heap.size)) true 22 v0 d0 p0 :=
    fun W' hn => Below.trod laidOutPickAlike (by kernel_rfl) (of_decide_eq_true (by kernel_rfl)) h0 hn hlt0
  have hlt1 : ∀ x ∈ p1, x.block < W.heap.size := fun x hx => by simpa using hW'.lt x (by simp [hx])
  have hargs1 : ∀ (W' : World), Below W.heap.size W W' → DataW.Trod enc Try.prog W' 0 (fun b => decide (b < W.heap.size)) true 33 v1 d1 p1 :=
    fun W' hn => Below.trod laidOutPickAlike (by kernel_rfl) (of_decide_eq_true (by kernel_rfl)) h1 hn hlt1
  have hlt2 : ∀ x ∈ p2, x.block < W.heap.size := fun x hx => by simpa using hW'.lt x (by simp [hx])
  have hargs2 : ∀ (W' : World), Below W.heap.size W W' → DataW.Trod enc Try.prog W' 0 (fun b => decide (b < W.heap.size)) true 3 v2 d2 p2 :=
    fun W' hn => Below.trod laidOutPickAlike (by kernel_rfl) (of_decide_eq_true (by kernel_rfl)) h2 hn hlt2
  obtain ⟨ao0, l0, cap0, rfl, hr0, hd0⟩ := openRApp (hval 0 22 v0 rfl rfl) h0
  have hb0 : l0.length ≤ 1048576 := by
    rcases hd0 with hd | ⟨es, ss, hd, hes⟩
    · rw [hd]; simp
    · rw [hd] at hbulk
      simp only [Rows.uptoBulk] at hbulk
      have := bulkAll_length (es := es)
      omega
  obtain ⟨ao1, l1, cap1, rfl, hr1, hd1⟩ := openRKnown (hval 1 33 v1 rfl rfl) h1
  have hb1 : l1.length ≤ 1048576 := by
    rcases hd1 with hd | ⟨es, ss, hd, hes⟩
    · rw [hd]; simp
    · rw [hd] at hbulk
      simp only [Rows.uptoBulk] at hbulk
      have := bulkAll_length (es := es)
      omega
  obtain ⟨a2, rfl, hd2, _, w2⟩ := open_int Try.underlying3 (hval 2 3 v2 rfl rfl) h2
  refine (walkPickAlike l0 ao0 cap0 l1 ao1 cap1 a2 W hr0 hb0 hr1 hb1 (bounds_i64 w2)).mono fun e W' ⟨he, bel⟩ => ?_
  subst he
  exact ⟨_, rfl, _, _, _, [], _, [], hW', trodAll_mk1 (shut_bool Try.underlying4 _), (trodAll_cons_mk (hargs0 _ bel) (trodAll_cons_mk (hargs1 _ bel) (trodAll_cons_mk (hargs2 _ bel) trodAll_mk0))), rfl, bel.frame _, fun h => by cases h⟩

set_option maxRecDepth 100000 in
theorem liftedPickAlike (os : Os) (started : os.Started) (H : Type) (enc : TypeId × Value → H) (F : Stop.Interp) :
    ReturnsInHanded {} Try.checked os 6 .any ((Rows.OpenSpec.upto Rows.pickAlikeSpec).pre6 enc Try.prog Try.f6 Rows.pickAlikeUptoRow.domain false) (((Rows.OpenSpec.upto Rows.pickAlikeSpec).at F).post enc Try.prog Try.f6 false true false false) := by
  refine returnsInHanded_of_cond (C := Try.checked) (s := Rows.OpenSpec.upto Rows.pickAlikeSpec) (k := Rows.uptoSmall) rfl ownPickAlike started (by kernel_rfl) Try.func6
    (OpenSpec.witness (enc := enc) (C := Try.checked) (s := Rows.OpenSpec.upto Rows.pickAlikeSpec) (k := Rows.uptoSmall) rfl false ⟨#[], #[.slice none 0 0, .slice none 0 0, .int .i64 0], []⟩ 8 (by kernel_rfl) (by kernel_rfl) (by kernel_rfl)
      (x := ([.nil, .nil, .lit (.int .i64 0)], [], [])) (by kernel_rfl) rfl (by kernel_rfl)) ?_
  intro W base args ds gs before hval hW _ hk _
  exact contractPickAlike H enc W base args ds gs before hval hW hk

/-- THE STATEMENT -/
theorem pickAlike_upto : Rows.PickAlikeUptoSaid :=
  OpenClaim.holds_of_cond 6 Try.f6 rfl rfl rfl rfl rfl rfl rfl ⟨rfl, rfl, rfl, rfl, rfl⟩ rfl rfl rfl rfl rfl (by kernel_rfl) Try.func6 (by kernel_rfl)
    (of_decide_eq_true (by kernel_rfl)) (by unfold Func.isWrapper; first | (rw [if_pos (by decide +kernel)]; kernel_rfl) | (rw [if_neg (by decide +kernel)]; exact ⟨rfl, rfl⟩))
    (fun os started H enc _ F => liftedPickAlike os started H enc F)
#print axioms pickAlike_upto
end Go.Proofs.Ytlnoilfnpgogbae
