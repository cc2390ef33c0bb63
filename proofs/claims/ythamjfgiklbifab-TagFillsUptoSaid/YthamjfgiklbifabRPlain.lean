/- plain of the reference. -/
import Derived.Test.YthamjfgiklbifabFind
import Derived.Test.YthamjfgiklbifabFields
import Derived.Laws.AppendOwn
import Derived.Laws.AppendOwnNone
import Derived.Deep.RegionWith
import Derived.Deep.CutBlock
import Derived.Deep.RegionHeld3
import Derived.Deep.DeepCutAuto
namespace Go.Proofs.Ythamjfgiklbifab
open Go.RowKit
set_option linter.unusedVariables false

/-- all items that are not made of others -/
def plainD : Nat → List It → List It
  | 0, _ => []
  | d + 1, l => l.flatMap fun x => if madeV x.tag = true then plainD d x.list else [x]
theorem plain_len : ∀ (d : Nat) (l : List It), (plainD d l).length ≤ wt d l
  | 0, l => by simp [plainD]
  | d + 1, l => by
    induction l with
    | nil => simp [plainD]
    | cons x r ih =>
      have h := plain_len d x.list
      simp only [plainD, wt, List.flatMap_cons, List.map_cons, List.sum_cons, List.length_append] at ih ⊢
      split
      · omega
      · simp only [List.length_cons, List.length_nil]; omega

/-- an item as it lies: its own list's head beside it -/
structure Raw where
  tag : Int
  text : ByteArray
  co : Option Addr
  n : Nat
  cc : Nat
def Raw.cells (r : Raw) : List Value := [.int .i64 r.tag, .string r.text, .slice r.co r.n r.cc]
def cellsR (rs : List Raw) : List Value := rs.flatMap Raw.cells
theorem cellsR_append (a b : List Raw) : cellsR (a ++ b) = cellsR a ++ cellsR b := by simp [cellsR]
theorem cellsR_one (rs : List Raw) : ∀ u ∈ cellsR rs, u.oneCell' = true := by
  intro u hu
  obtain ⟨r, _, hr⟩ := List.mem_flatMap.1 hu
  simp only [Raw.cells, List.mem_cons, List.not_mem_nil, or_false] at hr
  rcases hr with rfl | rfl | rfl <;> rfl
theorem cellsR_length (rs : List Raw) : (cellsR rs).length = rs.length * 3 := by
  induction rs with
  | nil => rfl
  | cons r rs ih =>
    have e : cellsR (r :: rs) = r.cells ++ cellsR rs := by simp [cellsR]
    rw [e, List.length_append, ih, List.length_cons]
    simp only [Raw.cells, List.length_cons, List.length_nil]
    omega
/-- the rows hold these items' tags and texts -/
def Holds (rs : List Raw) (l : List It) : Prop := rs.map (fun r => (r.tag, r.text)) = l.map (fun x => (x.tag, x.text))
theorem infoItem : (Try.prog.info? 51).map (fun i => (i.zero, i.size, i.bytes)) = some (some (.agg #[.int .i64 0, .string ⟨#[]⟩, .slice none 0 0]), 3, 48) := by kernel_rfl

theorem ownsRow_kept {w w' : World} {base : Nat} {e : TypeId} {size : Nat} {v : Value} {n : Nat} {xs : List Value} (h : w.ownsRow base e size v n xs) (hb : Below w.heap.size w w') : w'.ownsRow base e size v n xs := by
  refine ⟨h.1, ?_⟩
  rcases h.2 with h0 | ⟨g, cap, cur, e1, e2, e3, e4⟩
  · exact .inl h0
  · refine .inr ⟨g, cap, cur, e1, e2, ?_, e4⟩
    have hg : g < w.heap.size := by
      rcases Nat.lt_or_ge g w.heap.size with h | h
      · exact h
      · rw [Array.getElem?_eq_none h] at e3; cases e3
    rw [hb.block g hg]; exact e3
theorem plain_take {d : Nat} {l : List It} {k : Nat} {x : It} (hx : l[k]? = some x) : plainD (d + 1) (l.take (k + 1)) = plainD (d + 1) (l.take k) ++ (if madeV x.tag = true then plainD d x.list else [x]) := by
  have hk : k < l.length := by
    rcases Nat.lt_or_ge k l.length with h | h
    · exact h
    · rw [List.getElem?_eq_none h] at hx; cases hx
  rw [List.getElem?_eq_getElem hk] at hx
  rw [List.take_succ_eq_append_getElem hk, Option.some.inj hx]
  simp [plainD]
theorem holds_append {a b : List Raw} {l m : List It} (h1 : Holds a l) (h2 : Holds b m) : Holds (a ++ b) (l ++ m) := by
  unfold Holds at *
  rw [List.map_append, List.map_append, h1, h2]
theorem holds_length {a : List Raw} {l : List It} (h : Holds a l) : a.length = l.length := by
  have := congrArg List.length h
  simpa using this
theorem wt_take {d : Nat} (l : List It) (k : Nat) : wt (d + 1) (l.take k) ≤ wt (d + 1) l := by
  conv => rhs; rw [← List.take_append_drop k l]
  simp only [wt, List.map_append, List.sum_append]
  omega

set_option maxRecDepth 1000000 in
set_option maxHeartbeats 4000000 in
theorem rplain_any : ∀ (d : Nat) (l : List It) (ao : Option Addr) (cap : Nat) (w : World), IRow w d ao l → wt d l ≤ 1048576 →
    Calls Try.prog 31 #[.slice ao l.length cap] w fun e w' => ∃ v rs, e = .returned v ∧ w'.ownsRow w.heap.size 51 3 v rs.length (cellsR rs) ∧ Holds rs (plainD d l) ∧ Below w.heap.size w w'
  | 0, l, ao, cap, w, hr, hw => by
    have hl : l = [] := hr
    subst hl
    clear hr hw
    go_enter Try.func31, Try.ntmps31
    go_wp2
    go_loopw [3, 4] (fun v i wr => v = .slice none 0 0 ∧ i = .int .i64 0 ∧ Below w.heap.size w wr) (fun _ i _ => 0)
    case atStart => exact ⟨rfl, rfl, Below.refl _ _⟩
    case round =>
      obtain ⟨rfl, rfl, hbw⟩ := hrel
      go_wp2
      go_ret
      exact ⟨_, [], rfl, World.ownsRow_nil _ _ _ _, rfl, hbw⟩
  | d + 1, l, ao, cap, w, hr, hw => by
    obtain ⟨i0, hi, hz0, hz1, hz2⟩ := info_parts infoItem
    have hlen := hr.length_le
    have IH := hide (rplain_any d)
    go_enter Try.func31, Try.ntmps31
    go_wp2
    go_loopw [3, 4] (fun v i wr => ∃ (k : Nat) (rs : List Raw), k ≤ l.length ∧ i = .int .i64 k ∧ wr.ownsRow w.heap.size 51 3 v rs.length (cellsR rs) ∧ Holds rs (plainD (d + 1) (l.take k)) ∧ Below w.heap.size w wr) (fun _ i _ => l.length - (intOf i).toNat)
    case atStart => exact ⟨0, [], Nat.zero_le _, rfl, World.ownsRow_nil _ _ _ _, by simp [Holds, plainD], Below.refl _ _⟩
    case round =>
      rename World => wo
      obtain ⟨k, rs, hk, rfl, hown, hho, hbw⟩ := hrel
      by_cases hlt : k < l.length
      · rcases hr with hnil | ⟨b, off, rfl, hb, hc⟩
        · rw [hnil] at hlt; simp at hlt
        obtain ⟨x, hx⟩ := get_of_lt hlt
        obtain ⟨co, cc, c0, c1, c2, hcc, hsub, htag, htxt⟩ := hc k x hx
        have hwx := wt_get (d := d) hx
        have d0 : wo.cell? ⟨b, off + k * 3, none⟩ = _ := (hbw.cell (p := ⟨b, off + k * 3, none⟩) hb).trans c0
        have d1 : wo.cell? ⟨b, off + k * 3 + 1, none⟩ = _ := (hbw.cell (p := ⟨b, off + k * 3 + 1, none⟩) hb).trans c1
        have d2 : wo.cell? ⟨b, off + k * 3 + 2, none⟩ = _ := (hbw.cell (p := ⟨b, off + k * 3 + 2, none⟩) hb).trans c2
        have hbk : b < wo.heap.size := World.block_lt_of_cell? _ _ d0
        have n1 := fun w => rvalid_any x.tag w htag
        have hrl : rs.length ≤ 1048576 := by
          rw [holds_length hho]
          exact Nat.le_trans (plain_len _ _) (Nat.le_trans (wt_take l k) hw)
        have hone : madeV x.tag = false → Holds (rs ++ [Raw.mk x.tag x.text co x.list.length cc]) (plainD (d + 1) (l.take (k + 1))) := fun hm => by
          rw [plain_take hx, hm]
          exact holds_append hho rfl
        have hmany : madeV x.tag = true → ∀ qs, Holds qs (plainD d x.list) → Holds (rs ++ qs) (plainD (d + 1) (l.take (k + 1))) := fun hm qs hq => by
          rw [plain_take hx, hm]
          exact holds_append hho hq
        have hmv : madeV x.tag = (validB x.tag && madeB x.tag.toNat) := rfl
        have N5 := hide (fun (w2 : World) (h : Below w.heap.size w w2) => unhide IH x.list co cc w2 (IRow.below h d hsub) (by omega))
        have hql := fun qs (hq : Holds qs (plainD d x.list)) => Nat.le_trans (Nat.le_of_eq (holds_length hq)) (Nat.le_trans (plain_len d x.list) (show wt d x.list ≤ 1048576 by omega))
        have hlm : (l.length : Int) ≤ 1048576 := by omega
        have HL := hide hrl
        have HQ := hide hql
        clear hho hx hwx c0 c1 c2 hc hsub hw hlen hrl hql
        generalize x.tag = xt at *
        generalize x.text = xs at *
        generalize x.list.length = xn at *
        generalize plainD d x.list = xp at *
        cases hv : validB xt with
        | false =>
          have HX := hide (hone (by rw [hmv, hv]; rfl))
          rw [hv] at n1
          have N1 := hide n1
          clear n1 hone hmany hmv hv N5 HQ
          go_wp2_with fail
          refine (unhide N1 _).mono ?_
          rintro e w2 ⟨rfl, hb2⟩
          have hbw2 : Below w.heap.size w w2 := below_more hbw hbw.size hb2
          have hown2 := ownsRow_kept hown hb2
          have f0 : w2.cell? ⟨b, off + k * 3, none⟩ = _ := (hb2.cell (p := ⟨b, off + k * 3, none⟩) hbk).trans d0
          have f1 : w2.cell? ⟨b, off + k * 3 + 1, none⟩ = _ := (hb2.cell (p := ⟨b, off + k * 3 + 1, none⟩) hbk).trans d1
          have f2 : w2.cell? ⟨b, off + k * 3 + 2, none⟩ = _ := (hb2.cell (p := ⟨b, off + k * 3 + 2, none⟩) hbk).trans d2
          go_wp2_with (at_builtin; refine wpList_append_own _ rfl _ _ 22 rfl w.heap.size 51 i0 (.agg #[.int .i64 0, .string ⟨#[]⟩, .slice none 0 0]) 3 48 Try.underlying22 hi hz0 hz1 hz2 rfl (by decide) _ _ _ rfl (World.ownsRow.alloc hown2 _) ⟨w2.heap.size, 0, none⟩ 1 1 [.int .i64 xt, .string xs, .slice co xn cc] rfl rfl (three_new _ _ _ _ _) ?c2 ?c3 ?c4 ?c5 ?_)
          case c2 => intro u hu; simp at hu; rcases hu with rfl | rfl | rfl <;> rfl
          case c3 => have := unhide HL; unfold maxLen; omega
          case c4 => have := unhide HL; omega
          case c5 => have := hbw2.size; simp; omega
          intro v' w4 hown' hgrow _
          have hb4 : Below w.heap.size w w4 := (hbw2.alloc hbw2.size _).grown hgrow (by have := hbw2.size; simp; omega) (fun q hq => (hown2.lt q hq).1)
          have hown4 : w4.ownsRow w.heap.size 51 3 v' (rs ++ [Raw.mk xt xs co xn cc]).length (cellsR (rs ++ [Raw.mk xt xs co xn cc])) := by
            rw [cellsR_append, List.length_append]
            exact hown'
          clear hown' hgrow hown hbw
          go_wp2
          go_roundw
          case rel => exact ⟨k + 1, rs ++ [Raw.mk xt xs co xn cc], by omega, by go_num, hown4, unhide HX, hb4⟩
          case measure => simp [intOf]; omega
        | true =>
          obtain ⟨h1, h2⟩ := validB_lt hv
          obtain ⟨tn, rfl⟩ := Int.eq_ofNat_of_zero_le (show 0 ≤ xt by omega)
          have n2 := fun w => rmade_any tn w (by omega)
          clear h1 h2
          rw [hv] at n1
          rw [hv, Bool.true_and, Int.toNat_natCast] at hmv
          cases hm : madeB tn with
          | false =>
            have HX := hide (hone (by rw [hmv, hm]))
            rw [hm] at n2
            have N1 := hide n1; have N2 := hide n2
            clear n1 n2 hone hmany hmv hv hm N5 HQ
            go_wp2_with fail
            refine (unhide N1 _).mono ?_
            rintro e w1 ⟨rfl, hb1⟩
            have f9 : w1.cell? ⟨b, off + k * 3, none⟩ = _ := (hb1.cell (p := ⟨b, off + k * 3, none⟩) hbk).trans d0
            go_wp2_with fail
            refine (unhide N2 _).mono ?_
            rintro e w2 ⟨rfl, hb2'⟩
            have hb2 : Below wo.heap.size wo w2 := below_more hb1 hb1.size hb2'
            clear f9
            have hbw2 : Below w.heap.size w w2 := below_more hbw hbw.size hb2
            have hown2 := ownsRow_kept hown hb2
            have f0 : w2.cell? ⟨b, off + k * 3, none⟩ = _ := (hb2.cell (p := ⟨b, off + k * 3, none⟩) hbk).trans d0
            have f1 : w2.cell? ⟨b, off + k * 3 + 1, none⟩ = _ := (hb2.cell (p := ⟨b, off + k * 3 + 1, none⟩) hbk).trans d1
            have f2 : w2.cell? ⟨b, off + k * 3 + 2, none⟩ = _ := (hb2.cell (p := ⟨b, off + k * 3 + 2, none⟩) hbk).trans d2
            go_wp2_with (at_builtin; refine wpList_append_own _ rfl _ _ 22 rfl w.heap.size 51 i0 (.agg #[.int .i64 0, .string ⟨#[]⟩, .slice none 0 0]) 3 48 Try.underlying22 hi hz0 hz1 hz2 rfl (by decide) _ _ _ rfl (World.ownsRow.alloc hown2 _) ⟨w2.heap.size, 0, none⟩ 1 1 [.int .i64 (tn : Int), .string xs, .slice co xn cc] rfl rfl (three_new _ _ _ _ _) ?c2 ?c3 ?c4 ?c5 ?_)
            case c2 => intro u hu; simp at hu; rcases hu with rfl | rfl | rfl <;> rfl
            case c3 => have := unhide HL; unfold maxLen; omega
            case c4 => have := unhide HL; omega
            case c5 => have := hbw2.size; simp; omega
            intro v' w4 hown' hgrow _
            have hb4 : Below w.heap.size w w4 := (hbw2.alloc hbw2.size _).grown hgrow (by have := hbw2.size; simp; omega) (fun q hq => (hown2.lt q hq).1)
            have hown4 : w4.ownsRow w.heap.size 51 3 v' (rs ++ [Raw.mk (tn : Int) xs co xn cc]).length (cellsR (rs ++ [Raw.mk (tn : Int) xs co xn cc])) := by
              rw [cellsR_append, List.length_append]
              exact hown'
            clear hown' hgrow hown hbw
            go_wp2
            go_roundw
            case rel => exact ⟨k + 1, rs ++ [Raw.mk (tn : Int) xs co xn cc], by omega, by go_num, hown4, unhide HX, hb4⟩
            case measure => simp [intOf]; omega
          | true =>
            have HX := hide (hmany (by rw [hmv, hm]))
            rw [hm] at n2
            have N1 := hide n1; have N2 := hide n2
            clear n1 n2 hone hmany hmv hv hm
            go_wp2_with fail
            refine (unhide N1 _).mono ?_
            rintro e w1 ⟨rfl, hb1⟩
            have f9 : w1.cell? ⟨b, off + k * 3, none⟩ = _ := (hb1.cell (p := ⟨b, off + k * 3, none⟩) hbk).trans d0
            go_wp2_with fail
            refine (unhide N2 _).mono ?_
            rintro e w2 ⟨rfl, hb2'⟩
            have hb2 : Below wo.heap.size wo w2 := below_more hb1 hb1.size hb2'
            have f2 : w2.cell? ⟨b, off + k * 3 + 2, none⟩ = _ := (hb2.cell (p := ⟨b, off + k * 3 + 2, none⟩) hbk).trans d2
            clear f9
            go_wp2_with fail
            refine (unhide N5 _ (below_more hbw hbw.size hb2)).mono ?_
            rintro e w3 ⟨qv, qs, rfl, hq, hqh, hb3'⟩
            have hb3 : Below wo.heap.size wo w3 := below_more hb2 hb2.size hb3'
            have hbw3 : Below w.heap.size w w3 := below_more hbw hbw.size hb3
            have hown3 := ownsRow_kept hown hb3
            have HZ := hide (unhide HX qs hqh)
            have HM := hide (unhide HQ qs hqh)
            rcases hq.2 with ⟨rfl, hq0⟩ | ⟨g, cap', cur, rfl, hg1, hg2, hg3, hg4, hg5, hg6⟩
            · have hqn : qs = [] := List.length_eq_zero_iff.1 hq0
              subst hqn
              rw [List.append_nil] at HZ
              clear hq hqh hq0 HX HQ N5 HM hb3' hown
              go_wp2_with (at_builtin; refine wpList_append_own_none rfl _ _ 22 rfl w.heap.size 51 i0 3 Try.underlying22 hi _ _ _ rfl hown3 rfl ?_)
              go_wp2
              go_roundw
              case rel => exact ⟨k + 1, rs, by omega, by go_num, hown3, unhide HZ, hbw3⟩
              case measure => simp [intOf]; omega
            · have hcells := hq.cells (g := g) rfl
              have hql := hq.1
              clear hq hqh HX HQ N5 hb3' hown hg1 hg2 hg3 hg4 hg5 hg6
              go_wp2_with (at_builtin; refine wpList_append_own _ rfl _ _ 22 rfl w.heap.size 51 i0 (.agg #[.int .i64 0, .string ⟨#[]⟩, .slice none 0 0]) 3 48 Try.underlying22 hi hz0 hz1 hz2 rfl (by decide) _ _ _ rfl hown3 ⟨g, 0, none⟩ qs.length cap' (cellsR qs) rfl hql hcells (cellsR_one qs) ?c3 ?c4 ?c5 ?_)
              case c3 => have := unhide HL; have := unhide HM; unfold maxLen; omega
              case c4 => have := unhide HL; have := unhide HM; omega
              case c5 => have := hbw3.size; omega
              intro v' w4 hown' hgrow _
              have hb4 : Below w.heap.size w w4 := hbw3.grown hgrow (by have := hbw3.size; omega) (fun q hq => (hown3.lt q hq).1)
              have hown4 : w4.ownsRow w.heap.size 51 3 v' (rs ++ qs).length (cellsR (rs ++ qs)) := by
                rw [cellsR_append, List.length_append]
                exact hown'
              clear hown' hgrow hbw hcells hql
              go_wp2
              go_roundw
              case rel => exact ⟨k + 1, rs ++ qs, by omega, by go_num, hown4, unhide HZ, hb4⟩
              case measure => simp [intOf]; omega
      · have hke : k = l.length := by omega
        have HN := hide (show Holds rs (plainD (d + 1) l) by rw [hke, List.take_length] at hho; exact hho)
        clear hho
        go_wp2
        go_ret
        exact ⟨_, rs, rfl, hown, unhide HN, hbw⟩
end Go.Proofs.Ythamjfgiklbifab
