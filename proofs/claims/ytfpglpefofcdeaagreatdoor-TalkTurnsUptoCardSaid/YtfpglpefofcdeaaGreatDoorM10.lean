/- parseItems and Parse of the program. -/
import Derived.Test.YtfpglpefofcdeaaGreatDoorM07
import Derived.Test.YtfpglpefofcdeaaGreatDoorM09
import Derived.Deep.AppendLies
namespace Go.Proofs.YtfpglpefofcdeaaGreatDoor
open Go.RowKit
set_option linter.unusedVariables false

/-- rows as they lie, and the items that they are -/
def RHold (W : World) (A : Nat → Prop) (d : Nat) (rs : List Raw) (acc : List It) : Prop :=
  rs.length = acc.length ∧ ∀ (i : Nat) (r : Raw) (x : It), rs[i]? = some r → acc[i]? = some x → r.tag = x.tag ∧ r.text = x.text ∧ r.n = x.list.length ∧ r.n ≤ r.cc ∧ IRowA W A d r.co x.list ∧ x.tag ≤ 9223372036854775807 ∧ x.text.size ≤ maxLen
theorem RHold.kept {W W' : World} {A A' : Nat → Prop} (hs : W.heap.size ≤ W'.heap.size) (hk : ∀ b, b < W.heap.size → A b → W'.heap[b]? = W.heap[b]? ∧ A' b) {d : Nat} {rs : List Raw} {acc : List It} (h : RHold W A d rs acc) : RHold W' A' d rs acc :=
  ⟨h.1, fun i r x hr hx => by
    obtain ⟨h1, h2, h3, h4, h5, h6⟩ := h.2 i r x hr hx
    exact ⟨h1, h2, h3, h4, IRowA.kept hs hk d h5, h6⟩⟩
theorem RHold.snoc {W : World} {A : Nat → Prop} {d : Nat} {rs : List Raw} {acc : List It} (h : RHold W A d rs acc) {r : Raw} {x : It} (h1 : r.tag = x.tag) (h2 : r.text = x.text) (h3 : r.n = x.list.length) (h4 : r.n ≤ r.cc) (h5 : IRowA W A d r.co x.list) (h6 : x.tag ≤ 9223372036854775807) (h7 : x.text.size ≤ maxLen) : RHold W A d (rs ++ [r]) (acc ++ [x]) := by
  refine ⟨by simp [h.1], fun i r' x' hr hx => ?_⟩
  rcases Nat.lt_trichotomy i rs.length with hi | hi | hi
  · rw [List.getElem?_append_left hi] at hr
    rw [List.getElem?_append_left (by rw [← h.1]; exact hi)] at hx
    exact h.2 i r' x' hr hx
  · rw [List.getElem?_append_right (by omega), hi, Nat.sub_self] at hr
    rw [List.getElem?_append_right (by rw [← h.1]; omega), hi, ← h.1, Nat.sub_self] at hx
    simp at hr hx
    subst hr hx
    exact ⟨h1, h2, h3, h4, h5, h6, h7⟩
  · rw [List.getElem?_eq_none (by simp; omega)] at hr
    cases hr
theorem irow_of_raw {W : World} {base d : Nat} {v : Value} {rs : List Raw} {acc : List It} {e : TypeId} {A : Nat → Prop} (hA : ∀ b, A b → base ≤ b) (h : W.ownsRow base e 3 v rs.length (cellsR rs)) (hr : RHold W A d rs acc) :
    ∃ ao cap, v = .slice ao acc.length cap ∧ acc.length ≤ cap ∧ IRowA W (fun b => base ≤ b) (d + 1) ao acc := by
  rcases h.2 with ⟨h1, h2⟩ | ⟨g, cap, cur, h1, h2, h3, h4, h5, h6, h7⟩
  · have : acc = [] := List.length_eq_zero_iff.1 (hr.1 ▸ h2)
    subst this
    exact ⟨none, 0, h1, Nat.le_refl _, .inl rfl⟩
  · refine ⟨some ⟨g, 0, none⟩, cap, by rw [h1, hr.1], by rw [← hr.1]; exact h4, .inr ⟨g, 0, rfl, (h.lt g (by rw [h1]; rfl)).2, h2, fun i x hx => ?_⟩⟩
    have hi : i < rs.length := by
      rw [hr.1]
      rcases Nat.lt_or_ge i acc.length with h | h
      · exact h
      · rw [List.getElem?_eq_none h] at hx; cases hx
    obtain ⟨k1, k2, k3, k4, k5, k6, k7⟩ := hr.2 i rs[i] x (List.getElem?_eq_getElem hi) hx
    have hc := cellsR_get rs i rs[i] (List.getElem?_eq_getElem hi)
    have hk := h.cells (g := g) (by rw [h1]; rfl)
    have ea : ∀ k, (⟨g, 0, none⟩ : Addr).add k = ⟨g, 0 + k, none⟩ := fun k => by unfold Addr.add; split <;> simp_all
    have c1 := hk _ _ hc.1
    have c2 := hk _ _ hc.2.1
    have c3 := hk _ _ hc.2.2
    rw [ea] at c1 c2 c3
    rw [k1] at c1
    rw [k2] at c2
    rw [k3] at c3 k4
    exact ⟨rs[i].co, rs[i].cc, c1, c2, c3, k4, IRowA.mono (fun b _ hb => hA b hb) d k5, k6, k7⟩

theorem item_ok {P : ByteArray → Option (List It)} {s : ByteArray} {x : It} {r : ByteArray} (h : itemAt P s = some (x, r)) : 0 ≤ x.tag ∧ x.tag < 16777216 ∧ x.text.size ≤ s.size := by
  have hm := valN_take3 s (tagSz s.data.toList) (tagSz_le s.data.toList).2
  have ht : tagAt s = valN (s.data.toList.take (tagSz s.data.toList)) := rfl
  rw [← ht] at hm
  unfold itemAt at h
  split at h
  · cases h
  · split at h
    · cases h
    · split at h
      · cases h
      · rename_i n k hl
        split at h
        · cases h
        · split at h
          · cases hp : P ((behind (behind s (tagSz s.data.toList)) k).extract 0 n) with
            | none => rw [hp] at h; cases h
            | some l =>
              rw [hp] at h
              have := (Prod.ext_iff.1 (Option.some.inj h)).1
              simp only at this
              rw [← this]
              exact ⟨by simp [It.tag], by simp only [It.tag]; omega, Nat.zero_le _⟩
          · have := (Prod.ext_iff.1 (Option.some.inj h)).1
            simp only at this
            rw [← this]
            refine ⟨by simp [It.tag], by simp only [It.tag]; omega, ?_⟩
            simp only [It.text]
            rw [ByteArray.size_extract, behind_size, behind_size]
            omega

/-- where the reading stands -/
def PAt (P : ByteArray → Option (List It)) (s : ByteArray) (acc : List It) (s' : ByteArray) : Prop := listP P s.size s = (listP P (s.size - acc.length) s').map (acc ++ ·)
theorem empty_of {s : ByteArray} (h : s.size = 0) : s.toList.isEmpty = true := by
  rw [Lib.toList_data]
  have : s.data.toList.length = 0 := by simpa using h
  rw [List.length_eq_zero_iff.1 this]; rfl
theorem full_of {s : ByteArray} (h : s.size ≠ 0) : s.toList.isEmpty = false := by
  rw [Lib.toList_data]
  cases hq : s.data.toList with
  | nil => have : s.data.toList.length = s.size := by simp
           rw [hq] at this; simp at this; omega
  | cons a b => rfl
def strLenI : Value → Nat | .string s => s.size | _ => 0
theorem listP_step {P : ByteArray → Option (List It)} {f : Nat} {s : ByteArray} (hz : s.size ≠ 0) : listP P (f + 1) s = match itemAt P s with | none => none | some (x, r) => (listP P f r).map (x :: ·) := by
  rw [listP, if_neg hz]
  rfl
theorem three_new2 (w : World) (o : Obj) (x y z : Value) (e : TypeId) : ∀ j u, [x, y, z][j]? = some u → ((w.alloc o).alloc (.cells #[x, y, z] e)).cell? ((⟨w.heap.size + 1, 0, none⟩ : Addr).add j) = some u := by
  have := three_new (w.alloc o) x y z e
  rw [show (w.alloc o).heap.size = w.heap.size + 1 by simp] at this
  exact this
theorem listP_empty (P : ByteArray → Option (List It)) (f : Nat) {s : ByteArray} (h : s.size = 0) : listP P f s = some [] := by cases f <;> simp [listP, h]

set_option maxRecDepth 1000000 in
set_option maxHeartbeats 4000000 in
theorem parseItems_any : ∀ d, d ≤ 8 → ParseIH d
  | 0, _ => fun s w hs => by
    have hdeep : (9 : Int) - ((0 : Nat) : Int) = 9 := by omega
    rw [hdeep]
    clear hdeep
    by_cases hz : s.size = 0
    · have hr : parseD 0 s = some [] := by unfold parseD; rw [if_pos hz]
      have he := empty_of hz
      have HR := hide hr
      clear hr hz
      go_enter Tryz.func57, Tryz.ntmps57
      go_wp2
      go_loopw [0, 6] (fun sv v wr => sv = .string s ∧ v = .slice none 0 0 ∧ Below w.heap.size w wr) (fun _ _ _ => 0)
      case atStart => exact ⟨rfl, rfl, by first | exact Below.refl _ _ | exact (Below.refl _ _).drew⟩
      case round =>
        obtain ⟨rfl, rfl, hbw⟩ := hrel
        go_wp2
        go_ret2
        exact ⟨by rw [unhide HR]; exact ⟨none, 0, rfl, Nat.le_refl _, rfl⟩, hbw⟩
    · have hr : parseD 0 s = none := by unfold parseD; rw [if_neg hz]
      have he := full_of hz
      have HR := hide hr
      clear hr hz
      go_enter Tryz.func57, Tryz.ntmps57
      go_wp2
      go_ret2
      exact ⟨by rw [unhide HR]; exact ⟨_, _, _, rfl⟩, by first | exact Below.refl _ _ | exact (Below.refl _ _).drew⟩
  | d + 1, hd8 => fun s w hs => by
    have hdeep : (9 : Int) - ((d + 1 : Nat) : Int) = 8 - (d : Int) := by omega
    rw [hdeep]
    clear hdeep
    have hd7 : d ≤ 7 := by omega
    have IH := hide (parseItems_any d (by omega))
    have hres : parseD (d + 1) s = listP (parseD d) s.size s := rfl
    obtain ⟨i0, hi, hz0, hz1, hz2⟩ := info_parts infoItem
    have hdi : (d : Int) ≤ 7 := by omega
    clear hd8
    have t8 : decide ((8 : Int) < 8 - (d : Int)) = false := by simp; omega
    by_cases hz : s.size = 0
    · have hr : parseD (d + 1) s = some [] := by rw [hres]; exact listP_empty _ _ hz
      have he := empty_of hz
      have HR := hide hr
      clear hr hz hres
      go_enter Tryz.func57, Tryz.ntmps57
      go_wp2
      go_loopw [0, 6] (fun sv v wr => sv = .string s ∧ v = .slice none 0 0 ∧ Below w.heap.size w wr) (fun _ _ _ => 0)
      case atStart => exact ⟨rfl, rfl, by first | exact Below.refl _ _ | exact (Below.refl _ _).drew⟩
      case round =>
        obtain ⟨rfl, rfl, hbw⟩ := hrel
        go_wp2
        go_ret2
        exact ⟨by rw [unhide HR]; exact ⟨none, 0, rfl, Nat.le_refl _, .inl rfl⟩, hbw⟩
    · have he := full_of hz
      have HR := hide hres
      clear hres
      go_enter Tryz.func57, Tryz.ntmps57
      go_wp2
      clear he hz
      go_loopw [0, 6] (fun sv v wr => ∃ (s' : ByteArray) (acc : List It) (rs : List Raw), sv = .string s' ∧ acc.length + s'.size ≤ s.size ∧ wr.ownsRow w.heap.size 101 3 v rs.length (cellsR rs) ∧ RHold wr (fun b => w.heap.size ≤ b ∧ some b ≠ v.ownBlock) d rs acc ∧ PAt (parseD d) s acc s' ∧ Below w.heap.size w wr) (fun sv _ _ => strLenI sv)
      case atStart => exact ⟨s, [], [], rfl, by simp, World.ownsRow_nil _ _ _ _, ⟨rfl, fun i r x h => by simp at h⟩, by simp [PAt], by first | exact Below.refl _ _ | exact (Below.refl _ _).drew⟩
      case round =>
        rename World => wo
        obtain ⟨s', acc, rs, rfl, hsz, hown, hrh, hpa, hbw⟩ := hrel
        by_cases hz : s'.size = 0
        · have he := empty_of hz
          have hfin : listP (parseD d) s.size s = some acc := by
            have := hpa
            unfold PAt at this
            rw [listP_empty _ _ hz] at this
            simpa using this
          obtain ⟨ao, cap, rfl, hcap, hrow⟩ := irow_of_raw (fun b hb => hb.1) hown hrh
          have HF := hide hfin; have HW := hide hrow
          clear hpa hfin hz hrh hown hrow
          go_wp2
          go_ret2
          exact ⟨by rw [unhide HR, unhide HF]; exact ⟨ao, cap, rfl, hcap, unhide HW⟩, hbw⟩
        · have he := full_of hz
          have hs' : (s'.size : Int) ≤ 65535 := by omega
          have n1 := fun w => cutItem_any d hd7 (unhide IH) s' w hs'
          obtain ⟨f, hf⟩ : ∃ f, s.size - acc.length = f + 1 := ⟨s.size - acc.length - 1, by omega⟩
          have hpa' := hpa
          unfold PAt at hpa'
          rw [hf, listP_step hz] at hpa'
          cases hit : itemAt (parseD d) s' with
          | none =>
            rw [hit] at n1 hpa'
            have hfin : listP (parseD d) s.size s = none := by simpa using hpa'
            have N1 := hide n1; have HF := hide hfin
            clear n1 hpa hpa' hfin hit hf hz hrh hown
            go_wp2_with fail
            refine (unhide N1 _).mono ?_
            rintro e w2 ⟨⟨xt, xs, xo, xn, xc, xr, rfl⟩, hb2⟩
            go_wp2
            go_ret2
            exact ⟨by rw [unhide HR, unhide HF]; exact ⟨_, _, _, rfl⟩, (below_more hbw hbw.size hb2).alloc (by have := hbw.size; have := hb2.size; omega) _⟩
          | some xr =>
            obtain ⟨x, r⟩ := xr
            rw [hit] at n1 hpa'
            have hxs := item_size hit
            have hxo := item_ok hit
            have N1 := hide n1
            have hnext : PAt (parseD d) s (acc ++ [x]) r := by
              unfold PAt
              rw [hpa', List.length_append, show s.size - (acc.length + [x].length) = f by simp; omega]
              simp only [Option.map_map]
              congr 1
              funext y
              simp
            have hxl : acc.length + 1 + r.size ≤ s.size := by omega
            have hrl : rs.length = acc.length := hrh.1
            have HX := hide hnext; have HO := hide hxo; have HS := hide hxs; have HH := hide hrh; have HL := hide hxl; have HN := hide hrl
            clear n1 hpa hpa' hit hnext hz hxs hxo hf hrh hxl hrl
            go_wp2_with fail
            refine (unhide N1 _).mono ?_
            rintro e w2 ⟨⟨co, cc, rfl, hcc, hrow⟩, hb2⟩
            have hbw2 := below_more hbw hbw.size hb2
            have hown2 := ownsRow_kept hown hb2
            have hlt := hown.lt
            have hh2 : RHold w2 (fun b => (w.heap.size ≤ b ∧ some b ≠ u6.ownBlock)) d rs acc := RHold.kept hb2.size (fun b hb hA => ⟨hb2.block b hb, hA⟩) (unhide HH)
            have hrow2 : IRowA w2 (fun b => (w.heap.size ≤ b ∧ some b ≠ u6.ownBlock)) d co x.list := IRowA.mono (fun b _ hb => by
              have hb' : wo.heap.size ≤ b := hb
              refine ⟨by have := hbw.size; omega, fun he => ?_⟩
              have := (hlt b he.symm).2
              omega) d hrow
            have HK := hide (RHold.snoc hh2 (r := Raw.mk x.tag x.text co x.list.length cc) (x := x) rfl rfl rfl hcc hrow2 (by have := (unhide HO).2.1; omega) (by have := (unhide HO).2.2; unfold maxLen; omega))
            clear hrow hrow2 hh2 HH hlt
            have hlm : rs.length ≤ 65535 := by have := unhide HN; omega
            have HM := hide hlm
            clear hlm
            go_wp2_with (at_builtin; refine wpList_append_lies _ rfl _ _ 55 rfl w.heap.size 101 i0 (.agg #[.int .i64 0, .string ⟨#[]⟩, .slice none 0 0]) 3 48 Tryz.underlying55 hi hz0 hz1 hz2 rfl (by decide) _ _ _ rfl (World.ownsRow.alloc (World.ownsRow.alloc hown2 _) _) ⟨w2.heap.size + 1, 0, none⟩ 1 1 [.int .i64 x.tag, .string x.text, .slice co x.list.length cc] rfl rfl (three_new2 _ _ _ _ _ _) ?c2 (by omega) ?c3 ?c4 ?c5 (w2.heap.size + 2) (by simp) ?_)
            case c2 => intro u hu; simp at hu; rcases hu with rfl | rfl | rfl <;> rfl
            case c3 => have := unhide HM; unfold maxLen; omega
            case c4 => have := unhide HM; omega
            case c5 => have := hbw2.size; simp; omega
            intro g cap w4 hown' hgrow hat hglt
            have hb3 : Below w.heap.size w ((w2.alloc (.cells #[.int .i64 x.tag, .string x.text, .slice co x.list.length cc] 101)).alloc (.cells #[.int .i64 x.tag, .string x.text, .slice co x.list.length cc] 101)) := (hbw2.alloc hbw2.size _).alloc (by have := hbw2.size; simp; omega) _
            have hb4 : Below w.heap.size w w4 := hb3.grown hgrow (by have := hbw2.size; simp; omega) (fun q hq => (hown2.lt q hq).1)
            have hown4 : w4.ownsRow w.heap.size 101 3 (.slice (some ⟨g, 0, none⟩) (rs.length + 1) cap) (rs ++ [Raw.mk x.tag x.text co x.list.length cc]).length (cellsR (rs ++ [Raw.mk x.tag x.text co x.list.length cc])) := by
              rw [cellsR_append, List.length_append]
              exact hown'
            have hh4 : RHold w4 (fun b => w.heap.size ≤ b ∧ some b ≠ (Value.slice (some ⟨g, 0, none⟩) (rs.length + 1) cap).ownBlock) d (rs ++ [Raw.mk x.tag x.text co x.list.length cc]) (acc ++ [x]) :=
              RHold.kept (by have := hgrow.size; simp at this; omega) (fun b hb hA => by
                refine ⟨?_, hA.1, ?_⟩
                · rw [hgrow.block b (by simp; omega) (fun h => hA.2 h), Below.heap_alloc _ _ _ (by simp; omega), Below.heap_alloc _ _ _ hb]
                · intro he
                  simp only [Value.ownBlock, Option.some.injEq] at he
                  rcases hat with h | h
                  · exact hA.2 (by rw [h, he])
                  · omega) (unhide HK)
            clear hown' hgrow hown hbw hat hown2 hbw2 hb3 HK
            have HH4 := hide hh4
            clear hh4
            go_wp2
            go_roundw
            case rel => exact ⟨r, acc ++ [x], rs ++ [Raw.mk x.tag x.text co x.list.length cc], rfl, by have := unhide HL; simp; omega, hown4, unhide HH4, unhide HX, hb4⟩
            case measure => exact unhide HS
end Go.Proofs.YtfpglpefofcdeaaGreatDoor
namespace Go.Proofs.YtfpglpefofcdeaaGreatDoor
open Go.RowKit
set_option linter.unusedVariables false

theorem item_wt {d : Nat} {s : ByteArray} {x : It} {r : ByteArray} (ih : ∀ s l, parseD d s = some l → wt d l ≤ s.size) (h : itemAt (parseD d) s = some (x, r)) : 1 + x.text.size + wt d x.list + r.size ≤ s.size := by
  have h1 := (tagSz_le s.data.toList).1
  unfold itemAt at h
  split at h
  · cases h
  · split at h
    · cases h
    · split at h
      · cases h
      · rename_i n k hl
        have hk := lenAt_lt hl
        rw [behind_size] at hk
        split at h
        · cases h
        · rename_i hn
          rw [behind_size, behind_size] at hn
          split at h
          · cases hp : parseD d ((behind (behind s (tagSz s.data.toList)) k).extract 0 n) with
            | none => rw [hp] at h; cases h
            | some l =>
              rw [hp] at h
              have e := Option.some.inj h
              have e1 := (Prod.ext_iff.1 e).1
              have e2 := (Prod.ext_iff.1 e).2
              simp only at e1 e2
              have := ih _ _ hp
              rw [ByteArray.size_extract, behind_size, behind_size] at this
              rw [← e1, ← e2, behind_size, behind_size, behind_size]
              simp only [It.text, It.list]
              have : (⟨#[]⟩ : ByteArray).size = 0 := rfl
              omega
          · have e := Option.some.inj h
            have e1 := (Prod.ext_iff.1 e).1
            have e2 := (Prod.ext_iff.1 e).2
            simp only at e1 e2
            rw [← e1, ← e2, behind_size, behind_size, behind_size]
            simp only [It.text, It.list, wt_nil]
            rw [ByteArray.size_extract, behind_size, behind_size]
            omega
theorem list_wt {d : Nat} (ih : ∀ s l, parseD d s = some l → wt d l ≤ s.size) : ∀ (f : Nat) (s : ByteArray) (l : List It), listP (parseD d) f s = some l → wt (d + 1) l ≤ s.size
  | 0, s, l, h => by
    unfold listP at h
    split at h
    · cases h; simp [wt]
    · cases h
  | f + 1, s, l, h => by
    by_cases hz : s.size = 0
    · rw [listP_empty _ _ hz] at h; cases h; simp [wt]
    · rw [listP_step hz] at h
      cases hi : itemAt (parseD d) s with
      | none => rw [hi] at h; cases h
      | some xr =>
        obtain ⟨x, r⟩ := xr
        rw [hi] at h
        simp only at h
        cases hr : listP (parseD d) f r with
        | none => rw [hr] at h; cases h
        | some m =>
          rw [hr] at h
          have h1 := item_wt ih hi
          have h2 := list_wt ih f r m hr
          have e : l = x :: m := (Option.some.inj h).symm
          rw [e]
          simp only [wt, List.map_cons, List.sum_cons] at h2 ⊢
          omega
theorem parse_wt : ∀ (d : Nat) (s : ByteArray) (l : List It), parseD d s = some l → wt d l ≤ s.size
  | 0, s, l, h => by simp [wt]
  | d + 1, s, l, h => list_wt (parse_wt d) s.size s l h

/-- what Parse answers -/
def parsesL (s : ByteArray) : List It := if 65535 < s.size then [] else (parseD 8 s).getD []
def parsesE (s : ByteArray) : Int := if 65535 < s.size then 2 else if (parseD 8 s).isSome then 0 else 1
theorem parses_wt (s : ByteArray) : wt 8 (parsesL s) ≤ 65535 := by
  unfold parsesL
  split
  · rw [wt_nil]; omega
  · cases h : parseD 8 s with
    | none => simp [wt_nil]
    | some l => have := parse_wt 8 s l h; simp only [Option.getD_some]; omega

set_option maxRecDepth 1000000 in
theorem parse_any (s : ByteArray) (w : World) (hs : s.size ≤ maxLen) :
    Calls Tryz.prog 25 #[.string s] w fun e w' => ∃ ao cap, e = .returned (.tuple #[.slice ao (parsesL s).length cap, .int .i64 (parsesE s)]) ∧ (parsesL s).length ≤ cap ∧ IRowA w' (fun b => w.heap.size ≤ b) 8 ao (parsesL s) ∧ Below w.heap.size w w' := by
  unfold maxLen at hs
  by_cases hb : 65535 < s.size
  · have h1 : parsesL s = [] := by unfold parsesL; rw [if_pos hb]
    have h2 : parsesE s = 2 := by unfold parsesE; rw [if_pos hb]
    rw [h1, h2]
    have t1 : decide (65535 < (s.size : Int)) = true := by simp; omega
    clear h1 h2
    go_enter Tryz.func25, Tryz.ntmps25
    go_wp2
    go_ret2
    exact ⟨none, 0, rfl, Nat.le_refl _, IRowA.nil _ _ _ _, Below.refl _ _⟩
  · have n1 := fun w => parseItems_any 8 (Nat.le_refl _) s w (by omega)
    have h1 : parsesL s = (parseD 8 s).getD [] := by unfold parsesL; rw [if_neg hb]
    have h2 : parsesE s = if (parseD 8 s).isSome then 0 else 1 := by unfold parsesE; rw [if_neg hb]
    rw [h1, h2]
    have hd : (9 : Int) - ((8 : Nat) : Int) = 1 := by omega
    rw [hd] at n1
    have t1 : decide (65535 < (s.size : Int)) = false := by simp; omega
    clear h1 h2 hd
    cases hp : parseD 8 s with
    | none =>
      rw [hp] at n1
      have N1 := hide n1
      clear n1 hp hb
      go_enter Tryz.func25, Tryz.ntmps25
      go_wp2_with fail
      refine (unhide N1 _).mono ?_
      rintro e w2 ⟨⟨v, n, cap, rfl⟩, hb2⟩
      go_wp2
      go_ret2
      first
        | exact ⟨none, 0, rfl, Nat.le_refl _, IRowA.nil _ _ _ _, hb2⟩
        | exact ⟨none, ⟨0, rfl⟩, IRowA.nil _ _ _ _, hb2⟩
    | some l =>
      rw [hp] at n1
      have N1 := hide n1
      clear n1 hp hb
      go_enter Tryz.func25, Tryz.ntmps25
      go_wp2_with fail
      refine (unhide N1 _).mono ?_
      rintro e w2 ⟨⟨ao, cap, rfl, hcap, hrow⟩, hb2⟩
      have HW := hide hrow
      clear hrow
      go_wp2
      go_ret2
      exact ⟨ao, cap, rfl, hcap, unhide HW, hb2⟩

theorem below_self (w : World) (q : Nat) : Below w.heap.size w (w.drewN q) := ⟨rfl, rfl, rfl, Nat.le_refl _, fun _ _ => rfl⟩

end Go.Proofs.YtfpglpefofcdeaaGreatDoor
