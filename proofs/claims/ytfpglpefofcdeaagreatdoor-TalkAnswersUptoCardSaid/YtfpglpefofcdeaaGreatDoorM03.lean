/- Find of the reference, and the law's walk. -/
import Derived.Test.YtfpglpefofcdeaaGreatDoorM02
import Derived.Deep.AppendLies
import Derived.Deep.RegionHeld3
namespace Go.Proofs.YtfpglpefofcdeaaGreatDoor
open Go.RowKit
set_option linter.unusedVariables false

def hasR (n : Int) (r : Raw) : Option ByteArray := if r.tag = n then some r.text else none
def hasI (n : Int) (x : It) : Option ByteArray := if x.tag = n then some x.text else none
theorem find_plain (n : Int) : ∀ (d : Nat) (l : List It), findD n d l = (plainD d l).findSome? (hasI n)
  | 0, l => by simp [findD, plainD]
  | d + 1, l => by
    induction l with
    | nil => rfl
    | cons x r ih =>
      have hd := find_plain n d x.list
      simp only [findD, plainD, List.findSome?_cons, List.flatMap_cons, List.findSome?_append] at ih ⊢
      rw [← ih]
      by_cases hm : madeV x.tag = true
      · rw [if_pos hm, ← hd]
        simp only [stepF, if_pos hm]
        cases findD n d x.list <;> rfl
      · rw [if_neg hm]
        simp only [stepF, if_neg hm, List.findSome?_cons, List.findSome?_nil, hasI]
        split <;> simp_all
theorem find_holds (n : Int) : ∀ (rs : List Raw) (l : List It), Holds rs l → rs.findSome? (hasR n) = l.findSome? (hasI n)
  | [], [], _ => rfl
  | [], x :: l, h => by simp [Holds] at h
  | r :: rs, [], h => by simp [Holds] at h
  | r :: rs, x :: l, h => by
    simp only [Holds, List.map_cons, List.cons.injEq, Prod.mk.injEq] at h
    have := find_holds n rs l h.2
    simp only [List.findSome?_cons, this, hasR, hasI, h.1.1, h.1.2]
theorem cellsR_get : ∀ (rs : List Raw) (i : Nat) (r : Raw), rs[i]? = some r → (cellsR rs)[i * 3]? = some (.int .i64 r.tag) ∧ (cellsR rs)[i * 3 + 1]? = some (.string r.text) ∧ (cellsR rs)[i * 3 + 2]? = some (.slice r.co r.n r.cc)
  | [], i, r, h => by simp at h
  | q :: rs, 0, r, h => by simp at h; subst h; simp [cellsR, Raw.cells]
  | q :: rs, i + 1, r, h => by
    have := cellsR_get rs i r (by simpa using h)
    have e : cellsR (q :: rs) = .int .i64 q.tag :: .string q.text :: .slice q.co q.n q.cc :: cellsR rs := by simp [cellsR, Raw.cells]
    rw [e, show (i + 1) * 3 = i * 3 + 1 + 1 + 1 by omega]
    simpa using this
/-- rows of items as they lie -/
def RRow (W : World) (ao : Option Addr) (rs : List Raw) : Prop :=
  rs = [] ∨ ∃ b, ao = some ⟨b, 0, none⟩ ∧ b < W.heap.size ∧ ∀ i r, rs[i]? = some r → W.cell? ⟨b, 0 + i * 3, none⟩ = some (.int .i64 r.tag) ∧ W.cell? ⟨b, 0 + i * 3 + 1, none⟩ = some (.string r.text) ∧ W.cell? ⟨b, 0 + i * 3 + 2, none⟩ = some (.slice r.co r.n r.cc)
theorem rrow_of_owns {w : World} {base : Nat} {v : Value} {rs : List Raw} {e : TypeId} (h : w.ownsRow base e 3 v rs.length (cellsR rs)) : ∃ ao cap, v = .slice ao rs.length cap ∧ RRow w ao rs := by
  rcases h.2 with ⟨h1, h2⟩ | ⟨g, cap, cur, h1, h2, h3, h4, h5, h6, h7⟩
  · exact ⟨none, 0, by rw [h1, h2], .inl (List.length_eq_zero_iff.1 h2)⟩
  · refine ⟨_, cap, h1, .inr ⟨g, rfl, (h.lt g (by rw [h1]; rfl)).2, fun i r hr => ?_⟩⟩
    have hc := cellsR_get rs i r hr
    have hk := h.cells (g := g) (by rw [h1]; rfl)
    have ea : ∀ k, (⟨g, 0, none⟩ : Addr).add k = ⟨g, 0 + k, none⟩ := fun k => by unfold Addr.add; split <;> simp_all
    have k1 := hk _ _ hc.1
    have k2 := hk _ _ hc.2.1
    have k3 := hk _ _ hc.2.2
    rw [ea] at k1 k2 k3
    exact ⟨k1, k2, k3⟩
theorem findR_next {f : Raw → Option ByteArray} {l : List Raw} {k : Nat} {x : Raw} (hx : l[k]? = some x) (h : (l.take k).findSome? f = none) (hf : f x = none) : (l.take (k + 1)).findSome? f = none := by
  have hk : k < l.length := by
    rcases Nat.lt_or_ge k l.length with h | h
    · exact h
    · rw [List.getElem?_eq_none h] at hx; cases hx
  rw [List.getElem?_eq_getElem hk] at hx
  rw [List.take_succ_eq_append_getElem hk, List.findSome?_append, h, Option.some.inj hx]
  simp [hf]
theorem findR_here {f : Raw → Option ByteArray} {l : List Raw} {k : Nat} {x : Raw} {t : ByteArray} (hx : l[k]? = some x) (h : (l.take k).findSome? f = none) (hf : f x = some t) : l.findSome? f = some t := by
  have hk : k < l.length := by
    rcases Nat.lt_or_ge k l.length with h | h
    · exact h
    · rw [List.getElem?_eq_none h] at hx; cases hx
  rw [List.getElem?_eq_getElem hk] at hx
  conv => lhs; rw [← List.take_append_drop (k + 1) l]
  rw [List.findSome?_append, List.take_succ_eq_append_getElem hk, List.findSome?_append, h, Option.some.inj hx]
  simp [hf]


end Go.Proofs.YtfpglpefofcdeaaGreatDoor
namespace Go.Proofs.YtfpglpefofcdeaaGreatDoor
open Go.RowKit
set_option linter.unusedVariables false

/-- rows as they lie, and the items that they are -/
def RHold (W : World) (A : Nat → Prop) (d : Nat) (rs : List Raw) (acc : List It) : Prop :=
  rs.length = acc.length ∧ ∀ (i : Nat) (r : Raw) (x : It), rs[i]? = some r → acc[i]? = some x → r.tag = x.tag ∧ r.text = x.text ∧ r.n = x.list.length ∧ r.n ≤ r.cc ∧ IRowA W A d r.co x.list ∧ x.tag ≤ 9223372036854775807 ∧ x.text.size ≤ maxLen
theorem RHold.kept {W W' : World} {A A' : Nat → Prop} (hs : W.heap.size ≤ W'.heap.size) (hk : ∀ b, b < W.heap.size → A b → W'.heap[b]? = W.heap[b]? ∧ A' b) {d : Nat} {rs : List Raw} {acc : List It} (h : RHold W A d rs acc) : RHold W' A' d rs acc :=
  ⟨h.1, fun i r x hr hx => by
    obtain ⟨h1, h2, h3, h4, h5, h6⟩ := h.2 i r x hr hx
    exact ⟨h1, h2, h3, h4, IRowA.kept hs hk d h5, h6⟩⟩
theorem RHold.snoc {W : World} {A : Nat → Prop} {d : Nat} {rs : List Raw} {acc : List It} (h : RHold W A d rs acc) {r : Raw} {x : It} (h1 : r.tag = x.tag) (h2 : r.text = x.text) (h3 : r.n = x.list.length) (h4 : r.n ≤ r.cc) (h5 : IRowA W A d r.co x.list) (h6 : x.tag ≤ 9223372036854775807) (h7 : x.text.size ≤ maxLen) : RHold W A d (rs ++ [r]) (acc ++ [x]) := by
  refine ⟨by simp [h.1], fun i r' x' hr hx => ?_⟩
  rcases Nat.lt_trichotomy i rs.length with hi | hi | hi
  · rw [List.getElem?_append_left hi] at hr
    rw [List.getElem?_append_left (by rw [← h.1]; exact hi)] at hx
    exact h.2 i r' x' hr hx
  · rw [List.getElem?_append_right (by omega), hi, Nat.sub_self] at hr
    rw [List.getElem?_append_right (by rw [← h.1]; omega), hi, ← h.1, Nat.sub_self] at hx
    simp at hr hx
    subst hr hx
    exact ⟨h1, h2, h3, h4, h5, h6, h7⟩
  · rw [List.getElem?_eq_none (by simp; omega)] at hr
    cases hr
theorem irow_of_raw {W : World} {base d : Nat} {v : Value} {rs : List Raw} {acc : List It} {e : TypeId} {A : Nat → Prop} (hA : ∀ b, A b → base ≤ b) (h : W.ownsRow base e 3 v rs.length (cellsR rs)) (hr : RHold W A d rs acc) :
    ∃ ao cap, v = .slice ao acc.length cap ∧ acc.length ≤ cap ∧ IRowA W (fun b => base ≤ b) (d + 1) ao acc := by
  rcases h.2 with ⟨h1, h2⟩ | ⟨g, cap, cur, h1, h2, h3, h4, h5, h6, h7⟩
  · have : acc = [] := List.length_eq_zero_iff.1 (hr.1 ▸ h2)
    subst this
    exact ⟨none, 0, h1, Nat.le_refl _, .inl rfl⟩
  · refine ⟨some ⟨g, 0, none⟩, cap, by rw [h1, hr.1], by rw [← hr.1]; exact h4, .inr ⟨g, 0, rfl, (h.lt g (by rw [h1]; rfl)).2, h2, fun i x hx => ?_⟩⟩
    have hi : i < rs.length := by
      rw [hr.1]
      rcases Nat.lt_or_ge i acc.length with h | h
      · exact h
      · rw [List.getElem?_eq_none h] at hx; cases hx
    obtain ⟨k1, k2, k3, k4, k5, k6, k7⟩ := hr.2 i rs[i] x (List.getElem?_eq_getElem hi) hx
    have hc := cellsR_get rs i rs[i] (List.getElem?_eq_getElem hi)
    have hk := h.cells (g := g) (by rw [h1]; rfl)
    have ea : ∀ k, (⟨g, 0, none⟩ : Addr).add k = ⟨g, 0 + k, none⟩ := fun k => by unfold Addr.add; split <;> simp_all
    have c1 := hk _ _ hc.1
    have c2 := hk _ _ hc.2.1
    have c3 := hk _ _ hc.2.2
    rw [ea] at c1 c2 c3
    rw [k1] at c1
    rw [k2] at c2
    rw [k3] at c3 k4
    exact ⟨rs[i].co, rs[i].cc, c1, c2, c3, k4, IRowA.mono (fun b _ hb => hA b hb) d k5, k6, k7⟩

theorem item_ok {P : ByteArray → Option (List It)} {s : ByteArray} {x : It} {r : ByteArray} (h : itemAt P s = some (x, r)) : 0 ≤ x.tag ∧ x.tag < 16777216 ∧ x.text.size ≤ s.size := by
  have hm := valN_take3 s (tagSz s.data.toList) (tagSz_le s.data.toList).2
  have ht : tagAt s = valN (s.data.toList.take (tagSz s.data.toList)) := rfl
  rw [← ht] at hm
  unfold itemAt at h
  split at h
  · cases h
  · split at h
    · cases h
    · split at h
      · cases h
      · rename_i n k hl
        split at h
        · cases h
        · split at h
          · cases hp : P ((behind (behind s (tagSz s.data.toList)) k).extract 0 n) with
            | none => rw [hp] at h; cases h
            | some l =>
              rw [hp] at h
              have := (Prod.ext_iff.1 (Option.some.inj h)).1
              simp only at this
              rw [← this]
              exact ⟨by simp [It.tag], by simp only [It.tag]; omega, Nat.zero_le _⟩
          · have := (Prod.ext_iff.1 (Option.some.inj h)).1
            simp only at this
            rw [← this]
            refine ⟨by simp [It.tag], by simp only [It.tag]; omega, ?_⟩
            simp only [It.text]
            rw [ByteArray.size_extract, behind_size, behind_size]
            omega

/-- where the reading stands -/
def PAt (P : ByteArray → Option (List It)) (s : ByteArray) (acc : List It) (s' : ByteArray) : Prop := listP P s.size s = (listP P (s.size - acc.length) s').map (acc ++ ·)
theorem empty_of {s : ByteArray} (h : s.size = 0) : s.toList.isEmpty = true := by
  rw [Lib.toList_data]
  have : s.data.toList.length = 0 := by simpa using h
  rw [List.length_eq_zero_iff.1 this]; rfl
theorem full_of {s : ByteArray} (h : s.size ≠ 0) : s.toList.isEmpty = false := by
  rw [Lib.toList_data]
  cases hq : s.data.toList with
  | nil => have : s.data.toList.length = s.size := by simp
           rw [hq] at this; simp at this; omega
  | cons a b => rfl
def strLenI : Value → Nat | .string s => s.size | _ => 0
theorem listP_step {P : ByteArray → Option (List It)} {f : Nat} {s : ByteArray} (hz : s.size ≠ 0) : listP P (f + 1) s = match itemAt P s with | none => none | some (x, r) => (listP P f r).map (x :: ·) := by
  rw [listP, if_neg hz]
  rfl
theorem three_new2 (w : World) (o : Obj) (x y z : Value) (e : TypeId) : ∀ j u, [x, y, z][j]? = some u → ((w.alloc o).alloc (.cells #[x, y, z] e)).cell? ((⟨w.heap.size + 1, 0, none⟩ : Addr).add j) = some u := by
  have := three_new (w.alloc o) x y z e
  rw [show (w.alloc o).heap.size = w.heap.size + 1 by simp] at this
  exact this
theorem listP_empty (P : ByteArray → Option (List It)) (f : Nat) {s : ByteArray} (h : s.size = 0) : listP P f s = some [] := by cases f <;> simp [listP, h]

set_option maxRecDepth 1000000 in
set_option maxHeartbeats 4000000 in
theorem parseItems_any : ∀ d, d ≤ 8 → ParseIH d
  | 0, _ => fun s w hs => by
    have hdeep : (9 : Int) - ((0 : Nat) : Int) = 9 := by omega
    rw [hdeep]
    clear hdeep
    by_cases hz : s.size = 0
    · have hr : parseD 0 s = some [] := by unfold parseD; rw [if_pos hz]
      have he := empty_of hz
      have HR := hide hr
      clear hr hz
      go_enter Tryz.func57, Tryz.ntmps57
      go_wp2
      go_loopw [0, 6] (fun sv v wr => sv = .string s ∧ v = .slice none 0 0 ∧ Below w.heap.size w wr) (fun _ _ _ => 0)
      case atStart => exact ⟨rfl, rfl, by first | exact Below.refl _ _ | exact (Below.refl _ _).drew⟩
      case round =>
        obtain ⟨rfl, rfl, hbw⟩ := hrel
        go_wp2
        go_ret2
        exact ⟨by rw [unhide HR]; exact ⟨none, 0, rfl, Nat.le_refl _, rfl⟩, hbw⟩
    · have hr : parseD 0 s = none := by unfold parseD; rw [if_neg hz]
      have he := full_of hz
      have HR := hide hr
      clear hr hz
      go_enter Tryz.func57, Tryz.ntmps57
      go_wp2
      go_ret2
      exact ⟨by rw [unhide HR]; exact ⟨_, _, _, rfl⟩, by first | exact Below.refl _ _ | exact (Below.refl _ _).drew⟩
  | d + 1, hd8 => fun s w hs => by
    have hdeep : (9 : Int) - ((d + 1 : Nat) : Int) = 8 - (d : Int) := by omega
    rw [hdeep]
    clear hdeep
    have hd7 : d ≤ 7 := by omega
    have IH := hide (parseItems_any d (by omega))
    have hres : parseD (d + 1) s = listP (parseD d) s.size s := rfl
    obtain ⟨i0, hi, hz0, hz1, hz2⟩ := info_parts infoItem
    have hdi : (d : Int) ≤ 7 := by omega
    clear hd8
    have t8 : decide ((8 : Int) < 8 - (d : Int)) = false := by simp; omega
    by_cases hz : s.size = 0
    · have hr : parseD (d + 1) s = some [] := by rw [hres]; exact listP_empty _ _ hz
      have he := empty_of hz
      have HR := hide hr
      clear hr hz hres
      go_enter Tryz.func57, Tryz.ntmps57
      go_wp2
      go_loopw [0, 6] (fun sv v wr => sv = .string s ∧ v = .slice none 0 0 ∧ Below w.heap.size w wr) (fun _ _ _ => 0)
      case atStart => exact ⟨rfl, rfl, by first | exact Below.refl _ _ | exact (Below.refl _ _).drew⟩
      case round =>
        obtain ⟨rfl, rfl, hbw⟩ := hrel
        go_wp2
        go_ret2
        exact ⟨by rw [unhide HR]; exact ⟨none, 0, rfl, Nat.le_refl _, .inl rfl⟩, hbw⟩
    · have he := full_of hz
      have HR := hide hres
      clear hres
      go_enter Tryz.func57, Tryz.ntmps57
      go_wp2
      clear he hz
      go_loopw [0, 6] (fun sv v wr => ∃ (s' : ByteArray) (acc : List It) (rs : List Raw), sv = .string s' ∧ acc.length + s'.size ≤ s.size ∧ wr.ownsRow w.heap.size 101 3 v rs.length (cellsR rs) ∧ RHold wr (fun b => w.heap.size ≤ b ∧ some b ≠ v.ownBlock) d rs acc ∧ PAt (parseD d) s acc s' ∧ Below w.heap.size w wr) (fun sv _ _ => strLenI sv)
      case atStart => exact ⟨s, [], [], rfl, by simp, World.ownsRow_nil _ _ _ _, ⟨rfl, fun i r x h => by simp at h⟩, by simp [PAt], by first | exact Below.refl _ _ | exact (Below.refl _ _).drew⟩
      case round =>
        rename World => wo
        obtain ⟨s', acc, rs, rfl, hsz, hown, hrh, hpa, hbw⟩ := hrel
        by_cases hz : s'.size = 0
        · have he := empty_of hz
          have hfin : listP (parseD d) s.size s = some acc := by
            have := hpa
            unfold PAt at this
            rw [listP_empty _ _ hz] at this
            simpa using this
          obtain ⟨ao, cap, rfl, hcap, hrow⟩ := irow_of_raw (fun b hb => hb.1) hown hrh
          have HF := hide hfin; have HW := hide hrow
          clear hpa hfin hz hrh hown hrow
          go_wp2
          go_ret2
          exact ⟨by rw [unhide HR, unhide HF]; exact ⟨ao, cap, rfl, hcap, unhide HW⟩, hbw⟩
        · have he := full_of hz
          have hs' : (s'.size : Int) ≤ 65535 := by omega
          have n1 := fun w => cutItem_any d hd7 (unhide IH) s' w hs'
          obtain ⟨f, hf⟩ : ∃ f, s.size - acc.length = f + 1 := ⟨s.size - acc.length - 1, by omega⟩
          have hpa' := hpa
          unfold PAt at hpa'
          rw [hf, listP_step hz] at hpa'
          cases hit : itemAt (parseD d) s' with
          | none =>
            rw [hit] at n1 hpa'
            have hfin : listP (parseD d) s.size s = none := by simpa using hpa'
            have N1 := hide n1; have HF := hide hfin
            clear n1 hpa hpa' hfin hit hf hz hrh hown
            go_wp2_with fail
            refine (unhide N1 _).mono ?_
            rintro e w2 ⟨⟨xt, xs, xo, xn, xc, xr, rfl⟩, hb2⟩
            go_wp2
            go_ret2
            exact ⟨by rw [unhide HR, unhide HF]; exact ⟨_, _, _, rfl⟩, (below_more hbw hbw.size hb2).alloc (by have := hbw.size; have := hb2.size; omega) _⟩
          | some xr =>
            obtain ⟨x, r⟩ := xr
            rw [hit] at n1 hpa'
            have hxs := item_size hit
            have hxo := item_ok hit
            have N1 := hide n1
            have hnext : PAt (parseD d) s (acc ++ [x]) r := by
              unfold PAt
              rw [hpa', List.length_append, show s.size - (acc.length + [x].length) = f by simp; omega]
              simp only [Option.map_map]
              congr 1
              funext y
              simp
            have hxl : acc.length + 1 + r.size ≤ s.size := by omega
            have hrl : rs.length = acc.length := hrh.1
            have HX := hide hnext; have HO := hide hxo; have HS := hide hxs; have HH := hide hrh; have HL := hide hxl; have HN := hide hrl
            clear n1 hpa hpa' hit hnext hz hxs hxo hf hrh hxl hrl
            go_wp2_with fail
            refine (unhide N1 _).mono ?_
            rintro e w2 ⟨⟨co, cc, rfl, hcc, hrow⟩, hb2⟩
            have hbw2 := below_more hbw hbw.size hb2
            have hown2 := ownsRow_kept hown hb2
            have hlt := hown.lt
            have hh2 : RHold w2 (fun b => (w.heap.size ≤ b ∧ some b ≠ u6.ownBlock)) d rs acc := RHold.kept hb2.size (fun b hb hA => ⟨hb2.block b hb, hA⟩) (unhide HH)
            have hrow2 : IRowA w2 (fun b => (w.heap.size ≤ b ∧ some b ≠ u6.ownBlock)) d co x.list := IRowA.mono (fun b _ hb => by
              have hb' : wo.heap.size ≤ b := hb
              refine ⟨by have := hbw.size; omega, fun he => ?_⟩
              have := (hlt b he.symm).2
              omega) d hrow
            have HK := hide (RHold.snoc hh2 (r := Raw.mk x.tag x.text co x.list.length cc) (x := x) rfl rfl rfl hcc hrow2 (by have := (unhide HO).2.1; omega) (by have := (unhide HO).2.2; unfold maxLen; omega))
            clear hrow hrow2 hh2 HH hlt
            have hlm : rs.length ≤ 65535 := by have := unhide HN; omega
            have HM := hide hlm
            clear hlm
            go_wp2_with (at_builtin; refine wpList_append_lies _ rfl _ _ 55 rfl w.heap.size 101 i0 (.agg #[.int .i64 0, .string ⟨#[]⟩, .slice none 0 0]) 3 48 Tryz.underlying55 hi hz0 hz1 hz2 rfl (by decide) _ _ _ rfl (World.ownsRow.alloc (World.ownsRow.alloc hown2 _) _) ⟨w2.heap.size + 1, 0, none⟩ 1 1 [.int .i64 x.tag, .string x.text, .slice co x.list.length cc] rfl rfl (three_new2 _ _ _ _ _ _) ?c2 (by omega) ?c3 ?c4 ?c5 (w2.heap.size + 2) (by simp) ?_)
            case c2 => intro u hu; simp at hu; rcases hu with rfl | rfl | rfl <;> rfl
            case c3 => have := unhide HM; unfold maxLen; omega
            case c4 => have := unhide HM; omega
            case c5 => have := hbw2.size; simp; omega
            intro g cap w4 hown' hgrow hat hglt
            have hb3 : Below w.heap.size w ((w2.alloc (.cells #[.int .i64 x.tag, .string x.text, .slice co x.list.length cc] 101)).alloc (.cells #[.int .i64 x.tag, .string x.text, .slice co x.list.length cc] 101)) := (hbw2.alloc hbw2.size _).alloc (by have := hbw2.size; simp; omega) _
            have hb4 : Below w.heap.size w w4 := hb3.grown hgrow (by have := hbw2.size; simp; omega) (fun q hq => (hown2.lt q hq).1)
            have hown4 : w4.ownsRow w.heap.size 101 3 (.slice (some ⟨g, 0, none⟩) (rs.length + 1) cap) (rs ++ [Raw.mk x.tag x.text co x.list.length cc]).length (cellsR (rs ++ [Raw.mk x.tag x.text co x.list.length cc])) := by
              rw [cellsR_append, List.length_append]
              exact hown'
            have hh4 : RHold w4 (fun b => w.heap.size ≤ b ∧ some b ≠ (Value.slice (some ⟨g, 0, none⟩) (rs.length + 1) cap).ownBlock) d (rs ++ [Raw.mk x.tag x.text co x.list.length cc]) (acc ++ [x]) :=
              RHold.kept (by have := hgrow.size; simp at this; omega) (fun b hb hA => by
                refine ⟨?_, hA.1, ?_⟩
                · rw [hgrow.block b (by simp; omega) (fun h => hA.2 h), Below.heap_alloc _ _ _ (by simp; omega), Below.heap_alloc _ _ _ hb]
                · intro he
                  simp only [Value.ownBlock, Option.some.injEq] at he
                  rcases hat with h | h
                  · exact hA.2 (by rw [h, he])
                  · omega) (unhide HK)
            clear hown' hgrow hown hbw hat hown2 hbw2 hb3 HK
            have HH4 := hide hh4
            clear hh4
            go_wp2
            go_roundw
            case rel => exact ⟨r, acc ++ [x], rs ++ [Raw.mk x.tag x.text co x.list.length cc], rfl, by have := unhide HL; simp; omega, hown4, unhide HH4, unhide HX, hb4⟩
            case measure => exact unhide HS
end Go.Proofs.YtfpglpefofcdeaaGreatDoor
namespace Go.Proofs.YtfpglpefofcdeaaGreatDoor
open Go.RowKit
set_option linter.unusedVariables false

theorem item_wt {d : Nat} {s : ByteArray} {x : It} {r : ByteArray} (ih : ∀ s l, parseD d s = some l → wt d l ≤ s.size) (h : itemAt (parseD d) s = some (x, r)) : 1 + x.text.size + wt d x.list + r.size ≤ s.size := by
  have h1 := (tagSz_le s.data.toList).1
  unfold itemAt at h
  split at h
  · cases h
  · split at h
    · cases h
    · split at h
      · cases h
      · rename_i n k hl
        have hk := lenAt_lt hl
        rw [behind_size] at hk
        split at h
        · cases h
        · rename_i hn
          rw [behind_size, behind_size] at hn
          split at h
          · cases hp : parseD d ((behind (behind s (tagSz s.data.toList)) k).extract 0 n) with
            | none => rw [hp] at h; cases h
            | some l =>
              rw [hp] at h
              have e := Option.some.inj h
              have e1 := (Prod.ext_iff.1 e).1
              have e2 := (Prod.ext_iff.1 e).2
              simp only at e1 e2
              have := ih _ _ hp
              rw [ByteArray.size_extract, behind_size, behind_size] at this
              rw [← e1, ← e2, behind_size, behind_size, behind_size]
              simp only [It.text, It.list]
              have : (⟨#[]⟩ : ByteArray).size = 0 := rfl
              omega
          · have e := Option.some.inj h
            have e1 := (Prod.ext_iff.1 e).1
            have e2 := (Prod.ext_iff.1 e).2
            simp only at e1 e2
            rw [← e1, ← e2, behind_size, behind_size, behind_size]
            simp only [It.text, It.list, wt_nil]
            rw [ByteArray.size_extract, behind_size, behind_size]
            omega
theorem list_wt {d : Nat} (ih : ∀ s l, parseD d s = some l → wt d l ≤ s.size) : ∀ (f : Nat) (s : ByteArray) (l : List It), listP (parseD d) f s = some l → wt (d + 1) l ≤ s.size
  | 0, s, l, h => by
    unfold listP at h
    split at h
    · cases h; simp [wt]
    · cases h
  | f + 1, s, l, h => by
    by_cases hz : s.size = 0
    · rw [listP_empty _ _ hz] at h; cases h; simp [wt]
    · rw [listP_step hz] at h
      cases hi : itemAt (parseD d) s with
      | none => rw [hi] at h; cases h
      | some xr =>
        obtain ⟨x, r⟩ := xr
        rw [hi] at h
        simp only at h
        cases hr : listP (parseD d) f r with
        | none => rw [hr] at h; cases h
        | some m =>
          rw [hr] at h
          have h1 := item_wt ih hi
          have h2 := list_wt ih f r m hr
          have e : l = x :: m := (Option.some.inj h).symm
          rw [e]
          simp only [wt, List.map_cons, List.sum_cons] at h2 ⊢
          omega
theorem parse_wt : ∀ (d : Nat) (s : ByteArray) (l : List It), parseD d s = some l → wt d l ≤ s.size
  | 0, s, l, h => by simp [wt]
  | d + 1, s, l, h => list_wt (parse_wt d) s.size s l h

/-- what Parse answers -/
def parsesL (s : ByteArray) : List It := if 65535 < s.size then [] else (parseD 8 s).getD []
def parsesE (s : ByteArray) : Int := if 65535 < s.size then 2 else if (parseD 8 s).isSome then 0 else 1
theorem parses_wt (s : ByteArray) : wt 8 (parsesL s) ≤ 65535 := by
  unfold parsesL
  split
  · rw [wt_nil]; omega
  · cases h : parseD 8 s with
    | none => simp [wt_nil]
    | some l => have := parse_wt 8 s l h; simp only [Option.getD_some]; omega

set_option maxRecDepth 1000000 in
theorem parse_any (s : ByteArray) (w : World) (hs : s.size ≤ maxLen) :
    Calls Tryz.prog 25 #[.string s] w fun e w' => ∃ ao cap, e = .returned (.tuple #[.slice ao (parsesL s).length cap, .int .i64 (parsesE s)]) ∧ (parsesL s).length ≤ cap ∧ IRowA w' (fun b => w.heap.size ≤ b) 8 ao (parsesL s) ∧ Below w.heap.size w w' := by
  unfold maxLen at hs
  by_cases hb : 65535 < s.size
  · have h1 : parsesL s = [] := by unfold parsesL; rw [if_pos hb]
    have h2 : parsesE s = 2 := by unfold parsesE; rw [if_pos hb]
    rw [h1, h2]
    have t1 : decide (65535 < (s.size : Int)) = true := by simp; omega
    clear h1 h2
    go_enter Tryz.func25, Tryz.ntmps25
    go_wp2
    go_ret2
    exact ⟨none, 0, rfl, Nat.le_refl _, IRowA.nil _ _ _ _, Below.refl _ _⟩
  · have n1 := fun w => parseItems_any 8 (Nat.le_refl _) s w (by omega)
    have h1 : parsesL s = (parseD 8 s).getD [] := by unfold parsesL; rw [if_neg hb]
    have h2 : parsesE s = if (parseD 8 s).isSome then 0 else 1 := by unfold parsesE; rw [if_neg hb]
    rw [h1, h2]
    have hd : (9 : Int) - ((8 : Nat) : Int) = 1 := by omega
    rw [hd] at n1
    have t1 : decide (65535 < (s.size : Int)) = false := by simp; omega
    clear h1 h2 hd
    cases hp : parseD 8 s with
    | none =>
      rw [hp] at n1
      have N1 := hide n1
      clear n1 hp hb
      go_enter Tryz.func25, Tryz.ntmps25
      go_wp2_with fail
      refine (unhide N1 _).mono ?_
      rintro e w2 ⟨⟨v, n, cap, rfl⟩, hb2⟩
      go_wp2
      go_ret2
      first
        | exact ⟨none, 0, rfl, Nat.le_refl _, IRowA.nil _ _ _ _, hb2⟩
        | exact ⟨none, ⟨0, rfl⟩, IRowA.nil _ _ _ _, hb2⟩
    | some l =>
      rw [hp] at n1
      have N1 := hide n1
      clear n1 hp hb
      go_enter Tryz.func25, Tryz.ntmps25
      go_wp2_with fail
      refine (unhide N1 _).mono ?_
      rintro e w2 ⟨⟨ao, cap, rfl, hcap, hrow⟩, hb2⟩
      have HW := hide hrow
      clear hrow
      go_wp2
      go_ret2
      exact ⟨ao, cap, rfl, hcap, unhide HW, hb2⟩

theorem below_self (w : World) (q : Nat) : Below w.heap.size w (w.drewN q) := ⟨rfl, rfl, rfl, Nat.le_refl _, fun _ _ => rfl⟩

end Go.Proofs.YtfpglpefofcdeaaGreatDoor
namespace Go.Proofs.YtfpglpefofcdeaaGreatDoor
open Go.RowKit
set_option linter.unusedVariables false

theorem below_keep {w w' : World} {a : Addr} {v : Value} (h : Below w.heap.size w w') (hc : w.cell? a = some v) : w'.cell? a = some v := (h.cell (World.block_lt_of_cell? w a hc)).trans hc

/-- how a row is written: the numbers of the bytes -/
def textL (fs : List (Int × Int)) : List Int := fs.flatMap fun f => tagL f.1.toNat ++ [f.2]
theorem textL_snoc (fs : List (Int × Int)) (f : Int × Int) : textL (fs ++ [f]) = textL fs ++ (tagL f.1.toNat ++ [f.2]) := by simp [textL]
theorem textL_take (fs : List (Int × Int)) (k : Nat) (h : k < fs.length) : textL (fs.take (k + 1)) = textL (fs.take k) ++ (tagL (fs.getD k (0, 0)).1.toNat ++ [(fs.getD k (0, 0)).2]) := by
  rw [List.take_succ_eq_append_getElem h, textL_snoc]
  simp [List.getD_eq_getElem?_getD, List.getElem?_eq_getElem h]
theorem tagL_length (t : Nat) : (tagL t).length = tagLen t := bigL_length t _
theorem textL_length (fs : List (Int × Int)) : (textL fs).length ≤ 4 * fs.length := by
  induction fs with
  | nil => simp [textL]
  | cons f fs ih =>
    have h3 := (tagLen_le f.1.toNat).2
    have e : textL (f :: fs) = (tagL f.1.toNat ++ [f.2]) ++ textL fs := by simp [textL]
    rw [e, List.length_append, List.length_append, tagL_length]
    simp
    omega

theorem news_kept {W w2 : World} {row : Option Nat} {B : Nat} {x : Value} (hg : W.grownBy w2 row) (hc : W.cell? ⟨B, 0, none⟩ = some x) (hne : some B ≠ row) : ∀ j u, [x][j]? = some u → w2.cell? ((⟨B, 0, none⟩ : Addr).add j) = some u := by
  intro j u hj
  match j, hj with
  | 0, hj =>
    simp at hj
    subst hj
    simpa [Addr.add] using hg.cell hc hne

theorem ne_old {u : Value} {N : Nat} (hne : ∀ q, u.ownBlock = some q → q < N) : some N ≠ u.ownBlock := fun e => by have := hne _ e.symm; omega
theorem ne_block {u : Value} {N g n c M : Nat} (hne : ∀ q, u.ownBlock = some q → q < N) (hg : u.ownBlock = some g ∨ M ≤ g) (hM : N < M) : some N ≠ (Value.slice (some ⟨g, 0, none⟩) n c).ownBlock := fun e => by
  have e' : N = g := Option.some.inj e
  rcases hg with h | h
  · have := hne _ h; omega
  · omega

theorem second_cell (w : World) (o : Obj) (x : Value) (e : TypeId) : ((w.alloc o).alloc (.cells #[x] e)).drew.cell? ⟨w.heap.size + 1, 0, none⟩ = some x := by
  have hg := heap_alloc_new (w.alloc o) (.cells #[x] e)
  rw [World.size_alloc] at hg
  exact (cell_of_row _ _ 0 #[x] e _ hg).trans rfl

theorem own_next {W : World} {base : Nat} {e : TypeId} {v : Value} {L M : List Int} {tn ln : Nat} (hN : M = L ++ (tagL tn ++ [(ln : Int)])) (h : W.ownsRow base e 1 v (L.length + tagLen tn + 1) (L.map (Value.int .u8) ++ (tagL tn).map (Value.int .u8) ++ [.int .u8 (ln : Int)])) :
    W.ownsRow base e 1 v M.length (M.map (Value.int .u8)) := by
  subst hN
  rw [List.length_append, List.length_append, tagL_length, List.map_append, List.map_append, ← List.append_assoc]
  exact h

theorem fieldsE_zero {fs : List (Int × Int)} (h : fieldsE fs = 0) : fs.all okF = true ∧ fs.length ≤ 100 := by
  unfold fieldsE at h
  by_cases ha : fs.all okF = true
  · rw [if_pos ha] at h
    by_cases hl : 100 < fs.length
    · rw [if_pos hl] at h; simp at h
    · exact ⟨ha, by omega⟩
  · rw [if_neg ha] at h; simp at h
theorem okF_of {fs : List (Int × Int)} (h : fs.all okF = true) (k : Nat) (hk : k < fs.length) : 1 ≤ (fs.getD k (0, 0)).1 ∧ (fs.getD k (0, 0)).1 < 16777216 ∧ 0 ≤ (fs.getD k (0, 0)).2 ∧ (fs.getD k (0, 0)).2 ≤ 255 := by
  have hm : fs.getD k (0, 0) ∈ fs := by rw [List.getD_eq_getElem?_getD, List.getElem?_eq_getElem hk]; exact List.getElem_mem hk
  have := List.all_eq_true.1 h _ hm
  unfold okF at this
  simp at this
  obtain ⟨h1, h2, h3, h4⟩ := this
  obtain ⟨h5, h6⟩ := validB_lt h1
  exact ⟨h5, h6, h3, h4⟩

set_option maxRecDepth 1000000 in
theorem printF_no (fs : List (Int × Int)) (ao : Option Addr) (cap : Nat) (w : World) (hr : FRow w ao fs) (hn : FNums fs) (hl : (fs.length : Int) ≤ 9000000000000000000) (he : fieldsE fs ≠ 0) :
    Calls Tryz.prog 35 #[.slice ao fs.length cap] w fun e w' => e = .returned (.tuple #[.string ⟨#[]⟩, .int .i64 (fieldsE fs)]) ∧ Below w.heap.size w w' := by
  have n1 := fun w' (h : FRow w' ao fs) => checkFields_any fs ao cap w' h hn hl
  generalize fieldsE fs = er at *
  have he' : (er != 0) = true := by simpa using he
  have N1 := hide n1
  clear n1 he
  go_enter Tryz.func35, Tryz.ntmps35
  go_wp2_with fail
  refine (unhide N1 _ hr).mono ?_
  rintro e w1 ⟨rfl, hb1⟩
  go_wp2
  go_ret2
  exact ⟨rfl, hb1⟩

set_option maxRecDepth 1000000 in
set_option maxHeartbeats 4000000 in
theorem printF_yes (fs : List (Int × Int)) (ao : Option Addr) (cap : Nat) (w : World) (hr : FRow w ao fs) (hn : FNums fs) (he : fieldsE fs = 0) :
    Calls Tryz.prog 35 #[.slice ao fs.length cap] w fun e w' => e = .returned (.tuple #[.string (strOfNums (textL fs)), .int .i64 0]) ∧ Below w.heap.size w w' := by
  obtain ⟨i0, hi, hz0, hz1, hz2⟩ := info_parts infoByte
  obtain ⟨hall, h100⟩ := fieldsE_zero he
  have n1 := fun w' (h : FRow w' ao fs) => checkFields_any fs ao cap w' h hn (by omega)
  rw [he] at n1
  have N1 := hide n1; have HA := hide hall
  clear n1 hall he hn
  go_enter Tryz.func35, Tryz.ntmps35
  go_wp2_with fail
  refine (unhide N1 _ hr).mono ?_
  rintro e w1 ⟨rfl, hb1⟩
  have hr1 := hr.below hb1
  clear hr
  go_wp2
  go_loopw [5, 15] (fun v i wr => ∃ k : Nat, k ≤ fs.length ∧ i = .int .i64 k ∧ wr.ownsRow w1.heap.size 5 1 v (textL (fs.take k)).length ((textL (fs.take k)).map (Value.int .u8)) ∧ Below w1.heap.size w1 wr) (fun _ i _ => fs.length - (intOf i).toNat)
  case atStart => exact ⟨0, Nat.zero_le _, rfl, World.ownsRow_nil _ _ _ _, Below.refl _ _⟩
  case round =>
    obtain ⟨k, hk, rfl, hown, hbw⟩ := hrel
    by_cases hlt : k < fs.length
    · rcases hr1 with hnil | ⟨b, off, rfl, hb, hc⟩
      · rw [hnil] at hlt; simp at hlt
      obtain ⟨c0, c1⟩ := hc k hlt
      have d0 : wr.cell? ⟨b, off + k * 2, none⟩ = _ := (hbw.cell (p := ⟨b, off + k * 2, none⟩) hb).trans c0
      have d1 : wr.cell? ⟨b, off + k * 2 + 1, none⟩ = _ := (hbw.cell (p := ⟨b, off + k * 2 + 1, none⟩) hb).trans c1
      have hnext := textL_take fs k hlt
      have hlen := textL_length (fs.take k)
      have hlen2 : (fs.take k).length ≤ 100 := by have := List.length_take_le k fs; omega
      obtain ⟨o1, o2, o3, o4⟩ := okF_of (unhide HA) k hlt
      generalize fs.getD k (0, 0) = f at *
      obtain ⟨ft, fl⟩ := f
      simp only at d0 d1 o1 o2 o3 o4 hnext
      obtain ⟨tn, rfl⟩ := Int.eq_ofNat_of_zero_le (show 0 ≤ ft by omega)
      obtain ⟨ln, rfl⟩ := Int.eq_ofNat_of_zero_le o3
      rw [Int.toNat_natCast] at hnext
      have ht3 := (tagLen_le tn).2
      have HN := hide hnext
      have htn : tn < 16777216 := by omega
      have HT := hide htn
      clear c0 c1 hc hnext o1 o2 o3 htn
      have hw8 : IntKind.u8.wrap (ln : Int) = (ln : Int) := wraps_u8 _ (by omega) (by omega)
      have hsz0 := hbw.size
      have hne : ∀ q, u5.ownBlock = some q → q < wr.heap.size := fun q hq => (hown.lt q hq).2
      go_wp2_with fail
      go_region_held3 (fun w' => w'.cell? ⟨wr.heap.size, 0, none⟩ = some (.int .i64 (tn : Int)) ∧ w'.cell? ⟨wr.heap.size, 1, none⟩ = some (.int .i64 (ln : Int)))
        (first
          | go_keep
          | (have hq := hat3; go_split_ands; refine ⟨hgrow.cell (by assumption) ?_, hgrow.cell (by assumption) ?_⟩; exact ne_block hne hg2 (by first | (simp; done) | (simp; omega)); exact ne_block hne hg2 (by first | (simp; done) | (simp; omega)))
          | (have hq := grow2; go_split_ands; refine ⟨grow2.cell (by assumption) ?_, grow2.cell (by assumption) ?_⟩; exact ne_old hne; exact ne_old hne))
        ((first
          | (go_at_call 73; refine (appendTag_any tn w1.heap.size (textL (fs.take k)).length _ ((textL (fs.take k)).map (Value.int .u8)) _ (unhide HT) ?_ ?_ ?_).mono ?_; (first | exact (hown.alloc _).drew | exact ((hown.alloc _).alloc _).drew); omega; (simp; omega); rintro e w2 ⟨g2, cp2, rfl, own2, grow2, hg2⟩)
          | (have hq := own2; refine step_append_lies _ (by rfl) _ _ _ (by rfl) w1.heap.size 5 i0 _ 1 1 Tryz.underlying104 hi hz0 hz1 hz2 rfl (by omega) _ _ _ (by rfl) (own2.alloc _) ⟨w2.heap.size, 0, none⟩ 1 1 [.int .u8 (ln : Int)] (by rfl) (by rfl) (cell_one_new _ _ _) (by simp [Value.oneCell']) (by omega) (by unfold maxLen; omega) (by omega) (by have := grow2.size; simp at this; simp; omega) (w2.heap.size + 1) (by simp) ?_; intro gg cap' w3 own3 hgrow hat3 hlt3)
          | (have hq := own2; refine step_append_lies _ (by rfl) _ _ _ (by rfl) w1.heap.size 5 i0 _ 1 1 Tryz.underlying104 hi hz0 hz1 hz2 rfl (by omega) _ _ _ (by rfl) own2 ⟨wr.heap.size + 1, 0, none⟩ 1 1 [.int .u8 (ln : Int)] (by rfl) (by rfl) (news_kept grow2 (second_cell _ _ _ _) (fun e => by have := hne _ e.symm; omega)) (by simp [Value.oneCell']) (by omega) (by unfold maxLen; omega) (by omega) (by have := grow2.size; simp at this; omega) w2.heap.size rfl ?_; intro gg cap' w3 own3 hgrow hat3 hlt3)))
      · have hb2 : Below w1.heap.size w1 w2 := ((hbw.alloc hsz0 _).drew).grown grow2 (by simp; omega) (fun q hq => (hown.lt q hq).1)
        have hb3 := (hb2.alloc hb2.size _).grown hgrow (by have := hb2.size; simp; omega) (fun q hq => (own2.lt q hq).1)
        have own4 := own_next (unhide HN) own3
        clear hb2 hgrow own3 own2 grow2 hown hbw
        go_wp2
        go_roundw
        case rel => exact ⟨k + 1, by omega, by go_num, own4, hb3⟩
        case measure => simp [intOf]; omega
      · have hb2 : Below w1.heap.size w1 w2 := (((hbw.alloc hsz0 _).alloc (by simp; omega) _).drew).grown grow2 (by simp; omega) (fun q hq => (hown.lt q hq).1)
        have hb3 := hb2.grown hgrow hb2.size (fun q hq => (own2.lt q hq).1)
        have own4 := own_next (unhide HN) own3
        clear hb2 hgrow own3 own2 grow2 hown hbw
        go_wp2
        go_roundw
        case rel => exact ⟨k + 1, by omega, by go_num, own4, hb3⟩
        case measure => simp [intOf]; omega
    · have hkl : k = fs.length := by omega
      subst hkl
      rw [List.take_of_length_le (Nat.le_refl _)] at hown
      have hbz : Below w.heap.size w wr := hb1.trans (hbw.mono hb1.size)
      rcases owned_cells hown with ⟨hv, hn⟩ | ⟨g, cap', hv, _, hcl⟩
      · have hcv := run_convert_bytes_nil (P := Tryz.prog) wr 104 5 Tryz.underlying104 Tryz.underlying5 0 0 9 Tryz.underlying9
        subst hv
        have HN := hide hn
        clear hown hn hr1
        go_wp2
        go_ret2
        exact ⟨by rw [unhide HN]; rfl, hbz⟩
      · have hcv := run_convert_bytes_arg (P := Tryz.prog) wr 104 5 Tryz.underlying104 Tryz.underlying5 g 0 (textL fs).length cap' _ rfl hcl 9 Tryz.underlying9
        subst hv
        clear hown hcl hr1
        go_wp2
        go_ret2
        exact ⟨rfl, hbz⟩
end Go.Proofs.YtfpglpefofcdeaaGreatDoor
namespace Go.Proofs.YtfpglpefofcdeaaGreatDoor
open Go.RowKit
set_option linter.unusedVariables false

def printS (fs : List (Int × Int)) : ByteArray := if fieldsE fs = 0 then strOfNums (textL fs) else ⟨#[]⟩
theorem printF_all (fs : List (Int × Int)) (ao : Option Addr) (cap : Nat) (w : World) (hr : FRow w ao fs) (hn : FNums fs) (hl : (fs.length : Int) ≤ 9000000000000) :
    Calls Tryz.prog 35 #[.slice ao fs.length cap] w fun e w' => e = .returned (.tuple #[.string (printS fs), .int .i64 (fieldsE fs)]) ∧ Below w.heap.size w w' := by
  unfold printS
  by_cases he : fieldsE fs = 0
  · rw [if_pos he, he]; exact printF_yes fs ao cap w hr hn he
  · rw [if_neg he]; exact printF_no fs ao cap w hr hn (by omega) he

theorem three_sizes (L : List Int) (tn ln : Nat) : (strOfNums (tagL tn)).size ≤ 3 ∧ (strOfNums [lowByte (ln : Int)]).size ≤ 1 ∧ (strOfNums (tagL tn) ++ strOfNums [lowByte (ln : Int)]).size ≤ 4 := by
  have h := (tagLen_le tn).2
  rw [ByteArray.size_append, strOfNums_size, strOfNums_size, tagL_length]
  simp
  omega

theorem new_cell (w : World) (x : Value) (e : TypeId) : (w.alloc (.cells #[x] e)).cell? ⟨w.heap.size, 0, none⟩ = some x := (cell_of_row _ _ 0 #[x] e _ (heap_alloc_new w _)).trans rfl
theorem bytes_low (ln : Nat) (hlow : lowByte (ln : Int) = (ln : Int)) (b off cap : Nat) (w : World) (hc : w.cell? ⟨b, off, none⟩ = some (.int .i64 (ln : Int))) :
    Calls Tryz.prog 19 #[.slice (some ⟨b, off, none⟩) 1 cap] w fun e w' => e = .returned (.string (strOfNums [(ln : Int)])) ∧ Below w.heap.size w w' := by
  have h := bytes_one (ln : Int) b off cap w (World.block_lt_of_cell? _ _ hc) hc
  rw [hlow] at h
  exact h

set_option maxRecDepth 1000000 in
set_option maxHeartbeats 4000000 in
theorem rprintF_all (fs : List (Int × Int)) (ao : Option Addr) (cap : Nat) (w : World) (hr : FRow w ao fs) (hn : FNums fs) (hl : (fs.length : Int) ≤ 9000000000000) :
    Calls Tryz.prog 41 #[.slice ao fs.length cap] w fun e w' => e = .returned (.tuple #[.string (printS fs), .int .i64 (fieldsE fs)]) ∧ Below w.heap.size w w' := by
  go_enter Tryz.func41, Tryz.ntmps41
  go_wp2
  go_loopw [4, 5] (fun s i wr => ∃ k : Nat, k ≤ fs.length ∧ i = .int .i64 k ∧ s = .string (strOfNums (textL (fs.take k))) ∧ AllTo fs k ∧ Below w.heap.size w wr) (fun _ i _ => fs.length - (intOf i).toNat)
  case atStart => exact ⟨0, Nat.zero_le _, rfl, rfl, by simp [AllTo], Below.refl _ _⟩
  case round =>
    obtain ⟨k, hk, rfl, rfl, hall', hbw⟩ := hrel
    have hall : (fs.take k).all okF = true := hall'
    clear hall'
    by_cases hlt : k < fs.length
    · rcases hr with hnil | ⟨b, off, rfl, hb, hc⟩
      · rw [hnil] at hlt; simp at hlt
      obtain ⟨c0, c1⟩ := hc k hlt
      have d0 : wr.cell? ⟨b, off + k * 2, none⟩ = _ := (hbw.cell (p := ⟨b, off + k * 2, none⟩) hb).trans c0
      have d1 : wr.cell? ⟨b, off + k * 2 + 1, none⟩ = _ := (hbw.cell (p := ⟨b, off + k * 2 + 1, none⟩) hb).trans c1
      have hnext := all_take_succ fs k hlt
      rw [hall, Bool.true_and] at hnext
      have hfn : (fs.getD k (0, 0)).1 ≤ 9223372036854775807 := hn _ (by
        rw [List.getD_eq_getElem?_getD, List.getElem?_eq_getElem hlt]; exact List.getElem_mem hlt)
      have hfo : okF (fs.getD k (0, 0)) = false → fieldsE fs = 1 := fun h => by
        unfold fieldsE
        rw [all_of_take_false fs (k + 1) (by rw [hnext, h]), if_neg (by decide)]
      have htext := textL_take fs k hlt
      generalize fs.getD k (0, 0) = f at *
      obtain ⟨ft, fl⟩ := f
      simp only at d0 d1 hfn htext
      have n1 := fun w => rvalid_any ft w hfn
      have hbk : b < wr.heap.size := World.block_lt_of_cell? _ _ d0
      have hki : (k : Int) < (fs.length : Int) := by omega
      have hs1 : ((strOfNums (textL (fs.take k))).size : Int) ≤ 40000000000000 := by
        have h1 := textL_length (fs.take k)
        have h2 := List.length_take_le k fs
        rw [strOfNums_size]
        omega
      generalize hs0 : strOfNums (textL (fs.take k)) = s at *
      have HS0 := hide hs0
      clear c0 c1 hc hs0
      have fin : fieldsE fs = 1 → Ending.returned (.tuple #[.string ⟨#[]⟩, .int .i64 1]) = .returned (.tuple #[.string (printS fs), .int .i64 (fieldsE fs)]) := fun h => by
        unfold printS
        rw [h, if_neg (by decide)]
      have FIN := hide fin
      clear fin
      cases hv : validB ft with
      | false =>
        rw [hv] at n1
        have N1 := hide n1
        have HO := hide (hfo (by unfold okF; rw [hv, Bool.false_and]))
        clear n1 hfo hnext hall hv htext
        go_wp2_with fail
        refine (unhide N1 _).mono ?_
        rintro e w2 ⟨rfl, hb2⟩
        have hbz : Below w.heap.size w w2 := hbw.trans (hb2.mono hbw.size)
        clear hb2
        go_wp2
        go_ret2
        exact ⟨unhide FIN (unhide HO), hbz⟩
      | true =>
        obtain ⟨h1, h2⟩ := validB_lt hv
        obtain ⟨tn, rfl⟩ := Int.eq_ofNat_of_zero_le (show 0 ≤ ft by omega)
        have n2 := fun w => rmade_any tn w (by omega)
        have n3 := fun w => tagText_any tn w (by omega)
        rw [hv] at n1
        rw [Int.toNat_natCast] at htext
        have N3 := hide n3
        clear n3
        cases hm : madeB tn with
        | true =>
          rw [hm] at n2
          have N1 := hide n1; have N2 := hide n2
          have HO := hide (hfo (by unfold okF; simp [hv, hm]))
          clear n1 n2 hfo hnext hall hv hm htext h1 h2 hfn hn
          go_wp2_with fail
          refine (unhide N1 _).mono ?_
          rintro e w2 ⟨rfl, hb2⟩
          have hbz : Below w.heap.size w w2 := hbw.trans (hb2.mono hbw.size)
          have e0 := below_keep hb2 d0
          have e1 := below_keep hb2 d1
          clear hb2
          go_wp2_with fail
          refine (unhide N2 _).mono ?_
          rintro e w3 ⟨rfl, hb3⟩
          have hby : Below w.heap.size w w3 := hbz.trans (hb3.mono hbz.size)
          have f0 := below_keep hb3 e0
          have f1 := below_keep hb3 e1
          clear hb3
          go_wp2
          go_ret2
          exact ⟨unhide FIN (unhide HO), hby⟩
        | false =>
          rw [hm] at n2
          have N1 := hide n1; have N2 := hide n2
          by_cases hl0 : fl < 0
          · have HO := hide (hfo (by unfold okF; simp; intros; omega))
            clear n1 n2 hfo hnext hall hv hm htext h1 h2 hfn hn
            go_wp2_with fail
            refine (unhide N1 _).mono ?_
            rintro e w2 ⟨rfl, hb2⟩
            have hbz : Below w.heap.size w w2 := hbw.trans (hb2.mono hbw.size)
            have e0 := below_keep hb2 d0
            have e1 := below_keep hb2 d1
            clear hb2
            go_wp2_with fail
            refine (unhide N2 _).mono ?_
            rintro e w3 ⟨rfl, hb3⟩
            have hby : Below w.heap.size w w3 := hbz.trans (hb3.mono hbz.size)
            have f0 := below_keep hb3 e0
            have f1 := below_keep hb3 e1
            clear hb3
            go_wp2
            go_ret2
            exact ⟨unhide FIN (unhide HO), hby⟩
          · by_cases hl2 : 255 < fl
            · have HO := hide (hfo (by unfold okF; simp; intros; omega))
              clear n1 n2 hfo hnext hall hv hm htext h1 h2 hfn hn
              go_wp2_with fail
              refine (unhide N1 _).mono ?_
              rintro e w2 ⟨rfl, hb2⟩
              have hbz : Below w.heap.size w w2 := hbw.trans (hb2.mono hbw.size)
              have e0 := below_keep hb2 d0
              have e1 := below_keep hb2 d1
              clear hb2
              go_wp2_with fail
              refine (unhide N2 _).mono ?_
              rintro e w3 ⟨rfl, hb3⟩
              have hby : Below w.heap.size w w3 := hbz.trans (hb3.mono hbz.size)
              have f0 := below_keep hb3 e0
              have f1 := below_keep hb3 e1
              clear hb3
              go_wp2
              go_ret2
              exact ⟨unhide FIN (unhide HO), hby⟩
            · have hok : okF ((tn : Int), fl) = true := by unfold okF; simp [hv, hm]; omega
              rw [hok] at hnext
              obtain ⟨ln, rfl⟩ := Int.eq_ofNat_of_zero_le (show 0 ≤ fl by omega)
              have g1 : (ln : Int) ≤ 255 := by omega
              obtain ⟨z1, z2, z3⟩ := three_sizes [] tn ln
              have hlow : lowByte (ln : Int) = (ln : Int) := by unfold lowByte; omega
              rw [hlow] at z2 z3
              have z1' : (strOfNums (bigL tn (tagLen tn))).size ≤ 3 := z1
              have z3' : (strOfNums (bigL tn (tagLen tn)) ++ strOfNums [(ln : Int)]).size ≤ 4 := z3
              clear z1 z3
              have ha1 := fun w' => run_string_add_sum (P := Tryz.prog) w' (strOfNums (bigL tn (tagLen tn))) (strOfNums [(ln : Int)]) (by omega)
              have ha2 := fun w' => run_string_add_sum (P := Tryz.prog) w' s (strOfNums (bigL tn (tagLen tn)) ++ strOfNums [(ln : Int)]) (by omega)
              have HX := hide hnext; have HT := hide htext; have HL := hide hlow
              clear n1 n2 hfo hnext hall hv hm hok hl0 hl2 h1 h2 hfn hn htext hlow FIN
              go_wp2_with fail
              refine (unhide N1 _).mono ?_
              rintro e w2 ⟨rfl, hb2⟩
              have hbz : Below w.heap.size w w2 := hbw.trans (hb2.mono hbw.size)
              have e0 := below_keep hb2 d0
              have e1 := below_keep hb2 d1
              clear hb2
              go_wp2_with fail
              refine (unhide N2 _).mono ?_
              rintro e w3 ⟨rfl, hb3⟩
              have hby : Below w.heap.size w w3 := hbz.trans (hb3.mono hbz.size)
              have f0 := below_keep hb3 e0
              have f1 := below_keep hb3 e1
              clear hb3
              clear d0 d1 e0 e1 hbz
              go_wp2_with fail
              go_region_held3 (fun w' => w'.cell? ⟨b, off + k * 2, none⟩ = some (.int .i64 (tn : Int)) ∧ w'.cell? ⟨b, off + k * 2 + 1, none⟩ = some (.int .i64 (ln : Int)))
                (first
                  | go_keep
                  | (have hq := hb5; go_split_ands; exact ⟨below_keep hb5 (by assumption), below_keep hb5 (by assumption)⟩)
                  | (have hq := hb4; go_split_ands; exact ⟨below_keep hb4 (by assumption), below_keep hb4 (by assumption)⟩))
                ((first
                  | (go_at_call 80; refine (unhide N3 _).mono ?_; rintro e w4 ⟨rfl, hb4⟩)
                  | (go_at_call 19; refine (bytes_low ln (unhide HL) _ _ _ _ ?_).mono ?_; exact new_cell _ _ _; rintro e w5 ⟨rfl, hb5⟩)
                  | (go_at_call 19; refine (bytes_low ln (unhide HL) _ _ _ _ ?_).mono ?_; exact below_keep hb4 (new_cell _ _ _); rintro e w5 ⟨rfl, hb5⟩)))
              · have hbp := hby.drew.trans (hb4.mono (by simp; exact hby.size))
                have hbq := (hbp.alloc hbp.size _).trans (hb5.mono (by have := hbp.size; simp; omega))
                have hst : strOfNums (textL (fs.take (k + 1))) = s ++ (strOfNums (bigL tn (tagLen tn)) ++ strOfNums [(ln : Int)]) := by
                  rw [unhide HT, ← strOfNums_append, ← strOfNums_append, unhide HS0]
                have HST := hide hst
                clear hst hb4 hb5
                go_wp2
                go_roundw
                case rel => exact ⟨k + 1, by omega, by go_num, by rw [unhide HST], unhide HX, hbq⟩
                case measure => simp [intOf]; omega
              · have hbp := ((hby.alloc hby.size _).drew).trans (hb4.mono (by have := hby.size; simp; omega))
                have hbq := hbp.trans (hb5.mono hbp.size)
                have hst : strOfNums (textL (fs.take (k + 1))) = s ++ (strOfNums (bigL tn (tagLen tn)) ++ strOfNums [(ln : Int)]) := by
                  rw [unhide HT, ← strOfNums_append, ← strOfNums_append, unhide HS0]
                have HST := hide hst
                clear hst hb4 hb5
                go_wp2
                go_roundw
                case rel => exact ⟨k + 1, by omega, by go_num, by rw [unhide HST], unhide HX, hbq⟩
                case measure => simp [intOf]; omega
    · rw [List.take_of_length_le (by omega)] at hall
      have he : fieldsE fs = if 100 < fs.length then 2 else 0 := by unfold fieldsE; rw [if_pos hall]
      have hkl : k = fs.length := by omega
      subst hkl
      rw [List.take_of_length_le (Nat.le_refl _)]
      have HE := hide he
      clear hall he
      by_cases h100 : 100 < fs.length
      · have H1 := hide h100
        go_wp2
        go_ret2
        exact ⟨by unfold printS; rw [unhide HE, if_pos (unhide H1), if_neg (by decide)]; rfl, hbw⟩
      · have H1 := hide h100
        go_wp2
        go_ret2
        exact ⟨by unfold printS; rw [unhide HE, if_neg (unhide H1), if_pos rfl]; rfl, hbw⟩
end Go.Proofs.YtfpglpefofcdeaaGreatDoor
namespace Go.Proofs.YtfpglpefofcdeaaGreatDoor
open Go.RowKit
set_option linter.unusedVariables false

theorem take_eq_succ (a b : List (Int × Int)) (k : Nat) (ha : k < a.length) (hb : k < b.length) (h : a.take k = b.take k) : a.take (k + 1) = b.take (k + 1) ↔ a.getD k (0, 0) = b.getD k (0, 0) := by
  have ea := List.take_succ_eq_append_getElem ha
  have eb := List.take_succ_eq_append_getElem hb
  have ga : a.getD k (0, 0) = a[k] := by simp [List.getD_eq_getElem?_getD, List.getElem?_eq_getElem ha]
  have gb : b.getD k (0, 0) = b[k] := by simp [List.getD_eq_getElem?_getD, List.getElem?_eq_getElem hb]
  rw [ea, eb, h, ga, gb]
  simp only [List.append_cancel_left_eq, List.cons.injEq, and_true]

set_option maxRecDepth 1000000 in
set_option maxHeartbeats 4000000 in
theorem sameF_any (fs gs : List (Int × Int)) (ao bo : Option Addr) (c d : Nat) (w : World) (hf : FRow w ao fs) (hg : FRow w bo gs) (hl : (fs.length : Int) ≤ 9000000000000) (hl2 : (gs.length : Int) ≤ 9000000000000) :
    Calls Tryz.prog 82 #[.slice ao fs.length c, .slice bo gs.length d] w fun e w' => e = .returned (.bool (decide (fs = gs))) ∧ Below w.heap.size w w' := by
  by_cases hlen : fs.length = gs.length
  · have t1 : ((fs.length : Int) != (gs.length : Int)) = false := by rw [bne_eq_false_iff_eq]; omega
    have hle : fs.length ≤ gs.length := by omega
    have hge : gs.length ≤ fs.length := by omega
    have HL := hide hlen
    clear hlen
    go_enter Tryz.func82, Tryz.ntmps82
    go_wp2
    go_loopw [13] (fun i wr => ∃ k : Nat, k ≤ fs.length ∧ i = .int .i64 k ∧ Hid (fs.take k = gs.take k) ∧ ∃ q, wr = w.drewN q) (fun i _ => fs.length - (intOf i).toNat)
    case atStart => exact ⟨0, Nat.zero_le _, rfl, hide rfl, 0, rfl⟩
    case round =>
      obtain ⟨k, hk, rfl, hsame, q, rfl⟩ := hrel
      by_cases hlt : k < fs.length
      · rcases hf with hnil | ⟨b, off, rfl, hb, hc⟩
        · rw [hnil] at hlt; simp at hlt
        rcases hg with hnil | ⟨b', off', rfl, hb', hc'⟩
        · have : gs.length = 0 := by rw [hnil]; rfl
          omega
        obtain ⟨c0, c1⟩ := hc k hlt
        obtain ⟨c2, c3⟩ := hc' k (by omega)
        have hiff := take_eq_succ fs gs k hlt (by omega) (unhide hsame)
        have hki : (k : Int) < (fs.length : Int) := by omega
        have hki2 : (k : Int) < (gs.length : Int) := by omega
        generalize fs.getD k (0, 0) = f at *
        generalize gs.getD k (0, 0) = g at *
        obtain ⟨ft, fl⟩ := f
        obtain ⟨gt, gl⟩ := g
        simp only at c0 c1 c2 c3
        have HI := hide hiff
        clear hc hc' hiff
        by_cases h1 : ft = gt
        · subst h1
          by_cases h2 : fl = gl
          · subst h2
            go_wp2_with fail
            go_quiet (fail)
            go_wp2
            go_roundw
            case rel => exact ⟨k + 1, by omega, by go_num, hide ((unhide HI).2 (by first | rfl | trivial)), _, rfl⟩
            case measure => simp [intOf]; omega
          · have hne : ¬ fs = gs := fun e => by
              rw [e] at HI
              have := (unhide HI).1 rfl
              simp at this
              exact h2 this
            have HN := hide hne
            clear hne
            go_wp2_with fail
            go_quiet (fail)
            go_wp2
            go_ret
            exact ⟨ret_bool (decide_eq_false (unhide HN)).symm, below_drewN (below_drewN (Below.refl _ _) _) _⟩
        · have hne : ¬ fs = gs := fun e => by
            rw [e] at HI
            have := (unhide HI).1 rfl
            simp at this
            exact h1 this.1
          have HN := hide hne
          clear hne
          go_wp2_with fail
          go_quiet (fail)
          go_wp2
          go_ret
          exact ⟨ret_bool (decide_eq_false (unhide HN)).symm, below_drewN (below_drewN (Below.refl _ _) _) _⟩
      · have heq : fs = gs := by
          have := unhide hsame
          rw [List.take_of_length_le (by omega), List.take_of_length_le (by omega)] at this
          exact this
        have HQ := hide heq
        clear heq hsame
        go_wp2
        go_ret
        exact ⟨ret_bool (decide_eq_true (unhide HQ)).symm, below_drewN (Below.refl _ _) _⟩
  · have t1 : ((fs.length : Int) != (gs.length : Int)) = true := by rw [bne_iff_ne]; omega
    have hne : ¬ fs = gs := fun e => hlen (by rw [e])
    have HN := hide hne
    clear hne hlen
    go_enter Tryz.func82, Tryz.ntmps82
    go_wp2
    go_ret
    exact ⟨ret_bool (decide_eq_false (unhide HN)).symm, Below.refl _ _⟩
end Go.Proofs.YtfpglpefofcdeaaGreatDoor
namespace Go.Proofs.YtfpglpefofcdeaaGreatDoor
open Go.RowKit
set_option linter.unusedVariables false

/-- the field at the beginning, and what is behind it -/
def fieldAt (l : List UInt8) : Option ((Int × Int) × List UInt8) :=
  if tagSz l < l.length ∧ validB (valN (l.take (tagSz l))) = true ∧ madeB (valN (l.take (tagSz l))) = false then
    some (((valN (l.take (tagSz l)) : Int), ((l.getD (tagSz l) 0).toNat : Int)), l.drop (tagSz l + 1)) else none
/-- a row that is read, of at most n fields -/
def parseL : Nat → List UInt8 → Option (List (Int × Int))
  | 0, l => if l = [] then some [] else none
  | n + 1, l => if l = [] then some [] else match fieldAt l with | none => none | some (f, r) => (parseL n r).map (f :: ·)
def parsed (l : List UInt8) : List (Int × Int) := (parseL 100 l).getD []
def parseE (l : List UInt8) : Int := if (parseL 100 l).isSome then 0 else 1
def cellsF (fs : List (Int × Int)) : List Value := fs.flatMap fun f => [.int .i64 f.1, .int .i64 f.2]
theorem cellsF_snoc (fs : List (Int × Int)) (f : Int × Int) : cellsF (fs ++ [f]) = cellsF fs ++ [.int .i64 f.1, .int .i64 f.2] := by simp [cellsF]
theorem infoField : (Tryz.prog.info? 121).map (fun i => (i.zero, i.size, i.bytes)) = some (some (.agg #[.int .i64 0, .int .i64 0]), 2, 16) := by kernel_rfl
def strLen : Value → Nat | .string s => s.size | _ => 0
/-- where the reading stands -/
def ParseAt (L : List UInt8) (acc : List (Int × Int)) (l : List UInt8) : Prop := parseL 100 L = (parseL (100 - acc.length) l).map (acc ++ ·)

theorem drop_extract (s : ByteArray) (k : Nat) : (s.extract k s.size).data.toList = s.data.toList.drop k := by
  rw [ByteArray.data_extract, Array.toList_extract, List.extract_eq_take_drop]
  exact List.take_of_length_le (by simp)

theorem parse_stop (n : Nat) (l : List UInt8) (hl : l ≠ []) (h : fieldAt l = none ∨ n = 0) : parseL n l = none := by
  cases n with
  | zero => unfold parseL; rw [if_neg hl]
  | succ n =>
    rcases h with h | h
    · unfold parseL; rw [if_neg hl, h]
    · omega
theorem parseE_none {l : List UInt8} (h : parseL 100 l = none) : parseE l = 1 := by unfold parseE; rw [h]; rfl
theorem parsed_none {l : List UInt8} (h : parseL 100 l = none) : parsed l = [] := by unfold parsed; rw [h]; rfl
theorem parseE_some {l : List UInt8} {fs : List (Int × Int)} (h : parseL 100 l = some fs) : parseE l = 0 := by unfold parseE; rw [h]; rfl
theorem parsed_some {l : List UInt8} {fs : List (Int × Int)} (h : parseL 100 l = some fs) : parsed l = fs := by unfold parsed; rw [h]; rfl

theorem ownsRow_two {wr : World} {base : Nat} {e : TypeId} {size : Nat} {v : Value} {n : Nat} {xs : List Value} (h : wr.ownsRow base e size v n xs) (q : Nat) (o : Obj) : ((wr.drewN q).alloc o).ownsRow base e size v n xs :=
  World.ownsRow.alloc (w := wr.drewN q) h o
theorem two_new' (w : World) (q : Nat) (x y : Value) (e : TypeId) : ∀ j u, [x, y][j]? = some u → ((w.drewN q).alloc (.cells #[x, y] e)).cell? ((⟨w.heap.size, 0, none⟩ : Addr).add j) = some u := two_new (w.drewN q) x y e

set_option maxRecDepth 1000000 in
set_option maxHeartbeats 4000000 in
theorem parseF_any (s : ByteArray) (w : World) (hs : s.size ≤ maxLen) :
    Calls Tryz.prog 94 #[.string s] w fun e w' => ∃ v, e = .returned (.tuple #[v, .int .i64 (parseE s.data.toList)]) ∧ w'.ownsRow w.heap.size 121 2 v (parsed s.data.toList).length (cellsF (parsed s.data.toList)) ∧ Below w.heap.size w w' := by
  obtain ⟨i0, hi, hz0, hz1, hz2⟩ := info_parts infoField
  go_enter Tryz.func94, Tryz.ntmps94
  go_wp2
  go_loopw [0, 4] (fun sv v wr => ∃ (s' : ByteArray) (acc : List (Int × Int)), acc.length ≤ 100 ∧ s'.size ≤ maxLen ∧ sv = .string s' ∧ wr.ownsRow w.heap.size 121 2 v acc.length (cellsF acc) ∧ ParseAt s.data.toList acc s'.data.toList ∧ Below w.heap.size w wr) (fun sv _ _ => strLen sv)
  case atStart => exact ⟨s, [], by simp, hs, rfl, World.ownsRow_nil _ _ _ _, by simp [ParseAt], Below.refl _ _⟩
  case round =>
    obtain ⟨s', acc, hacc, hs', rfl, hown, hpa, hbw⟩ := hrel
    by_cases hemp : s'.data.toList = []
    · have he : s'.toList.isEmpty = true := by rw [Lib.toList_data, hemp]; rfl
      have hres : parseL 100 s.data.toList = some acc := by
        have := hpa
        unfold ParseAt at this
        rw [hemp] at this
        rw [this]
        cases 100 - acc.length <;> simp [parseL]
      have HR := hide hres
      clear hres hpa hemp
      go_wp2
      go_ret2
      exact ⟨_, by rw [parseE_some (unhide HR)]; rfl, by rw [parsed_some (unhide HR)]; exact hown, hbw⟩
    · have he : s'.toList.isEmpty = false := by rw [Lib.toList_data]; simpa using hemp
      have hnone : fieldAt s'.data.toList = none ∨ acc.length = 100 → parseL 100 s.data.toList = none := fun h => by
        have := hpa
        unfold ParseAt at this
        rw [this, parse_stop _ _ hemp (by rcases h with h | h; exact .inl h; exact .inr (by omega))]
        rfl
      have hpos : 0 < s'.size := by
        have hl0 : s'.data.toList.length = s'.size := by simp
        rcases Nat.eq_zero_or_pos s'.size with h | h
        · exact absurd (List.length_eq_zero_iff.1 (hl0.trans h)) hemp
        · exact h
      have hs9 := hs'
      unfold maxLen at hs9
      by_cases hk : s'.size < tagSz s'.data.toList
      · have HR := hide (hnone (.inl (by unfold fieldAt; rw [if_neg (by intro h; have := h.1; simp at this; omega)])))
        have N1 := hide (fun w => cutTag_no s' w hs' hk)
        clear hnone hpa hemp hk
        go_wp2_with fail
        refine (unhide N1 _).mono ?_
        rintro e w2 ⟨rfl, hw2⟩
        subst hw2
        go_wp2
        go_ret2
        exact ⟨_, by rw [parseE_none (unhide HR)]; rfl, by rw [parsed_none (unhide HR)]; exact World.ownsRow_nil _ _ _ _, hbw⟩
      · have hk' : tagSz s'.data.toList ≤ s'.size := by omega
        have h13 := tagSz_le s'.data.toList
        have n1 := fun w => cutTag_yes s' w hs' hk'
        have hm6 := valN_take3 s' (tagSz s'.data.toList) h13.2
        have hrl := drop_extract s' (tagSz s'.data.toList)
        have hrs : (s'.extract (tagSz s'.data.toList) s'.size).size = s'.size - tagSz s'.data.toList := by rw [ByteArray.size_extract]; omega
        have n2 := fun w h => made_any (valN (s'.data.toList.take (tagSz s'.data.toList))) w hm6 h
        have hfa : fieldAt s'.data.toList = if tagSz s'.data.toList < s'.data.toList.length ∧ validB (valN (s'.data.toList.take (tagSz s'.data.toList))) = true ∧ madeB (valN (s'.data.toList.take (tagSz s'.data.toList))) = false then some (((valN (s'.data.toList.take (tagSz s'.data.toList)) : Int), ((s'.data.toList.getD (tagSz s'.data.toList) 0).toNat : Int)), s'.data.toList.drop (tagSz s'.data.toList + 1)) else none := rfl
        generalize tagSz s'.data.toList = kk at *
        generalize valN (s'.data.toList.take kk) = m at *
        generalize hr0 : s'.extract kk s'.size = r at *
        have hlen : s'.data.toList.length = s'.size := by simp
        rw [hlen] at hfa
        cases hv : validB (m : Int) with
        | false =>
          have HR := hide (hnone (.inl (by rw [hfa, if_neg (by rw [hv]; simp)])))
          rw [hv] at n1
          have N1 := hide n1
          clear hnone hpa hemp hk n1 n2 hfa hrl hrs hr0 hlen hm6
          go_wp2_with fail
          refine (unhide N1 _).mono ?_
          rintro e w2 ⟨rfl, q, hw2⟩
          subst hw2
          go_wp2
          go_ret2
          exact ⟨_, by rw [parseE_none (unhide HR)]; rfl, by rw [parsed_none (unhide HR)]; exact World.ownsRow_nil _ _ _ _, below_drewN hbw _⟩
        | true =>
          rw [hv] at n1
          replace n2 := fun w => n2 w hv
          cases hmd : madeB m with
          | true =>
            have HR := hide (hnone (.inl (by rw [hfa, if_neg (by rw [hmd]; simp)])))
            rw [hmd] at n2
            have N1 := hide n1; have N2 := hide n2
            clear hnone hpa hemp hk n1 n2 hfa hrl hrs hr0 hlen hm6
            go_wp2_with fail
            refine (unhide N1 _).mono ?_
            rintro e w2 ⟨rfl, q, hw2⟩
            subst hw2
            go_wp2_with fail
            refine (unhide N2 _).mono ?_
            rintro e w3 ⟨rfl, hw3⟩
            subst hw3
            go_wp2
            go_ret2
            exact ⟨_, by rw [parseE_none (unhide HR)]; rfl, by rw [parsed_none (unhide HR)]; exact World.ownsRow_nil _ _ _ _, below_drewN hbw _⟩
          | false =>
            rw [hmd] at n2
            have N1 := hide n1; have N2 := hide n2
            by_cases hre : kk = s'.size
            · have HR := hide (hnone (.inl (by rw [hfa, if_neg (by omega)])))
              have hre' : r.toList.isEmpty = true := by rw [Lib.toList_data, hrl, List.drop_of_length_le (by omega)]; rfl
              clear hnone hpa hemp hk n1 n2 hfa hrl hrs hr0 hlen hm6
              go_wp2_with fail
              refine (unhide N1 _).mono ?_
              rintro e w2 ⟨rfl, q, hw2⟩
              subst hw2
              go_wp2_with fail
              refine (unhide N2 _).mono ?_
              rintro e w3 ⟨rfl, hw3⟩
              subst hw3
              go_wp2
              go_ret2
              exact ⟨_, by rw [parseE_none (unhide HR)]; rfl, by rw [parsed_none (unhide HR)]; exact World.ownsRow_nil _ _ _ _, below_drewN hbw _⟩
            · have hrp : 0 < r.size := by omega
              have hre' : r.toList.isEmpty = false := by
                rw [Lib.toList_data]
                have : r.data.toList.length = r.size := by simp
                cases hq : r.data.toList with
                | nil => rw [hq] at this; simp at this; omega
                | cons a b => rfl
              have hlv : ∃ ao cp, u4 = .slice ao acc.length cp := by
                rcases hown.2 with ⟨h, h0⟩ | ⟨g, cp, cur, h, _⟩
                · exact ⟨none, 0, by rw [h, h0]⟩
                · exact ⟨_, _, h⟩
              obtain ⟨ao, cp, hu4⟩ := hlv
              by_cases h100 : acc.length = 100
              · have HR := hide (hnone (.inr h100))
                have t9 : ((acc.length : Int) == 100) = true := by rw [h100]; rfl
                subst hu4
                clear hnone hpa hemp hk n1 n2 hfa hrl hrs hr0 hlen hm6 h100
                go_wp2_with fail
                refine (unhide N1 _).mono ?_
                rintro e w2 ⟨rfl, q, hw2⟩
                subst hw2
                go_wp2_with fail
                refine (unhide N2 _).mono ?_
                rintro e w3 ⟨rfl, hw3⟩
                subst hw3
                go_wp2
                go_ret2
                exact ⟨_, by rw [parseE_none (unhide HR)]; rfl, by rw [parsed_none (unhide HR)]; exact World.ownsRow_nil _ _ _ _, below_drewN hbw _⟩
              · have t9 : ((acc.length : Int) == 100) = false := by simp; omega
                have g0 := get_byte r 0
                have hb0 : byteAt r 0 = (s'.data.toList.getD kk 0).toNat := by
                  unfold byteAt
                  rw [hrl]
                  simp [List.getD_eq_getElem?_getD]
                have hnext : ParseAt s.data.toList (acc ++ [((m : Int), (byteAt r 0 : Int))]) (r.extract 1 r.size).data.toList := by
                  have := hpa
                  unfold ParseAt at this ⊢
                  rw [this, drop_extract, hrl, List.drop_drop, hb0]
                  obtain ⟨n, hn⟩ : ∃ n, 100 - acc.length = n + 1 := ⟨99 - acc.length, by omega⟩
                  rw [hn, List.length_append, show 100 - (acc.length + [((m : Int), ((s'.data.toList.getD kk 0).toNat : Int))].length) = n by simp; omega]
                  rw [parseL, if_neg hemp, hfa, if_pos ⟨by omega, hv, hmd⟩]
                  simp only [Option.map_map]
                  congr 1
                  funext x
                  simp
                have hsz2 : (r.extract 1 r.size).size < s'.size := by rw [ByteArray.size_extract]; omega
                have lb := byteAt_lt r 0
                have hrm : r.size ≤ 9223372036854775807 := by omega
                generalize byteAt r 0 = y at *
                have HP := hide hpa; have HX := hide hnext; have HZ := hide hsz2
                have hs2 := fun wx => run_slice_string_l (P := Tryz.prog) wx 9 r Tryz.underlying9 .i64 (1 : Int) (by omega) (by omega)
                subst hu4
                clear hnone hpa hemp hk n1 n2 hfa hrl hrs hr0 hlen hm6 hnext hb0 hsz2
                go_wp2_with fail
                refine (unhide N1 _).mono ?_
                rintro e w2 ⟨rfl, q, hw2⟩
                subst hw2
                go_wp2_with fail
                refine (unhide N2 _).mono ?_
                rintro e w3 ⟨rfl, hw3⟩
                subst hw3
                go_wp2_with (at_builtin; refine wpList_append_own _ rfl _ _ 31 rfl w.heap.size 121 i0 (.agg #[.int .i64 0, .int .i64 0]) 2 16 Tryz.underlying31 hi hz0 hz1 hz2 rfl (by decide) _ _ _ rfl (ownsRow_two hown _ _) ⟨wr.heap.size, 0, none⟩ 1 1 [.int .i64 (m : Int), .int .i64 (y : Int)] rfl rfl (two_new' _ _ _ _ _) ?c2 ?c3 ?c4 ?c5 ?_)
                case c2 => intro u hu; simp at hu; rcases hu with rfl | rfl <;> rfl
                case c3 => unfold maxLen; omega
                case c4 => omega
                case c5 => have := hbw.size; simp; omega
                intro v' w4 hown' hgrow _
                have hb4 : Below w.heap.size w w4 := ((below_drewN hbw q).alloc hbw.size _).grown hgrow (by have := hbw.size; simp; omega) (fun q hq => (hown.lt q hq).1)
                have hown4 : w4.ownsRow w.heap.size 121 2 v' (acc ++ [((m : Int), (y : Int))]).length (cellsF (acc ++ [((m : Int), (y : Int))])) := by
                  rw [cellsF_snoc, List.length_append]
                  exact hown'
                clear hown' hgrow hown hbw
                go_wp2
                go_roundw
                case rel => exact ⟨r.extract 1 r.size, acc ++ [((m : Int), (y : Int))], by rw [List.length_append]; simp; omega, by have := unhide HZ; omega, rfl, hown4, unhide HX, hb4⟩
                case measure => exact unhide HZ
end Go.Proofs.YtfpglpefofcdeaaGreatDoor
namespace Go.Proofs.YtfpglpefofcdeaaGreatDoor
open Go.RowKit
set_option linter.unusedVariables false

/-- are the first n bytes a tag? -/
def goodB (l : List UInt8) (n : Nat) : Bool := validB (valN (l.take n)) && decide (tagLen (valN (l.take n)) = n)
theorem valN_two (a b : UInt8) : valN [a, b] = a.toNat * 256 + b.toNat := by simp [valN]
theorem valN_three (a b c : UInt8) : valN [a, b, c] = (a.toNat * 256 + b.toNat) * 256 + c.toNat := by simp [valN]
theorem valN_one (a : UInt8) : valN [a] = a.toNat := by simp [valN]

theorem validB_iff (t : Nat) : validB (t : Int) = true ↔ (1 ≤ t ∧ t < 256 ∧ t % 32 ≠ 31) ∨ (256 ≤ t ∧ t < 65536 ∧ t / 256 % 32 = 31 ∧ 31 ≤ t % 256 ∧ t % 256 ≤ 127) ∨ (65536 ≤ t ∧ t < 16777216 ∧ t / 65536 % 32 = 31 ∧ 129 ≤ t / 256 % 256 ∧ t % 256 ≤ 127) := by
  unfold validB
  split
  · simp; omega
  · split
    · simp; omega
    · split
      · simp; omega
      · simp; omega
theorem tagLen_iff (t n : Nat) : tagLen t = n ↔ (t < 256 ∧ n = 1) ∨ (256 ≤ t ∧ t < 65536 ∧ n = 2) ∨ (65536 ≤ t ∧ n = 3) := by
  unfold tagLen; split
  · omega
  · split <;> omega
theorem tagSz_one (a : UInt8) (n : Nat) : n = tagSz [a] ↔ (a.toNat % 32 = 31 ∧ n = 2) ∨ (a.toNat % 32 ≠ 31 ∧ n = 1) := by
  simp only [tagSz]; split <;> omega
theorem tagSz_more (a b : UInt8) (r : List UInt8) (n : Nat) : n = tagSz (a :: b :: r) ↔ (a.toNat % 32 = 31 ∧ b.toNat < 128 ∧ n = 2) ∨ (a.toNat % 32 = 31 ∧ 128 ≤ b.toNat ∧ n = 3) ∨ (a.toNat % 32 ≠ 31 ∧ n = 1) := by
  simp only [tagSz]; split
  · split <;> omega
  · omega

theorem good_iff (l : List UInt8) (n : Nat) (h1 : 1 ≤ n) (h3 : n ≤ 3) (hl : n ≤ l.length) : goodB l n = true ↔ n = tagSz l ∧ validB (valN (l.take n)) = true := by
  unfold goodB
  rw [Bool.and_eq_true, decide_eq_true_iff, validB_iff, tagLen_iff]
  match l, hl with
  | [], hl => simp at hl; omega
  | [a], hl =>
    have : n = 1 := by simp at hl; omega
    subst this
    have la := a.toNat_lt
    rw [show [a].take 1 = [a] by rfl, valN_one, tagSz_one]
    omega
  | a :: b :: r, hl =>
    have la := a.toNat_lt
    have lb := b.toNat_lt
    rw [tagSz_more]
    have hn : n = 1 ∨ n = 2 ∨ n = 3 := by omega
    rcases hn with rfl | rfl | rfl
    · rw [show (a :: b :: r).take 1 = [a] by rfl, valN_one]; omega
    · rw [show (a :: b :: r).take 2 = [a, b] by simp, valN_two]
      generalize a.toNat = x at *
      generalize b.toNat = y at *
      have e1 : (x * 256 + y) / 256 = x := by omega
      have e2 : (x * 256 + y) % 256 = y := by omega
      rw [e1, e2]; omega
    · match r, hl with
      | [], hl => simp at hl
      | c :: r, hl =>
        have lc := c.toNat_lt
        rw [show (a :: b :: c :: r).take 3 = [a, b, c] by simp, valN_three]
        generalize a.toNat = x at *
        generalize b.toNat = y at *
        generalize c.toNat = z at *
        have e1 : ((x * 256 + y) * 256 + z) / 65536 = x := by omega
        have e2 : ((x * 256 + y) * 256 + z) % 256 = z := by omega
        have e3 : ((x * 256 + y) * 256 + z) / 256 % 256 = y := by omega
        rw [e1, e2, e3]; omega

/-- a tag's own text begins with the tag, and no more of it -/
theorem tag_text_back (t : Nat) (r : List UInt8) (hv : validB (t : Int) = true) (bs : List UInt8) (hb : bs.length = tagLen t) (hval : valN bs = t) :
    tagSz (bs ++ r) = tagLen t ∧ (bs ++ r).take (tagLen t) = bs := by
  have hk : (bs ++ r).take (tagLen t) = bs := by rw [← hb]; exact List.take_left
  have h13 := tagLen_le t
  have := (good_iff (bs ++ r) (tagLen t) h13.1 h13.2 (by simp; omega)).1 (by unfold goodB; rw [hk, hval, hv]; simp)
  exact ⟨this.1.symm, hk⟩
end Go.Proofs.YtfpglpefofcdeaaGreatDoor
namespace Go.Proofs.YtfpglpefofcdeaaGreatDoor
open Go.RowKit
set_option linter.unusedVariables false

theorem strOfNums_list (xs : List Int) : (strOfNums xs).data.toList = xs.map fun n => UInt8.ofNat n.toNat := by simp [strOfNums]
theorem foldl_bigL (n : Nat) : ∀ (k a : Nat), ((bigL n k).map fun z => UInt8.ofNat z.toNat).foldl (fun m b => m * 256 + b.toNat) a = a * 256 ^ k + n % 256 ^ k
  | 0, a => by simp [bigL, Nat.mod_one]
  | k + 1, a => by
    have e : bigL n (k + 1) = ((n / 256 ^ k % 256 : Nat) : Int) :: bigL n k := rfl
    rw [e, List.map_cons, List.foldl_cons, foldl_bigL n k]
    have h8 : (UInt8.ofNat (((n / 256 ^ k % 256 : Nat) : Int)).toNat).toNat = n / 256 ^ k % 256 := by
      rw [Int.toNat_natCast]; exact UInt8.toNat_ofNat_of_lt' (Nat.mod_lt _ (by decide))
    rw [h8, Nat.pow_succ, Nat.mod_mul, Nat.add_mul]
    have : a * 256 * 256 ^ k = a * (256 ^ k * 256) := by rw [Nat.mul_assoc, Nat.mul_comm 256]
    rw [this, Nat.mul_comm (256 ^ k) (n / 256 ^ k % 256)]
    omega
theorem valN_bigL (n k : Nat) (h : n < 256 ^ k) : valN ((bigL n k).map fun z => UInt8.ofNat z.toNat) = n := by
  unfold valN; rw [foldl_bigL, Nat.mod_eq_of_lt h]; simp
theorem lt_tagLen (t : Nat) (h : t < 16777216) : t < 256 ^ tagLen t := by
  unfold tagLen; split
  · simpa using ‹_›
  · split
    · simpa using ‹_›
    · simpa using h

theorem parse_text (fs : List (Int × Int)) : ∀ n, fs.all okF = true → fs.length ≤ n → parseL n ((textL fs).map fun z => UInt8.ofNat z.toNat) = some fs := by
  induction fs with
  | nil => intro n _ _; cases n <;> simp [textL, parseL]
  | cons f fs ih =>
    intro n hok hn
    obtain ⟨m, rfl⟩ : ∃ m, n = m + 1 := ⟨n - 1, by simp at hn; omega⟩
    rw [List.all_cons, Bool.and_eq_true] at hok
    obtain ⟨hf, hr⟩ := hok
    have ih' := ih m hr (by simpa using hn)
    obtain ⟨t, ln⟩ := f
    unfold okF at hf
    simp only [Bool.and_eq_true, Bool.not_eq_true', decide_eq_true_eq] at hf
    obtain ⟨hv, hm, h0, h255⟩ := hf
    have hlt := validB_lt hv
    obtain ⟨k, rfl⟩ : ∃ k : Nat, t = (k : Int) := ⟨t.toNat, by omega⟩
    obtain ⟨y, rfl⟩ : ∃ y : Nat, ln = (y : Int) := ⟨ln.toNat, by omega⟩
    rw [Int.toNat_natCast] at hm
    have hsp : (textL (((k : Int), (y : Int)) :: fs)).map (fun z => UInt8.ofNat z.toNat) = (bigL k (tagLen k)).map (fun z => UInt8.ofNat z.toNat) ++ (UInt8.ofNat y :: (textL fs).map fun z => UInt8.ofNat z.toNat) := by
      simp [textL, tagL]
    rw [hsp]
    have hb := valN_bigL k (tagLen k) (lt_tagLen k (by omega))
    have hlen : ((bigL k (tagLen k)).map fun z => UInt8.ofNat z.toNat).length = tagLen k := by rw [List.length_map, bigL_length]
    generalize (bigL k (tagLen k)).map (fun z => UInt8.ofNat z.toNat) = bs at *
    generalize (textL fs).map (fun z => UInt8.ofNat z.toNat) = r at *
    obtain ⟨e1, e2⟩ := tag_text_back k (UInt8.ofNat y :: r) hv bs hlen hb
    have hne : bs ++ UInt8.ofNat y :: r ≠ [] := by simp
    have hfa : fieldAt (bs ++ UInt8.ofNat y :: r) = some (((k : Int), (y : Int)), r) := by
      unfold fieldAt
      rw [e1, e2, hb, if_pos ⟨by simp; omega, hv, hm⟩, ← hlen]
      have h8 : (UInt8.ofNat y).toNat = y := UInt8.toNat_ofNat_of_lt' (by show y < 256; omega)
      simp [List.getD_eq_getElem?_getD, h8]
    rw [parseL, if_neg hne, hfa]
    simp only [ih', Option.map_some]

theorem round_text (fs : List (Int × Int)) (he : fieldsE fs = 0) : parseL 100 (printS fs).data.toList = some fs := by
  unfold printS
  rw [if_pos he, strOfNums_list]
  have := fieldsE_zero he
  exact parse_text fs 100 this.1 this.2
theorem print_empty (fs : List (Int × Int)) (he : fieldsE fs ≠ 0) : printS fs = ⟨#[]⟩ ∧ 0 < fs.length := by
  refine ⟨by unfold printS; rw [if_neg he], ?_⟩
  cases fs with
  | nil => exact absurd rfl he
  | cons a b => simp
end Go.Proofs.YtfpglpefofcdeaaGreatDoor
namespace Go.Proofs.YtfpglpefofcdeaaGreatDoor
open Go.RowKit
set_option linter.unusedVariables false

theorem valN_inj : ∀ (n : Nat) (x y : List UInt8), x.length = n → y.length = n → valN x = valN y → x = y
  | 0, x, y, hx, hy, _ => by rw [List.length_eq_zero_iff.1 hx, List.length_eq_zero_iff.1 hy]
  | n + 1, x, y, hx, hy, h => by
    have nx : x ≠ [] := by intro e; rw [e] at hx; simp at hx
    have ny : y ≠ [] := by intro e; rw [e] at hy; simp at hy
    rw [← List.dropLast_concat_getLast nx, ← List.dropLast_concat_getLast ny] at h ⊢
    rw [valN_snoc, valN_snoc] at h
    have la := (x.getLast nx).toNat_lt
    have lb := (y.getLast ny).toNat_lt
    have e1 : valN x.dropLast = valN y.dropLast := by omega
    have e2 : x.getLast nx = y.getLast ny := UInt8.toNat_inj.1 (by omega)
    rw [valN_inj n x.dropLast y.dropLast (by simp; omega) (by simp; omega) e1, e2]
theorem extract_take (s : ByteArray) (j : Nat) : (s.extract 0 j).data.toList = s.data.toList.take j := by
  rw [ByteArray.data_extract, Array.toList_extract, List.extract_eq_take_drop]; simp
/-- the tag's own text is the text that it was read from, if that is as long -/
theorem text_same (s : ByteArray) (j : Nat) (hj : j ≤ s.size) : (strOfNums (bigL (valN (s.data.toList.take j)) (tagLen (valN (s.data.toList.take j)))) = s.extract 0 j) ↔ tagLen (valN (s.data.toList.take j)) = j := by
  constructor
  · intro h
    have := congrArg ByteArray.size h
    rw [strOfNums_size, bigL_length, ByteArray.size_extract] at this
    omega
  · intro h
    rw [h]
    apply ByteArray.ext
    apply Array.toList_inj.1
    rw [strOfNums_list, extract_take]
    have hlen : (s.data.toList.take j).length = j := by rw [List.length_take]; simp; omega
    refine valN_inj j _ _ (by rw [List.length_map, bigL_length]) hlen ?_
    have := valN_lt (s.data.toList.take j)
    rw [hlen] at this
    exact valN_bigL _ _ this

/-- no beginning of less than j bytes is a tag -/
def Tried (l : List UInt8) (j : Nat) : Prop := ∀ i, 1 ≤ i → i < j → goodB l i = false
theorem tried_next {l : List UInt8} {j : Nat} (h : Tried l j) (hg : goodB l j = false) : Tried l (j + 1) := fun i h1 h2 => by
  rcases Nat.lt_or_ge i j with h3 | h3
  · exact h i h1 h3
  · have : i = j := by omega
    rw [this]; exact hg
theorem tried_none {l : List UInt8} {j : Nat} (h : Tried l j) (hg : goodB l j = false) (he : j = 3 ∨ j = l.length) : fieldAt l = none := by
  unfold fieldAt
  split
  · rename_i hc
    have h13 := tagSz_le l
    have hgood := (good_iff l (tagSz l) h13.1 h13.2 (by omega)).2 ⟨rfl, hc.2.1⟩
    have := h (tagSz l) h13.1
    rcases Nat.lt_trichotomy (tagSz l) j with h1 | h1 | h1
    · rw [this h1] at hgood; cases hgood
    · rw [h1, hg] at hgood; cases hgood
    · omega
  · rfl
theorem good_field {l : List UInt8} {j : Nat} (h1 : 1 ≤ j) (h3 : j ≤ 3) (hl : j ≤ l.length) (hg : goodB l j = true) :
    fieldAt l = if j < l.length ∧ madeB (valN (l.take j)) = false then some (((valN (l.take j) : Int), ((l.getD j 0).toNat : Int)), l.drop (j + 1)) else none := by
  obtain ⟨e, hv⟩ := (good_iff l j h1 h3 hl).1 hg
  unfold fieldAt
  rw [← e, hv]
  simp
theorem goodB_parts {l : List UInt8} {j : Nat} (hg : goodB l j = true) : validB (valN (l.take j)) = true ∧ tagLen (valN (l.take j)) = j := by
  unfold goodB at hg; simpa using hg
theorem goodB_not {l : List UInt8} {j : Nat} (hg : goodB l j = false) : validB (valN (l.take j)) = false ∨ validB (valN (l.take j)) = true ∧ tagLen (valN (l.take j)) ≠ j := by
  unfold goodB at hg
  cases hv : validB (valN (l.take j)) with
  | false => exact .inl rfl
  | true => rw [hv] at hg; exact .inr ⟨rfl, by simpa using hg⟩
theorem ownsRow_below {w w' : World} {base : Nat} {e : TypeId} {size : Nat} {v : Value} {n : Nat} {xs : List Value} (h : w.ownsRow base e size v n xs) (hb : Below w.heap.size w w') : w'.ownsRow base e size v n xs := by
  refine ⟨h.1, ?_⟩
  rcases h.2 with h0 | ⟨g, cap, cur, e1, e2, e3, e4⟩
  · exact .inl h0
  · refine .inr ⟨g, cap, cur, e1, e2, ?_, e4⟩
    have hg : g < w.heap.size := by
      rcases Nat.lt_or_ge g w.heap.size with h | h
      · exact h
      · rw [Array.getElem?_eq_none h] at e3; cases e3
    rw [hb.block g hg]; exact e3
end Go.Proofs.YtfpglpefofcdeaaGreatDoor
