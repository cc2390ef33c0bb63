/- The library's symMerge over a row of numbers: its end. -/
import Derived.Test.YtbnpajijbdddiaaSrtY
import Derived.Deep.DeepCutAuto
import Derived.Deep.CutRange
namespace Go.Proofs.Ytbnpajijbdddiaa
open Go.RowKit
set_option linter.unusedVariables false

/-- what symMerge promises of shorter rows -/
def SymBelow (K : Nat → Int) (N g cp cap : Nat) (CW : World → Prop) (L : Nat) : Prop := ∀ (D : Nat → Nat) (a m b : Nat) (w : World), RI w g N D → CW w → (∀ x, D x < N) → a < m → m < b → b ≤ N → b - a < L → Srt K D a m → Srt K D m b → LR D a m b →
    Calls Try.prog 53 #[.slice (some ⟨g, 0, none⟩) N cap, .int .i64 a, .int .i64 m, .int .i64 b, cmpV cp] w fun e w' => e = .returned (.tuple #[]) ∧ (∃ D', RI w' g N D' ∧ Srt K D' a b ∧ SameIn D D' a b) ∧ ButG g w w'
theorem SameIn.all {D D' : Nat → Nat} {a b N : Nat} (h : SameIn D D' a b) (hD : ∀ x, D x < N) : ∀ x, D' x < N := by
  intro x
  by_cases hx : a ≤ x ∧ x < b
  · obtain ⟨j, _, _, e⟩ := h.fwd x hx.1 hx.2
    rw [e]; exact hD j
  · rw [h.out x (by omega)]; exact hD x
/-- does a piece of code begin with this region? -/
def beginsR (k : Nat) : Code → Bool
  | .region id _ _ => id == k
  | .seq a _ => beginsR k a
  | _ => false
/-- all that follows from a region on -/
def seqFrom (k : Nat) : Code → Option Code
  | .seq a b => if beginsR k a then some (.seq a b) else match seqFrom k a with
    | some c => some c
    | none => seqFrom k b
  | .loop c => seqFrom k c
  | .block _ c => seqFrom k c
  | .scope c => seqFrom k c
  | .cond _ a b => match seqFrom k a with
    | some c => some c
    | none => seqFrom k b
  | _ => none
noncomputable def symTail : Code := (Try.f53.body.bind (seqFrom 41)).getD .skip
set_option maxRecDepth 1000000 in
set_option maxHeartbeats 16000000 in
theorem sym_tail {K : Nat → Int} {N g cp : Nat} {CW : World → Prop} (hC : CmpOK K N g cp CW) (D E : Nat → Nat) (cap a m b mid r e : Nat) (w w2 : World) (hr2 : RI w2 g N E) (hb2 : ButG g w w2) (hw : CW w) (hDr : ∀ x, E x < N)
    (b1 : a ≤ r) (hrm : r ≤ mid) (hme2 : mid ≤ e) (he2 : e ≤ b) (hm1 : a < mid) (hm2 : mid < b) (hb : b ≤ N) (hN : N ≤ 1000) (ih : SymBelow K N g cp cap CW (b - a))
    (hhv : Srt K E a r ∧ Srt K E r mid ∧ Srt K E mid e ∧ Srt K E e b ∧ ∀ i j, a ≤ i → i < mid → mid ≤ j → j < b → ltK K (E i) (E j)) (hlr1 : LR E a r mid ∧ LR E mid e b) (hsm : SameIn D E a b)
    (u5 u6 u7 u8 u9 u10 u11 u12 u13 u14 u15 u16 u17 u19 u21 u22 u23 u25 u26 u27 u28 u29 u30 u31 u32 u33 u34 u35 u36 u37 u38 u39 u40 u41 u42 u43 u44 u45 u46 u47 u48 u49 u50 u51 u52 u53 u54 u55 u56 u57 u58 u59 u60 u61 u62 u63 u64 u65 u66 u67 u68 u69 u70 u71 u72 u73 u74 u75 u76 u77 u78 u79 u80 u81 u82 u83 u84 u85 u86 u87 u88 u89 u90 u91 u92 u93 u94 u95 u96 u97 u98 u99 u100 u101 u102 u103 u104 u105 u106 u107 u108 u109 u110 u111 u112 u113 u114 u115 u116 u117 u118 u119 u120 u121 u122 u123 u124 u125 u126 u127 u128 u129 u130 u131 u132 u133 u134 u135 u136 u137 u138 u139 u140 u141 u142 u143 u144 u145 u146 u147 u148 u149 u150 u151 u152 u153 u154 u155 u156 u157 u158 u159 u160 u161 u162 u163 u164 u165 u166 u167 u168 u169 u170 u171 u172 u173 u174 u175 u176 u177 u178 u179 u180 u181 u182 u183 u184 u185 u186 u187 u188 u189 u190 u191 u192 u193 u194 u195 u196 u197 u198 u199 u200 u201 u202 u203 u204 u205 u206 u207 u208 u209 u210 u211 u212 u213 u214 u215 u216 u217 u218 u219 : Value) :
    Code.wp Try.prog symTail (bodyPost Try.prog Try.f53 (fun e w' => e = .returned (.tuple #[]) ∧ (∃ D', RI w' g N D' ∧ Srt K D' a b ∧ SameIn D D' a b) ∧ ButG g w w'))
      ⟨List.toArray ((Value.slice (some ⟨g, 0, none⟩) N cap) :: (Value.int .i64 a) :: (Value.int .i64 m) :: (Value.int .i64 b) :: (Value.func (.func 20) #[] #[.pointer (some ⟨cp, 0, none⟩)]) :: u5 :: u6 :: u7 :: u8 :: u9 :: u10 :: u11 :: u12 :: u13 :: u14 :: u15 :: u16 :: u17 :: (Value.int .i64 mid) :: u19 :: (Value.int .i64 r) :: u21 :: u22 :: u23 :: (Value.int .i64 e) :: u25 :: u26 :: u27 :: u28 :: u29 :: u30 :: u31 :: u32 :: u33 :: u34 :: u35 :: u36 :: u37 :: u38 :: u39 :: u40 :: u41 :: u42 :: u43 :: u44 :: u45 :: u46 :: u47 :: u48 :: u49 :: u50 :: u51 :: u52 :: u53 :: u54 :: u55 :: u56 :: u57 :: u58 :: u59 :: u60 :: u61 :: u62 :: u63 :: u64 :: u65 :: u66 :: u67 :: u68 :: u69 :: u70 :: u71 :: u72 :: u73 :: u74 :: u75 :: u76 :: u77 :: u78 :: u79 :: u80 :: u81 :: u82 :: u83 :: u84 :: u85 :: u86 :: u87 :: u88 :: u89 :: u90 :: u91 :: u92 :: u93 :: u94 :: u95 :: u96 :: u97 :: u98 :: u99 :: u100 :: u101 :: u102 :: u103 :: u104 :: u105 :: u106 :: u107 :: u108 :: u109 :: u110 :: u111 :: u112 :: u113 :: u114 :: u115 :: u116 :: u117 :: u118 :: u119 :: u120 :: u121 :: u122 :: u123 :: u124 :: u125 :: u126 :: u127 :: u128 :: u129 :: u130 :: u131 :: u132 :: u133 :: u134 :: u135 :: u136 :: u137 :: u138 :: u139 :: u140 :: u141 :: u142 :: u143 :: u144 :: u145 :: u146 :: u147 :: u148 :: u149 :: u150 :: u151 :: u152 :: u153 :: u154 :: u155 :: u156 :: u157 :: u158 :: u159 :: u160 :: u161 :: u162 :: u163 :: u164 :: u165 :: u166 :: u167 :: u168 :: u169 :: u170 :: u171 :: u172 :: u173 :: u174 :: u175 :: u176 :: u177 :: u178 :: u179 :: u180 :: u181 :: u182 :: u183 :: u184 :: u185 :: u186 :: u187 :: u188 :: u189 :: u190 :: u191 :: u192 :: u193 :: u194 :: u195 :: u196 :: u197 :: u198 :: u199 :: u200 :: u201 :: u202 :: u203 :: u204 :: u205 :: u206 :: u207 :: u208 :: u209 :: u210 :: u211 :: u212 :: u213 :: u214 :: u215 :: u216 :: u217 :: u218 :: u219 :: []), []⟩ w2 := by
  have hNi : (N : Int) ≤ 1000 := by omega
  have HR2 := hide hr2; have HB2 := hide hb2; have HW := hide hw; have HDR := hide hDr; have HIH := hide ih; have HHV := hide hhv; have HLR1 := hide hlr1; have HSM := hide hsm; have HC := hide hC
  clear hr2 hb2 hw hDr ih hhv hlr1 hsm hC
  conv => arg 2; whnf
  go_upto_region 41 with fail
  go_cut [199] (fun c wx => c = .bool (decide (a < r) && decide (r < mid)) ∧ wx = w2)
  case first =>
    by_cases g1 : a < r
    · have g1' : (a : Int) < (r : Int) := by omega
      by_cases g2 : r < mid
      · have g2' : (r : Int) < (mid : Int) := by omega
        go_wp2
        go_meet
        exact ⟨by rw [decide_eq_true g1, decide_eq_true g2]; rfl, rfl⟩
      · have g2' : ¬ (r : Int) < (mid : Int) := by omega
        go_wp2
        go_meet
        exact ⟨by rw [decide_eq_true g1, decide_eq_false g2]; rfl, rfl⟩
    · have g1' : ¬ (a : Int) < (r : Int) := by omega
      go_wp2
      go_meet
      exact ⟨by rw [decide_eq_false g1]; rfl, rfl⟩
  case rest =>
  obtain ⟨rfl, hwc⟩ := hcut
  have hwc' := hwc.symm
  subst hwc'
  clear hwc
  go_upto_if 199 with fail
  go_cut [] (fun wx => ∃ D1, RI wx g N D1 ∧ Hid (Srt K D1 a mid ∧ SameIn E D1 a mid) ∧ ButG g w wx)
  case first =>
    obtain ⟨v1, v2, v3, v4, v5⟩ := unhide HHV
    have hDr := unhide HDR
    by_cases g1 : a < r
    · have g1d : decide (a < r) = true := decide_eq_true g1
      by_cases g2 : r < mid
      · have n1 := unhide HIH E a r mid w2 (unhide HR2) ((unhide HC).keep w _ (unhide HW) (unhide HB2)) hDr g1 g2 (by omega) (by omega) v1 v2 (unhide HLR1).1
        have N1 := hide n1
        have g2d : decide (r < mid) = true := decide_eq_true g2
        unfold cmpV at N1
        clear n1 v1 v2 v3 v4 v5 hDr
        go_wp2_with fail
        refine (unhide N1).mono ?_
        rintro ev w3 ⟨rfl, ⟨D1, hr3, hs3, hi3⟩, hb3⟩
        have HR3 := hide hr3; have HB3 := hide ((unhide HB2).trans hb3); have HX3 : Hid (Srt K D1 a mid ∧ SameIn E D1 a mid) := hide ⟨hs3, hi3⟩
        clear hr3 hb3 hs3 hi3
        go_wp2
        go_meet
        exact ⟨D1, unhide HR3, HX3, unhide HB3⟩
      · have g2d : decide (r < mid) = false := decide_eq_false g2
        have hx : r = mid := by omega
        have HX3 : Hid (Srt K E a mid ∧ SameIn E E a mid) := hide ⟨v1.sub (Nat.le_refl _) (by omega), SameIn.refl _ _ _⟩
        clear v1 v2 v3 v4 v5 hDr hx
        go_wp2
        go_meet
        exact ⟨_, unhide HR2, HX3, unhide HB2⟩
    · have g1d : decide (a < r) = false := decide_eq_false g1
      have hx : r = a := by omega
      have HX3 : Hid (Srt K E a mid ∧ SameIn E E a mid) := hide ⟨v2.sub (by omega) (Nat.le_refl _), SameIn.refl _ _ _⟩
      clear v1 v2 v3 v4 v5 hDr hx
      go_wp2
      go_meet
      exact ⟨_, unhide HR2, HX3, unhide HB2⟩
  case rest =>
  obtain ⟨D1, hr3, HX3, hb3⟩ := hcut
  have HR3 := hide hr3; have HB3 := hide hb3
  clear hr3 hb3 HR2 HB2
  generalize wc = w3 at *
  go_upto_region 43 with fail
  go_cut [213] (fun c wx => c = .bool (decide (mid < e) && decide (e < b)) ∧ wx = w3)
  case first =>
    by_cases g1 : mid < e
    · have g1' : (mid : Int) < (e : Int) := by omega
      by_cases g2 : e < b
      · have g2' : (e : Int) < (b : Int) := by omega
        go_wp2
        go_meet
        exact ⟨by rw [decide_eq_true g1, decide_eq_true g2]; rfl, rfl⟩
      · have g2' : ¬ (e : Int) < (b : Int) := by omega
        go_wp2
        go_meet
        exact ⟨by rw [decide_eq_true g1, decide_eq_false g2]; rfl, rfl⟩
    · have g1' : ¬ (mid : Int) < (e : Int) := by omega
      go_wp2
      go_meet
      exact ⟨by rw [decide_eq_false g1]; rfl, rfl⟩
  case rest =>
  obtain ⟨rfl, hwc⟩ := hcut
  have hwc' := hwc.symm
  subst hwc'
  clear hwc
  obtain ⟨v1, v2, v3, v4, v5⟩ := unhide HHV
  obtain ⟨s1, s2⟩ := unhide HX3
  have u3 : Srt K D1 mid e := v3.congr (fun i h1 h2 => s2.out i (.inr h1))
  have u4 : Srt K D1 e b := v4.congr (fun i h1 h2 => s2.out i (.inr (by omega)))
  have hlr2 : LR D1 mid e b := fun i j h1 h2 h3 h4 => by
    rw [s2.out i (.inr h1), s2.out j (.inr (by omega))]
    exact (unhide HLR1).2 i j h1 h2 h3 h4
  have hfin : ∀ D2, SameIn D1 D2 mid b → Srt K D2 mid b → Srt K D2 a b ∧ SameIn D D2 a b := fun D2 k1 k2 => by
    have hd := halves_done (by omega) (by omega) v5 s2 s1 k1 k2
    exact ⟨hd.1, (unhide HSM).trans hd.2⟩
  have HFIN := hide hfin
  by_cases g1 : mid < e
  · have g1d : decide (mid < e) = true := decide_eq_true g1
    by_cases g2 : e < b
    · have n1 := unhide HIH D1 mid e b w3 (unhide HR3) ((unhide HC).keep w _ (unhide HW) (unhide HB3)) (s2.all (unhide HDR)) g1 g2 hb (by omega) u3 u4 hlr2
      have N1 := hide n1
      have g2d : decide (e < b) = true := decide_eq_true g2
      unfold cmpV at N1
      clear n1 v1 v2 v3 v4 v5 s1 s2 u3 u4 hlr2 hfin
      go_wp2_with fail
      refine (unhide N1).mono ?_
      rintro ev w4 ⟨rfl, ⟨D2, hr4, hs4, hi4⟩, hb4⟩
      have HR4 := hide hr4; have HB4 := hide ((unhide HB3).trans hb4); have HX4 := hide (unhide HFIN D2 hi4 hs4)
      clear hr4 hb4 hs4 hi4
      go_wp2
      go_end0
      exact ⟨rfl, ⟨D2, unhide HR4, (unhide HX4).1, (unhide HX4).2⟩, unhide HB4⟩
    · have g2d : decide (e < b) = false := decide_eq_false g2
      have HX4 := hide (unhide HFIN D1 (SameIn.refl _ _ _) (u3.sub (Nat.le_refl _) (by omega)))
      clear v1 v2 v3 v4 v5 s1 s2 u3 u4 hlr2 hfin
      go_wp2
      go_end0
      exact ⟨rfl, ⟨D1, unhide HR3, (unhide HX4).1, (unhide HX4).2⟩, unhide HB3⟩
  · have g1d : decide (mid < e) = false := decide_eq_false g1
    have HX4 := hide (unhide HFIN D1 (SameIn.refl _ _ _) (u4.sub (by omega) (Nat.le_refl _)))
    clear v1 v2 v3 v4 v5 s1 s2 u3 u4 hlr2 hfin
    go_wp2
    go_end0
    exact ⟨rfl, ⟨D1, unhide HR3, (unhide HX4).1, (unhide HX4).2⟩, unhide HB3⟩
end Go.Proofs.Ytbnpajijbdddiaa
