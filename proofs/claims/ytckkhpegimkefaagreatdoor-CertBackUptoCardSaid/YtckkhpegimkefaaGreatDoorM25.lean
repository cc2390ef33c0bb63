/- Division of the big numbers: the loop, and what is answered. (Made by wip/drafts/genKn.py.) -/
import Derived.Test.YtckkhpegimkefaaGreatDoorM24
import Derived.Deep.CutBlock
namespace Go.Proofs.YtckkhpegimkefaaGreatDoor
open Go.RowKit
set_option linter.unusedVariables false
set_option linter.unusedSimpArgs false
set_option maxRecDepth 1000000

noncomputable def kn15 : Code := (Tryz.f131.body.bind (seqFromK 15)).getD .skip
theorem end_numsE {lu n m : Nat} (hm : m + n + 1 = lu) (hl : (lu : Int) ≤ 10000) (hn : 2 ≤ n) : ∃ x m1 n1 n2 : Nat, m1 = m + 1 ∧ n1 = n - 1 ∧ n2 = n - 2 ∧ wrap64 ((lu : Int) - (n : Int)) = (x : Int) ∧ wrap64 ((x : Int) - 1) = (m : Int) ∧ wrap64 ((m : Int) + 1) = (m1 : Int) ∧ (m1 : Int) ≤ 10000 ∧ IntKind.i64.wrap ((n : Int) - 1) = (n1 : Int) ∧ IntKind.i64.wrap ((n : Int) - 2) = (n2 : Int) ∧ (n1 : Int) < (n : Int) ∧ (n2 : Int) < (n : Int) := by
  refine ⟨m + 1, m + 1, n - 1, n - 2, rfl, rfl, rfl, by unfold wrap64; omega, by unfold wrap64; omega, by unfold wrap64; omega, by omega, ?_, ?_, by omega, by omega⟩
  · rw [IntKind.wrap_i64]; omega
  · rw [IntKind.wrap_i64]; omega
theorem step_down {j : Nat} (h : (j : Int) ≤ 10000) : ∃ z : Int, z = (j : Int) - 1 ∧ wrap64 ((j : Int) - 1) = z := ⟨_, rfl, by unfold wrap64; omega⟩
theorem jn_le {k m n lu j : Nat} (hk : j + 1 ≤ m + 1) (hm : m + n + 1 = lu) (hl : (lu : Int) ≤ 10000) : ((j + n : Nat) : Int) ≤ 100000 ∧ (j : Int) ≤ 10000 ∧ j < m + 1 ∧ j < lu := by omega
theorem lu_of {m n lu j : Nat} (hk : j + 1 ≤ m + 1) (hm : m + n + 1 = lu) : lu = j + n + 1 + (List.replicate (m + 1 - (j + 1)) 0).length := by rw [List.length_replicate]; omega
theorem win_lt {x Y V : Nat} (hx : x < B32) (hY : Y < V) : x + B32 * Y < V * B32 := by
  have : B32 * (Y + 1) ≤ B32 * V := Nat.mul_le_mul_left _ hY
  rw [Nat.mul_add, Nat.mul_one, Nat.mul_comm B32 V] at this
  omega
theorem div_mod_of {A V q y : Nat} (h : A = q * V + y) (hy : y < V) : q = A / V ∧ y = A % V := by
  have hV : 0 < V := by omega
  constructor
  · rw [h, Nat.add_comm, Nat.add_mul_div_right _ _ hV, Nat.div_eq_of_lt hy, Nat.zero_add]
  · rw [h, Nat.add_comm, Nat.add_mul_mod_self_right, Nat.mod_eq_of_lt hy]
set_option maxHeartbeats 8000000 in
theorem knEnd (a b A V s n m gu gv ov capv lu : Nat) (au : List Nat) (w0 w : World)
    (hU : VRow w gu au) (hau : au.length = lu) (okau : okV au) (hnA : natV au = A) (hV : WRow w (some ⟨gv, ov, none⟩) (dig V)) (hvn : (dig V).length = n) (hn2 : 2 ≤ n) (hg : gv ≠ gu) (hgv : gv < w.heap.size) (hgu : gu < w.heap.size) (hBu : w0.heap.size ≤ gu) (hVge : B32 ^ n ≤ 2 * V) (hm : m + n + 1 = lu) (hlu : (lu : Int) ≤ 10000) (hAlt : A < V * B32 ^ (m + 1)) (hB : Below w0.heap.size w0 w) (s32 : s < 32) (hq : A / V = a / b) (hr : A % V / 2 ^ s = a % b)
    (u0 u1 u2 u3 u4 u5 u6 u7 u8 u9 u13 u14 u15 u16 u17 u18 u19 u20 u21 u22 u23 u24 u25 u26 u27 u28 u29 u30 u31 u32 u33 u34 u35 u36 u37 u38 u39 u40 u41 u42 u43 u44 u45 u46 u47 u48 u49 u50 u51 u52 u53 u54 u55 u56 u57 u58 u59 u60 u61 u62 u63 u64 u65 u66 u67 u68 u69 u70 u71 u72 u73 u74 u75 u76 u77 u78 u79 u80 u81 u82 u83 u84 u85 u86 u87 u88 u89 u90 u91 u92 u93 u94 u95 u96 u97 u98 u99 u100 u101 u102 u103 u104 u105 u106 u107 u108 u109 u110 u111 u112 u113 u114 u115 u116 u117 u118 u119 u120 u121 u122 u123 u124 u125 u126 u127 u128 u129 u130 u131 u132 u133 u134 u135 u136 u137 u138 u139 u140 u141 u142 u143 u144 u145 u146 u147 u148 u149 u150 u151 u152 u153 u154 u155 u156 u157 u158 u159 u160 u161 u162 u163 u164 u165 u166 u167 u168 u169 u170 u171 u172 u173 u174 u175 u176 u177 u178 u179 u180 u181 u182 u183 u184 u185 u186 u187 u188 u189 u190 u191 u192 u193 u194 u195 u196 u197 u198 u199 u200 u201 u202 u203 u204 u205 u206 u207 u208 u209 u210 u211 u212 u213 u214 u215 u216 u217 u218 u219 u220 u221 u222 u223 u224 u225 u226 u227 u228 u229 u230 u231 u232 u233 u234 u235 u236 u237 u238 u239 u240 u241 u242 u243 u244 u245 u246 u247 u248 u249 u250 u251 u252 u253 u254 u255 u256 u257 u258 u259 u260 u261 u262 u263 u264 u265 u266 u267 u268 u269 u270 u271 u272 : Value) :
    Code.wp Tryz.prog kn15 (bodyPost Tryz.prog Tryz.f131 fun e w' => (∃ q t, e = .returned (.tuple #[q, t]) ∧ BigV w' q (a / b) ∧ BigV w' t (a % b)) ∧ Below w0.heap.size w0 w') ⟨List.toArray (u0 :: u1 :: u2 :: u3 :: u4 :: u5 :: u6 :: u7 :: u8 :: u9 :: (.int .u64 (s : Nat)) :: (.slice (some ⟨gv, ov, none⟩) n capv) :: (.slice (some ⟨gu, 0, none⟩) lu lu) :: u13 :: u14 :: u15 :: u16 :: u17 :: u18 :: u19 :: u20 :: u21 :: u22 :: u23 :: u24 :: u25 :: u26 :: u27 :: u28 :: u29 :: u30 :: u31 :: u32 :: u33 :: u34 :: u35 :: u36 :: u37 :: u38 :: u39 :: u40 :: u41 :: u42 :: u43 :: u44 :: u45 :: u46 :: u47 :: u48 :: u49 :: u50 :: u51 :: u52 :: u53 :: u54 :: u55 :: u56 :: u57 :: u58 :: u59 :: u60 :: u61 :: u62 :: u63 :: u64 :: u65 :: u66 :: u67 :: u68 :: u69 :: u70 :: u71 :: u72 :: u73 :: u74 :: u75 :: u76 :: u77 :: u78 :: u79 :: u80 :: u81 :: u82 :: u83 :: u84 :: u85 :: u86 :: u87 :: u88 :: u89 :: u90 :: u91 :: u92 :: u93 :: u94 :: u95 :: u96 :: u97 :: u98 :: u99 :: u100 :: u101 :: u102 :: u103 :: u104 :: u105 :: u106 :: u107 :: u108 :: u109 :: u110 :: u111 :: u112 :: u113 :: u114 :: u115 :: u116 :: u117 :: u118 :: u119 :: u120 :: u121 :: u122 :: u123 :: u124 :: u125 :: u126 :: u127 :: u128 :: u129 :: u130 :: u131 :: u132 :: u133 :: u134 :: u135 :: u136 :: u137 :: u138 :: u139 :: u140 :: u141 :: u142 :: u143 :: u144 :: u145 :: u146 :: u147 :: u148 :: u149 :: u150 :: u151 :: u152 :: u153 :: u154 :: u155 :: u156 :: u157 :: u158 :: u159 :: u160 :: u161 :: u162 :: u163 :: u164 :: u165 :: u166 :: u167 :: u168 :: u169 :: u170 :: u171 :: u172 :: u173 :: u174 :: u175 :: u176 :: u177 :: u178 :: u179 :: u180 :: u181 :: u182 :: u183 :: u184 :: u185 :: u186 :: u187 :: u188 :: u189 :: u190 :: u191 :: u192 :: u193 :: u194 :: u195 :: u196 :: u197 :: u198 :: u199 :: u200 :: u201 :: u202 :: u203 :: u204 :: u205 :: u206 :: u207 :: u208 :: u209 :: u210 :: u211 :: u212 :: u213 :: u214 :: u215 :: u216 :: u217 :: u218 :: u219 :: u220 :: u221 :: u222 :: u223 :: u224 :: u225 :: u226 :: u227 :: u228 :: u229 :: u230 :: u231 :: u232 :: u233 :: u234 :: u235 :: u236 :: u237 :: u238 :: u239 :: u240 :: u241 :: u242 :: u243 :: u244 :: u245 :: u246 :: u247 :: u248 :: u249 :: u250 :: u251 :: u252 :: u253 :: u254 :: u255 :: u256 :: u257 :: u258 :: u259 :: u260 :: u261 :: u262 :: u263 :: u264 :: u265 :: u266 :: u267 :: u268 :: u269 :: u270 :: u271 :: u272 :: []), []⟩ w := by
  have hV0 : 0 < V := by
    rcases Nat.eq_zero_or_pos V with h0 | h0
    · rw [h0] at hAlt; simp at hAlt
    · exact h0
  obtain ⟨top, htop⟩ : ∃ x, (dig V)[n - 1]? = some x := ⟨_, List.getElem?_eq_getElem (by omega)⟩
  obtain ⟨next, hnext⟩ : ∃ x, (dig V)[n - 2]? = some x := ⟨_, List.getElem?_eq_getElem (by omega)⟩
  have hbig : 2147483648 ≤ top := by
    have hnn : n = (n - 1) + 1 := by omega
    exact top_big (n := n - 1) (by omega) (okV_dig V) (natV_dig V) htop (by rw [← hnn]; exact hVge)
  have hbt : top < 4294967296 := okV_get (okV_dig V) htop
  have hbn : next < 4294967296 := okV_get (okV_dig V) hnext
  have hd0 := drop_lt (au := au) (k := m + 1) (by omega) hnA hAlt
  have hY0 : (au.drop (m + 1)).length = n := by rw [List.length_drop]; omega
  obtain ⟨i0, hi, hz0, hz1, hz2⟩ := info_partsV infoU32
  have wt : IntKind.u64.wrap (top : Int) = (top : Int) := wraps_u64 _ (by omega) (by omega)
  have wn : IntKind.u64.wrap (next : Int) = (next : Int) := wraps_u64 _ (by omega) (by omega)
  obtain ⟨x, m1, n1, n2, hm1, hn1, hn2', e1, e2, e3, e4, e5, e6, e7, e8⟩ := end_numsE hm hlu hn2
  rw [← hn1] at htop
  rw [← hn2'] at hnext
  have k2 : i0.bytes * m1 ≤ 281474976710656 := make_le hz2 e4
  have k3 : m1 ≤ maxLen := len_max e4
  have HU := hide hU; have HV := hide hV; have HAU := hide (And.intro hau (And.intro okau hnA)); have HB := hide hB; have HD := hide (And.intro hd0 hY0); have HM := hide (And.intro hm (And.intro hlu hm1)); have HG := hide (And.intro hgv (And.intro hgu hBu)); have HT := hide (And.intro htop (And.intro hnext hbig)); have HN := hide (And.intro hn1 (And.intro hn2' hn2)); have HQ := hide (And.intro hq hr); have HVN := hide (And.intro hvn hV0)
  clear hU hV hau okau hnA hB hd0 hY0 hm hlu hm1 hgv hgu hBu htop hnext hbig hbt hbn hn1 hn2' hq hr hvn hV0 hVge hAlt hn2
  conv => arg 2; whnf
  go_wp2_with (at_make; refine wpList_make_full _ rfl _ _ 99 rfl w.heap.size 119 i0 (.int .u32 0) 1 Tryz.underlying99 hi hz0 hz1 .i64 .i64 _ _ m1 rfl rfl e3 e3 k2 k3 (Nat.le_refl _) ?_)
  intro w1 hown hgrow
  have hQ1 := made_vrow hown
  have hb1 : Below w.heap.size w w1 := (Below.refl _ _).grown hgrow (Nat.le_refl _) (fun q hq => by cases hq)
  have hV1 := (unhide HV).below hb1
  have c1 : w1.drew.cell? ⟨gv, ov + n1, none⟩ = some (.int .u32 (top : Nat)) := hV1.at (unhide HT).1
  have c2 : w1.drew.cell? ⟨gv, ov + n2, none⟩ = some (.int .u32 (next : Nat)) := hV1.at (unhide HT).2.1
  obtain ⟨gq, hgq⟩ : ∃ gq, gq = w.heap.size := ⟨_, rfl⟩
  have HQ1 := hide hQ1; have HB1 := hide hb1; have HV1 := hide hV1; have HGQ := hide hgq
  rw [← hgq] at HQ1
  rw [← hgq]
  clear hown hgrow hQ1 hb1 hV1 hgq hi hz0 hz1 hz2 k2 k3 e1 e2 e3
  go_upto_region 18 with fail
  go_cut [16, 17] (fun v v' wx => v = .int .u64 (top : Nat) ∧ v' = .int .u64 (next : Nat) ∧ wx = w1.drew)
  case first =>
    refine wp_drawnV (by kernel_rfl) 273 (by rfl) (by kernel_rfl) (by kernel_rfl) (vals [.slice (some ⟨gv, ov, none⟩) n capv, .int .i64 (n : Nat), .int .i64 (n1 : Nat), .pointer (some ⟨gv, ov + n1, none⟩), .int .u32 (top : Nat), .int .u64 (top : Nat), .slice (some ⟨gv, ov, none⟩) n capv, .int .i64 (n : Nat), .int .i64 (n2 : Nat), .pointer (some ⟨gv, ov + n2, none⟩), .int .u32 (next : Nat), .int .u64 (next : Nat), .int .u64 (top : Nat), .int .u64 (next : Nat)]) ?_ ?_
    · refine ⟨?_, ?_, ?_, ?_, ?_, ?_, ?_, ?_, ?_, ?_, ?_, ?_, ?_, ?_, trivial⟩
      · intro ac hpre hoff hbef
        have e11 : ac.eval (.tmp 11) = .slice (some ⟨gv, ov, none⟩) n capv := (hoff 11 (by kernel_rfl)).trans rfl
        have g11 := evT e11
        refine ⟨.slice (some ⟨gv, ov, none⟩) n capv, ?_, rfl⟩
        clear hpre hoff hbef
        go_simp
      · intro ac hpre hoff hbef
        have e13 : ac.eval (.tmp 13) = .int .i64 (n : Nat) := (hoff 13 (by kernel_rfl)).trans rfl
        have g13 := evT e13
        refine ⟨.int .i64 (n : Nat), ?_, rfl⟩
        clear hpre hoff hbef
        go_simp
      · intro ac hpre hoff hbef
        have e97 : ac.eval (.tmp 97) = .int .i64 (n : Nat) := hpre 1 (by kernel_rfl)
        have g97 := evT e97
        refine ⟨.int .i64 (n1 : Nat), ?_, rfl⟩
        clear hpre hoff hbef
        go_simp
      · intro ac hpre hoff hbef
        have e96 : ac.eval (.tmp 96) = .slice (some ⟨gv, ov, none⟩) n capv := hpre 0 (by kernel_rfl)
        have g96 := evT e96
        have e98 : ac.eval (.tmp 98) = .int .i64 (n1 : Nat) := hpre 2 (by kernel_rfl)
        have g98 := evT e98
        refine ⟨.pointer (some ⟨gv, ov + n1, none⟩), ?_, rfl⟩
        clear hpre hoff hbef
        go_simp
      · intro ac hpre hoff hbef
        have e99 : ac.eval (.tmp 99) = .pointer (some ⟨gv, ov + n1, none⟩) := hpre 3 (by kernel_rfl)
        have g99 := evT e99
        refine ⟨.int .u32 (top : Nat), ?_, rfl⟩
        clear hpre hoff hbef
        go_simp
      · intro ac hpre hoff hbef
        have e100 : ac.eval (.tmp 100) = .int .u32 (top : Nat) := hpre 4 (by kernel_rfl)
        have g100 := evT e100
        refine ⟨.int .u64 (top : Nat), ?_, rfl⟩
        clear hpre hoff hbef
        go_simp
      · intro ac hpre hoff hbef
        have e11 : ac.eval (.tmp 11) = .slice (some ⟨gv, ov, none⟩) n capv := (hoff 11 (by kernel_rfl)).trans rfl
        have g11 := evT e11
        refine ⟨.slice (some ⟨gv, ov, none⟩) n capv, ?_, rfl⟩
        clear hpre hoff hbef
        go_simp
      · intro ac hpre hoff hbef
        have e13 : ac.eval (.tmp 13) = .int .i64 (n : Nat) := (hoff 13 (by kernel_rfl)).trans rfl
        have g13 := evT e13
        refine ⟨.int .i64 (n : Nat), ?_, rfl⟩
        clear hpre hoff hbef
        go_simp
      · intro ac hpre hoff hbef
        have e103 : ac.eval (.tmp 103) = .int .i64 (n : Nat) := hpre 7 (by kernel_rfl)
        have g103 := evT e103
        refine ⟨.int .i64 (n2 : Nat), ?_, rfl⟩
        clear hpre hoff hbef
        go_simp
      · intro ac hpre hoff hbef
        have e102 : ac.eval (.tmp 102) = .slice (some ⟨gv, ov, none⟩) n capv := hpre 6 (by kernel_rfl)
        have g102 := evT e102
        have e104 : ac.eval (.tmp 104) = .int .i64 (n2 : Nat) := hpre 8 (by kernel_rfl)
        have g104 := evT e104
        refine ⟨.pointer (some ⟨gv, ov + n2, none⟩), ?_, rfl⟩
        clear hpre hoff hbef
        go_simp
      · intro ac hpre hoff hbef
        have e105 : ac.eval (.tmp 105) = .pointer (some ⟨gv, ov + n2, none⟩) := hpre 9 (by kernel_rfl)
        have g105 := evT e105
        refine ⟨.int .u32 (next : Nat), ?_, rfl⟩
        clear hpre hoff hbef
        go_simp
      · intro ac hpre hoff hbef
        have e106 : ac.eval (.tmp 106) = .int .u32 (next : Nat) := hpre 10 (by kernel_rfl)
        have g106 := evT e106
        refine ⟨.int .u64 (next : Nat), ?_, rfl⟩
        clear hpre hoff hbef
        go_simp
      · intro ac hpre hoff hbef
        have e101 : ac.eval (.tmp 101) = .int .u64 (top : Nat) := hpre 5 (by kernel_rfl)
        have g101 := evT e101
        refine ⟨.int .u64 (top : Nat), ?_, rfl⟩
        clear hpre hoff hbef
        go_simp
      · intro ac hpre hoff hbef
        have e107 : ac.eval (.tmp 107) = .int .u64 (next : Nat) := hpre 11 (by kernel_rfl)
        have g107 := evT e107
        refine ⟨.int .u64 (next : Nat), ?_, rfl⟩
        clear hpre hoff hbef
        go_simp
    · intro ac hdf hsz hoff hall
      have h96 : ac.tmps.getD 96 undef = .slice (some ⟨gv, ov, none⟩) n capv := hall 0 (by decide)
      have h97 : ac.tmps.getD 97 undef = .int .i64 (n : Nat) := hall 1 (by decide)
      have h98 : ac.tmps.getD 98 undef = .int .i64 (n1 : Nat) := hall 2 (by decide)
      have h99 : ac.tmps.getD 99 undef = .pointer (some ⟨gv, ov + n1, none⟩) := hall 3 (by decide)
      have h16 : ac.tmps.getD 16 undef = .int .u64 (top : Nat) := hall 12 (by decide)
      have h17 : ac.tmps.getD 17 undef = .int .u64 (next : Nat) := hall 13 (by decide)
      have hmix := mix_eq ([false, false, false, false, false, false, false, false, false, false, false, false, false, false, false, false, true, true, false, false, false, false, false, false, false, false, false, false, false, false, false, false, false, false, false, false, false, false, false, false, false, false, false, false, false, false, false, false, false, false, false, false, false, false, false, false, false, false, false, false, false, false, false, false, false, false, false, false, false, false, false, false, false, false, false, false, false, false, false, false, false, false, false, false, false, false, false, false, false, false, false, false, false, false, false, false, true, true, true, true, true, true, true, true, true, true, true, true, false, false, false, false, false, false, false, false, false, false, false, false, false, false, false, false, false, false, false, false, false, false, false, false, false, false, false, false, false, false, false, false, false, false, false, false, false, false, false, false, false, false, false, false, false, false, false, false, false, false, false, false, false, false, false, false, false, false, false, false, false, false, false, false, false, false, false, false, false, false, false, false, false, false, false, false, false, false, false, false, false, false, false, false, false, false, false, false, false, false, false, false, false, false, false, false, false, false, false, false, false, false, false, false, false, false, false, false, false, false, false, false, false, false, false, false, false, false, false, false, false, false, false, false, false, false, false, false, false, false, false, false, false, false, false, false, false, false, false, false, false, false, false, false, false, false, false, false, false, false, false, false, false, false, false, false, false, false, false, false, false, false, false, false, false]) rfl rfl hsz hdf (by kernel_rfl) hoff
      clear hoff hall hsz hdf
      simp only [mixL, Nat.reduceAdd, h96, h97, h98, h99, h16, h17] at hmix
      rw [hmix]
      clear hmix
      go_wp2_with fail
      go_meet
      exact ⟨rfl, rfl, rfl⟩
  case rest =>
  obtain ⟨rfl, rfl, hwc⟩ := hcut
  have hwc2 := hwc.symm
  subst hwc2
  clear hwc c1 c2 e5 e6 e7 e8 wt wn
  go_wp2
  go_loopw [18] (fun v wr => ∃ (k : Nat) (z : Int) (Y Qs : List Nat), v = .int .i64 z ∧ z = (k : Int) - 1 ∧ k ≤ m + 1 ∧ VRow wr gu (au.take k ++ Y ++ List.replicate (m + 1 - k) 0) ∧ Y.length = n ∧ okV Y ∧ natV Y < V ∧ VRow wr gq (List.replicate k 0 ++ Qs) ∧ Qs.length = m + 1 - k ∧ okV Qs ∧ Hid (natV (au.drop k) = natV Qs * V + natV Y) ∧ KTwo w0.heap.size gu gq w1 wr) (fun v _ => (intOf v + 1).toNat)
  case atStart =>
    obtain ⟨hau, okau, hnA⟩ := unhide HAU
    obtain ⟨hd0, hY0⟩ := unhide HD
    obtain ⟨hm, hlu, hm1⟩ := unhide HM
    have hbu := (unhide HU).below (unhide HB1)
    refine ⟨m + 1, (m : Int), au.drop (m + 1), [], rfl, ?_, Nat.le_refl _, ?_, hY0, fun y hy => okau y (List.mem_of_mem_drop hy), hd0, ?_, ?_, okV_nil, hide ?_, (KTwo.refl _ _ _ _).drew⟩
    · omega
    · rw [Nat.sub_self, List.replicate_zero, List.append_nil, List.take_append_drop]; exact hbu
    · rw [← hm1, List.append_nil]; exact unhide HQ1
    · rw [Nat.sub_self]; rfl
    · simp [natV]
  case round =>
    obtain ⟨k, z, Y, Qs, rfl, hz, hk, hU, hYl, hYok, hYlt, hQr, hQl, hQok, hQv, hKT⟩ := hrel
    obtain ⟨hau, okau, hnA⟩ := unhide HAU
    obtain ⟨hm, hlu, hm1⟩ := unhide HM
    obtain ⟨hgv, hgu, hBu⟩ := unhide HG
    obtain ⟨hvn, hV0⟩ := unhide HVN
    have hgqu : gq ≠ gu := by rw [unhide HGQ]; exact Ne.symm (Nat.ne_of_lt hgu)
    have hgqv : gv ≠ gq := by rw [unhide HGQ]; exact Nat.ne_of_lt hgv
    have hBq : w0.heap.size ≤ gq := by rw [unhide HGQ]; exact Nat.le_trans hBu (Nat.le_of_lt hgu)
    cases k with
    | succ j =>
      have hzj : z = (j : Int) := by rw [hz]; simp
      subst hzj
      clear hz
      obtain ⟨hjn, hj1, hjm, hjl⟩ := jn_le (k := 0) hk hm hlu
      have hlu2 := lu_of hk hm
      obtain ⟨z2, hz2, e21⟩ := step_down hj1
      obtain ⟨xj, hxj⟩ : ∃ x, au[j]? = some x := ⟨_, List.getElem?_eq_getElem (by rw [hau]; exact hjl)⟩
      have hxb : xj < B32 := okV_get okau hxj
      obtain ⟨n9, hn9⟩ : ∃ n9, n = n9 + 1 := ⟨n - 1, by have := (unhide HN).2.2; omega⟩
      obtain ⟨wl, un, hwin, hwl, hwok, hwv⟩ := window xj Y n9 (by rw [hYl, hn9])
      rw [← hn9] at hwl hwv
      obtain ⟨okw, hunb⟩ := hwok (fun y hy => by
        rcases List.mem_cons.1 hy with rfl | hy
        · exact hxb
        · exact hYok y hy)
      rw [row_window (n := n) hxj wl un hwin] at hU
      have hV9 := ((unhide HV1).two hKT hg hgqv)
      have hn2 := (unhide HN).2.2
      obtain ⟨ua, hua⟩ : ∃ x, wl[n - 1]? = some x := ⟨_, List.getElem?_eq_getElem (by omega)⟩
      obtain ⟨ub, hub⟩ : ∃ x, wl[n - 2]? = some x := ⟨_, List.getElem?_eq_getElem (by omega)⟩
      obtain ⟨ht1, ht2, hbig⟩ := unhide HT
      rw [(unhide HN).1] at ht1
      rw [(unhide HN).2.1] at ht2
      have hlt0 : natV wl + un * B32 ^ n < natV (dig V) * B32 := by rw [hwv, natV_dig]; exact win_lt hxb hYlt
      have hlo : (au.take j).length = j := by rw [List.length_take, hau]; exact Nat.min_eq_left (Nat.le_of_lt hjl)
      have hql : (List.replicate (j + 1) 0 ++ Qs).length = m1 := by rw [List.length_append, List.length_replicate, hQl, hm1]; omega
      have hjq : j < m1 := by rw [hm1]; exact hjm
      have HRD := hide (fun (Q : Exit → Act → World → Prop) => @knRound w0.heap.size gu gv gq ov capv lu m1 j n un ua ub top next (au.take j) wl (dig V) (List.replicate (m + 1 - (j + 1)) 0) (List.replicate (j + 1) 0 ++ Qs) wr Q hU hV9 hQr hg hgqu hBu hBq hlo hwl hvn hql hjq okw (okV_dig V) hunb hjn hlu2 hn2 hua hub ht1 ht2 hbig hlt0)
      have hD := natV_drop au j xj hxj
      have HMORE := hide (round_more hD (unhide hQv))
      have HDEC := hide hz2; have HKT := hide hKT; have HWV := hide hwv; have HQOK := hide hQok; have HQL := hide hQl; have HJM := hide (And.intro hjm hk)
      have HQB : Hid ((natV wl + un * B32 ^ n) / natV (dig V) < B32) := hide (Nat.div_lt_of_lt_mul hlt0)
      have hj0 : (0 : Int) ≤ (j : Int) := Int.natCast_nonneg _
      clear hU hV9 hQr hwin hwl okw hunb hua hub ht1 ht2 hbig hlt0 hlo hql hjq hlu2 hjn hxj hxb hD hz2 hKT hwv hn9 hwok hYl hYok hYlt hQl hQok hQv hau okau hnA hm hlu hm1 hgv hgu hvn hV0 hn2 hj1 hjm hjl hk
      go_upto_block 1 with fail
      refine wp_block ?_
      refine unhide HRD _ _ _ _ _ _ _ _ _ _ _ _ _ _ _ _ _ _ _ _ _ _ _ _ _ _ _ _ _ _ _ _ _ _ _ _ _ _ _ _ _ _ _ _ _ _ _ _ _ _ _ _ _ _ _ _ _ _ _ _ _ _ _ _ _ _ _ _ _ _ _ _ _ _ _ _ _ _ _ _ _ _ _ _ _ _ _ _ _ _ _ _ _ _ _ _ _ _ _ _ _ _ _ _ _ _ _ _ _ _ _ _ _ _ _ _ _ _ _ _ _ _ _ _ _ _ _ _ _ _ _ _ _ _ _ _ _ _ _ _ _ _ _ _ _ _ _ _ _ _ _ _ _ _ _ _ _ _ _ _ _ _ _ _ _ _ _ _ _ _ _ _ _ _ _ _ _ _ _ _ _ _ _ _ _ _ _ _ _ _ _ _ _ _ _ _ _ _ _ _ _ _ _ _ _ _ _ _ _ _ _ _ _ _ _ _ _ _ _ _ _ _ _ _ _ _ _ _ _ _ _ _ _ _ _ _ _ _ _ _ _ _ _ _ _ _ _ _ _ _ _ _ _ _ _ _ _ _ _ _ _ _ _ _ _ _ _ ?_
      intro y19 y20 y21 y22 y23 y24 y25 y26 y27 y113 y114 y115 y116 y117 y118 y119 y120 y121 y122 y123 y124 y125 y126 y127 y128 y129 y130 y131 y132 y133 y134 y135 y136 y137 y138 y139 y140 y141 y142 y143 y144 y145 y146 y147 y148 y149 y150 y151 y152 y153 y154 y155 y156 y157 y158 y159 y160 y161 y162 y163 y164 y165 y166 y167 y168 y169 y170 y171 y172 y173 y174 y175 y176 y177 y178 y179 y180 y181 y182 y183 y184 y185 y186 y187 y188 y189 y190 y191 y192 y193 y194 y195 y196 y197 y198 y199 y200 y201 y202 y203 y204 y205 y206 y207 y208 y209 y210 y211 y212 y213 y214 y215 y216 y217 y218 y219 y220 y221 y222 y223 y224 y225 y226 y227 y228 y229 y230 y231 y232 y233 y234 y235 y236 y237 y238 y239 y240 y241 y242 y243 y244 y245 y246 y247 y248 y249 y250 y251 y252 y253 y254 y255 y256 y257 y258 y259 y260 y261 y262 y263 y264 y265 y266
      intro wy hA
      obtain ⟨A2, a1, a2, a3, a4, a5, a6⟩ := hA
      rw [natV_dig, unhide HWV] at a4 a5
      have HREL : Hid (∃ (k : Nat) (z : Int) (Y Qs : List Nat), Value.int .i64 z2 = .int .i64 z ∧ z = (k : Int) - 1 ∧ k ≤ m + 1 ∧ VRow wy gu (au.take k ++ Y ++ List.replicate (m + 1 - k) 0) ∧ Y.length = n ∧ okV Y ∧ natV Y < V ∧ VRow wy gq (List.replicate k 0 ++ Qs) ∧ Qs.length = m + 1 - k ∧ okV Qs ∧ Hid (natV (au.drop k) = natV Qs * V + natV Y) ∧ KTwo w0.heap.size gu gq w1 wy) := hide (by
        obtain ⟨hjm, hk⟩ := unhide HJM
        obtain ⟨hvn, hV0⟩ := unhide HVN
        refine ⟨j, z2, A2, (xj + B32 * natV Y) / V :: Qs, rfl, unhide HDEC, by omega, ?_, a2, a3, by rw [a4]; exact Nat.mod_lt _ hV0, ?_, ?_, ?_, hide ?_, (unhide HKT).trans a6⟩
        · rw [row_next, show m + 1 - (j + 1) + 1 = m + 1 - j by omega] at a1
          exact a1
        · rw [quo_next] at a5; exact a5
        · rw [List.length_cons, unhide HQL]; omega
        · intro y hy
          rcases List.mem_cons.1 hy with rfl | hy
          · have := unhide HQB
            rwa [natV_dig, unhide HWV] at this
          · exact unhide HQOK y hy
        · rw [a4]; exact unhide HMORE)
      have HMEAS : Hid ((z2 + 1).toNat < ((j : Int) + 1).toNat) := hide (by have := unhide HDEC; omega)
      clear a1 a2 a3 a4 a5 a6
      go_wp2
      go_roundw
      case rel =>
        first
        | exact unhide HREL
        | (rw [e21]; exact unhide HREL)
      case measure =>
        have hme := unhide HMEAS
        rw [← e21] at hme
        simpa [intOf] using hme
    | zero =>
      have hz0 : z = -1 := by rw [hz]; rfl
      subst hz0
      clear hz
      have hAq : A = natV Qs * V + natV Y := by rw [← hnA]; exact unhide hQv
      obtain ⟨hqe, hye⟩ := div_mod_of hAq hYlt
      obtain ⟨hq, hr⟩ := unhide HQ
      rw [hq] at hqe
      rw [← hye] at hr
      rw [List.take_zero, List.nil_append, Nat.sub_zero] at hU
      rw [List.replicate_zero, List.nil_append] at hQr
      rw [Nat.sub_zero] at hQl
      have hokU : okV (Y ++ List.replicate (m + 1) 0) := okV_append hYok (okV_zeros _)
      have hnU : natV (Y ++ List.replicate (m + 1) 0) = natV Y := by rw [natV_append, natV_zeros, Nat.mul_zero, Nat.add_zero]
      have hlU : (Y ++ List.replicate (m + 1) 0).length = lu := by rw [List.length_append, hYl, List.length_replicate]; omega
      have T1 := trim_any Qs gq 0 m1 wr hQr.wrow hQok (by rw [hQl, ← hm1]; omega) (by rw [hQl, ← hm1]; omega) (by omega)
      have T2 := trim_any (Y ++ List.replicate (m + 1) 0) gu 0 lu wr hU.wrow hokU (by rw [hlU]; omega) (by rw [hlU]; omega) (by omega)
      have hwd1 := wrow_dig hQr.wrow hQok
      have hwd2 := wrow_dig hU.wrow hokU
      rw [hlU, hnU] at T2
      rw [hQl, ← hm1, hqe] at T1
      rw [hnU] at hwd2
      rw [hqe] at hwd1
      obtain ⟨ly, hly⟩ : ∃ ly, ly = (dig (natV Y)).length := ⟨_, rfl⟩
      have hly2 : (ly : Int) ≤ 100000 := by
        have := dig_length Y hYok
        rw [hly]; omega
      have T3 := rightK_rows (dig (natV Y)) s s32 (some ⟨gu, 0, none⟩) lu wr hwd2 (okV_dig _) (by rw [← hly]; exact hly2)
      rw [natV_dig, hr, ← hly] at T3
      rw [← hly] at T2
      have HT1 := hide T1; have HT2 := hide T2; have HT3 := hide T3; have HW1 := hide hwd1
      have HBE : Hid (Below w0.heap.size w0 wr) := hide (((unhide HB).trans ((unhide HB1).mono (unhide HB).size)).trans hKT.b)
      clear hAq hqe hye hq hr hU hQr hQl hokU hnU hlU T1 T2 T3 hwd1 hwd2 hly hly2 hYl hYok hYlt hQok hQv hKT hau okau hnA hm hlu hm1 hgv hgu hBu hvn hV0 hgqu hgqv hBq hk
      go_wp2_with fail
      refine (unhide HT1).mono ?_
      rintro e z1 ⟨rfl, hz1⟩
      have hz2 := hz1.symm
      subst hz2
      clear hz1
      go_wp2_with fail
      refine (unhide HT2).mono ?_
      rintro e z1 ⟨rfl, hz1⟩
      have hz2 := hz1.symm
      subst hz2
      clear hz1
      go_wp2_with fail
      refine (unhide HT3).mono ?_
      rintro e z3 ⟨⟨vr, rfl, hvr⟩, k3⟩
      have HRES : Hid ((BigV z3 (.slice (some ⟨gq, 0, none⟩) (dig (a / b)).length m1) (a / b) ∧ BigV z3 vr (a % b)) ∧ Below w0.heap.size w0 z3) := hide ⟨⟨⟨_, _, rfl, (unhide HW1).below k3⟩, hvr⟩, (unhide HBE).trans (k3.mono (unhide HBE).size)⟩
      generalize (dig (a / b)).length = lq at *
      clear hvr k3
      go_wp2
      exact bodyPost_ret (v := .tuple #[.slice (some ⟨gq, 0, none⟩) lq m1, vr]) (by simp [results, Tryz.results131, go_sem]) rfl ⟨⟨_, _, rfl, (unhide HRES).1.1, (unhide HRES).1.2⟩, (unhide HRES).2⟩
end Go.Proofs.YtckkhpegimkefaaGreatDoor
