/- ClearSums: the law's walk. -/
import Derived.Test.YtdameincehiieaaCsX2
import Derived.Test.YtdameincehiieaaCsX3
import Derived.Test.YtdameincehiieaaCsX4
import Derived.Test.YtdameincehiieaaCsX5
import Derived.Test.YtdameincehiieaaCsX6
namespace Go.Proofs.Ytdameincehiieaa
open Go.RowKit Go.WideMaps Go.Maps
set_option linter.unusedVariables false
set_option linter.unusedSimpArgs false
set_option maxRecDepth 100000

set_option maxHeartbeats 1000000 in
theorem walkClearSums (x : XDays) (l : List XStep) (ao : Option Addr) (cap : Nat) (w : World) (hx : okDays w x) (hl : RowStep w ao l) :
    Calls Try.prog 4 #[valDays x, .slice ao l.length cap] w fun e w' => e = .returned (.bool true) ∧ Below w.heap.size w w' := by
  have hll : (l.length : Int) ≤ maxLen := by have := hl.2.2; omega
  have hmx : (maxLen : Int) ≤ 9223372036854775807 := by decide
  have hlen : (l.length : Int) ≤ 9223372036854775807 := Int.le_trans hll hmx
  have HL := hide hl
  have hbD : Below w.heap.size w (w.alloc (.cells #[.int .i64 x.di, .int .i64 x.an, .int .i64 x.ins, .int .i64 x.fee] 23)) := (Below.refl w.heap.size w).alloc (Nat.le_refl _) _
  have N1 := hide (new_any (dysOf x) (w.alloc (.cells #[.int .i64 x.di, .int .i64 x.an, .int .i64 x.ins, .int .i64 x.fee] 23)))
  have HBD := hide hbD
  have hmm := @run_makeMap Try.prog
  unfold dysV at N1
  unfold valDays
  dsimp only [dysOf] at N1
  clear hl hll hmx hx hbD
  go_enter Try.func4, Try.ntmps4
  go_wp2_with fail
  refine (unhide N1).mono ?_
  rintro e w1 (⟨hbad, rfl, hb1⟩ | ⟨hgood, b, F0, rfl, hC, hb1, hF⟩)
  · have HB1 := hide ((unhide HBD).trans (hb1.mono (by simp)))
    clear hbad hb1
    go_wp2
    go_ret
    exact ⟨rfl, unhide HB1⟩
  · have HB1 := hide ((unhide HBD).trans (hb1.mono (by simp)))
    have HST := hide (csStart hC (unhide HB1) (fun y hy => Nat.le_trans (by simp) (hF y hy)) hgood)
    clear hgood hb1 hC hF
    go_upto_block 0 with fail
    generalize (((w1.alloc _).alloc _).alloc _).alloc _ = w2 at *
    generalize w1.heap.size = mp at *
    go_cut [11] (fun dv wx => ∃ d : Int, dv = .int .i64 d ∧ CsA w wx b ⟨mp, mp + 1, mp + 1 + 1, mp + 1 + 1 + 1⟩ d)
    case first =>
      go_wp2_with fail
      go_loopw [11, 50] (fun dv iv wr => ∃ (k : Nat) (d : Int), k ≤ l.length ∧ iv = .int .i64 k ∧ dv = .int .i64 d ∧ CsA w wr b ⟨mp, mp + 1, mp + 1 + 1, mp + 1 + 1 + 1⟩ d) (fun _ iv _ => l.length - (intOf iv).toNat)
      case atStart => exact ⟨0, 0, Nat.zero_le _, rfl, rfl, unhide HST⟩
      case round =>
        obtain ⟨k, d, hk, rfl, rfl, hA⟩ := hrel
        by_cases hlt : k < l.length
        · obtain ⟨s, hs⟩ : ∃ s, l[k]? = some s := ⟨_, List.getElem?_eq_getElem hlt⟩
          have hsok := (unhide HL).2.1 s (List.mem_of_getElem? hs)
          rcases (unhide HL).1 with hn | ⟨gb, go, rfl, hgl, hcell⟩
          · rw [hn] at hlt; simp at hlt
          obtain ⟨F, S, H, rfl, hW, hV⟩ := hA
          obtain ⟨s0, s1, s2, s3, s4, s5, s6, s7, s8, s9, s10, s11⟩ := hcell k s hs
          have hbl := hW.bel
          replace s0 := cell_far hbl hgl s0; replace s1 := cell_far hbl hgl s1; replace s2 := cell_far hbl hgl s2; replace s3 := cell_far hbl hgl s3; replace s4 := cell_far hbl hgl s4; replace s5 := cell_far hbl hgl s5
          replace s6 := cell_far hbl hgl s6; replace s7 := cell_far hbl hgl s7; replace s8 := cell_far hbl hgl s8; replace s9 := cell_far hbl hgl s9; replace s10 := cell_far hbl hgl s10; replace s11 := cell_far hbl hgl s11
          have hki : (k : Int) < (l.length : Int) := by omega
          have hB1 : Below wr.heap.size wr ((wr.alloc (stepObj s)).alloc (.cells #[.int .i64 s.shop, .int .i64 s.trace] 60)) := ((Below.refl _ _).alloc (Nat.le_refl _) _).alloc (by simp) _
          have hX : ((wr.alloc (stepObj s)).alloc (.cells #[.int .i64 s.shop, .int .i64 s.trace] 60)).heap[wr.heap.size]? = some (stepObj s) := (((Below.refl (wr.alloc (stepObj s)).heap.size (wr.alloc (stepObj s))).alloc (Nat.le_refl _) _).block wr.heap.size (by simp)).trans (alloc_at wr (stepObj s))
          have hnF : ∀ x, F x → x < wr.heap.size := hW.c.ltS
          have hW1 := hW.below hB1
          obtain ⟨_, hi1, hi2, hi3, hi4, hi5⟩ := hsok
          have HI := hide (And.intro hi1 (And.intro hi2 (And.intro hi3 (And.intro hi4 hi5))))
          obtain ⟨W1, hWe⟩ : ∃ W1, W1 = (wr.alloc (stepObj s)).alloc (.cells #[.int .i64 s.shop, .int .i64 s.trace] 60) := ⟨_, rfl⟩
          have hKX : ((wr.alloc (stepObj s)).alloc (.cells #[.int .i64 s.shop, .int .i64 s.trace] 60)).heap[wr.heap.size + 1]? = some (.cells #[.int .i64 s.shop, .int .i64 s.trace] 60) := by
            have := alloc_at (wr.alloc (stepObj s)) (.cells #[.int .i64 s.shop, .int .i64 s.trace] 60)
            rwa [show (wr.alloc (stepObj s)).heap.size = wr.heap.size + 1 by simp] at this
          rw [← hWe] at hW1 hX hKX
          have HKX := hide hKX
          clear hKX
          have HW1 := hide hW1; have HV := hide hV; have HX := hide hX; have HNF := hide hnF; have HWE := hide hWe
          clear hs hcell hW hbl hB1 hX hnF hW1 hV hi1 hi2 hi3 hi4 hi5 hWe HST
          obtain ⟨sd, sh, st, sa, sy, sf, ⟨pf, pd, ps, pt, pa, py⟩⟩ := s
          unfold stepObj at HWE
          dsimp only at *
          have HII : Hid (InR sh ∧ InR st ∧ InR ps ∧ InR pt) := hide ⟨(unhide HI).1, (unhide HI).2.1, (unhide HI).2.2.2.2.2.2.1, (unhide HI).2.2.2.2.2.2.2.1⟩
          have hkk : (k : Int) < 9223372036854775807 := by omega
          go_upto_block 2 with fail
          rw [← unhide HWE]
          obtain ⟨gs, hgs⟩ : ∃ gs, gs = wr.heap.size := ⟨_, rfl⟩
          rw [← hgs] at HX HNF HKX ⊢
          clear hgs HWE
          go_cut [11] (fun dv wx => ∃ d' : Int, dv = .int .i64 d' ∧ CsArm w wx b ⟨mp, mp + 1, mp + 1 + 1, mp + 1 + 1 + 1⟩ gs ⟨sd, sh, st, sa, sy, sf, ⟨pf, pd, ps, pt, pa, py⟩⟩ d')
          case first =>
            have HQM : ∀ (J : Exit → Act → World → Prop), J = J := fun _ => rfl
            by_cases q0 : sd = 0
            · refine csSw0 w W1 F b mp gs S H sd sh st sa sy sf pf pd ps pt pa py _ (unhide HW1) (unhide HV) (unhide HX) (unhide HKX) (unhide HNF) (unhide HII) q0 _ _ _ _ _ _ _ _ _ _ _ _ _ _ _ _ _ _ _ _ _ _ _ _ _ _ _ _ _ _ _ _ _ _ _ _ _ _ _ _ _ _ _ _ _ _ _ _ _ _ _ _ _ _ _ _ _ _ _ _ _ _ _ _ _ _ _ _ _ _ _ _ _ _ _ _ _ _ _ _ _ _ _ _ _ _ _ _ _ _ _ _ _ _ _ _ _ _ _ _ _ _ _ _ _ _ _ _ _ _ _ _ _ _ _ _ _ _ _ _ _ _ _ _ _ _ _ _ _ _ _ _ _ _ _ _ _ _ _ _ _ _ _ _ _ _ _ _ _ _ _ _ _ _ _ _ _ _ _ _ _ _ _ _ _ _ _ _ _ _ _ _ _ _ _ _ _ _ _ _ _ _ _ _ _ _ _ _ _ _ _ _ _ _ _ _ _ _ _ _ _ _ _ _ _ _ _ _ _ _ _ _ _ _ _ _ _ _ _ _ _ _ _ _ _ _ _ _ _ _ _ _ _ _ _ _ _ _ _ _ _ _ _ _ _ _ _ _ _ _ _ _ _ _ _ _ _ _ _ _ _ _ _ _ _ _ _ _ _ _ _ _ _ _ _ _ _ _ _ _ _ _ _ _ _ _ _ _ _ _ _ _ _ _ _ _ _ _ _ _ _ _ _ _ _ _ _ _ _ _ _ _ _ _ _ _ _ _ _ _ _ _ _ _ _ _ _ _ _ _ _ _ _ _ _ _ _ _ _ _ _ _ ?_
              intro d' wy v15 v17 v61 v62 v63 v64 v65 v66 v67 v68 v69 v70 v71 v72 v73 v74 v75 v76 v77 v78 v79 v80 v81 v82 v83 v84 v85 v86 v87 v88 v89 v90 v91 v92 v93 v94 v95 v96 v97 v98 v99 v100 v101 v102 v103 v104 v105 v106 v107 v108 v109 v110 v111 v112 v113 v114 v115 v116 v117 v118 v119 v120 v121 v122 v123 v124 v125 v126 v127 v128 v129 v130 v131 v132 v133 v134 v135 v136 v137 v138 v139 v140 v141 v142 v143 v144 v145 v146 v147 v148 v149 v150 v151 v152 v153 v154 v155 v156 v157 v158 v159 v160 v161 v162 hA
              clear q0
              go_wp2_with fail
              go_meet
              exact ⟨_, rfl, hA⟩
            by_cases q1 : sd = 1
            · refine csSw1 w W1 F b mp gs S H sd sh st sa sy sf pf pd ps pt pa py _ (unhide HW1) (unhide HV) (unhide HX) (unhide HKX) (unhide HNF) (unhide HII) q1 _ _ _ _ _ _ _ _ _ _ _ _ _ _ _ _ _ _ _ _ _ _ _ _ _ _ _ _ _ _ _ _ _ _ _ _ _ _ _ _ _ _ _ _ _ _ _ _ _ _ _ _ _ _ _ _ _ _ _ _ _ _ _ _ _ _ _ _ _ _ _ _ _ _ _ _ _ _ _ _ _ _ _ _ _ _ _ _ _ _ _ _ _ _ _ _ _ _ _ _ _ _ _ _ _ _ _ _ _ _ _ _ _ _ _ _ _ _ _ _ _ _ _ _ _ _ _ _ _ _ _ _ _ _ _ _ _ _ _ _ _ _ _ _ _ _ _ _ _ _ _ _ _ _ _ _ _ _ _ _ _ _ _ _ _ _ _ _ _ _ _ _ _ _ _ _ _ _ _ _ _ _ _ _ _ _ _ _ _ _ _ _ _ _ _ _ _ _ _ _ _ _ _ _ _ _ _ _ _ _ _ _ _ _ _ _ _ _ _ _ _ _ _ _ _ _ _ _ _ _ _ _ _ _ _ _ _ _ _ _ _ _ _ _ _ _ _ _ _ _ _ _ _ _ _ _ _ _ _ _ _ _ _ _ _ _ _ _ _ _ _ _ _ _ _ _ _ _ _ _ _ _ _ _ _ _ _ _ _ _ _ _ _ _ _ _ _ _ _ _ _ _ _ _ _ _ _ _ _ _ _ _ _ _ _ _ _ _ _ _ _ _ _ _ _ _ _ _ _ _ _ _ _ _ _ _ _ _ _ _ _ _ ?_
              intro d' wy v15 v17 v61 v62 v63 v64 v65 v66 v67 v68 v69 v70 v71 v72 v73 v74 v75 v76 v77 v78 v79 v80 v81 v82 v83 v84 v85 v86 v87 v88 v89 v90 v91 v92 v93 v94 v95 v96 v97 v98 v99 v100 v101 v102 v103 v104 v105 v106 v107 v108 v109 v110 v111 v112 v113 v114 v115 v116 v117 v118 v119 v120 v121 v122 v123 v124 v125 v126 v127 v128 v129 v130 v131 v132 v133 v134 v135 v136 v137 v138 v139 v140 v141 v142 v143 v144 v145 v146 v147 v148 v149 v150 v151 v152 v153 v154 v155 v156 v157 v158 v159 v160 v161 v162 hA
              clear q1
              go_wp2_with fail
              go_meet
              exact ⟨_, rfl, hA⟩
            by_cases q2 : sd = 2
            · refine csSw2 w W1 F b mp gs S H sd sh st sa sy sf pf pd ps pt pa py _ (unhide HW1) (unhide HV) (unhide HX) (unhide HKX) (unhide HNF) (unhide HII) q2 _ _ _ _ _ _ _ _ _ _ _ _ _ _ _ _ _ _ _ _ _ _ _ _ _ _ _ _ _ _ _ _ _ _ _ _ _ _ _ _ _ _ _ _ _ _ _ _ _ _ _ _ _ _ _ _ _ _ _ _ _ _ _ _ _ _ _ _ _ _ _ _ _ _ _ _ _ _ _ _ _ _ _ _ _ _ _ _ _ _ _ _ _ _ _ _ _ _ _ _ _ _ _ _ _ _ _ _ _ _ _ _ _ _ _ _ _ _ _ _ _ _ _ _ _ _ _ _ _ _ _ _ _ _ _ _ _ _ _ _ _ _ _ _ _ _ _ _ _ _ _ _ _ _ _ _ _ _ _ _ _ _ _ _ _ _ _ _ _ _ _ _ _ _ _ _ _ _ _ _ _ _ _ _ _ _ _ _ _ _ _ _ _ _ _ _ _ _ _ _ _ _ _ _ _ _ _ _ _ _ _ _ _ _ _ _ _ _ _ _ _ _ _ _ _ _ _ _ _ _ _ _ _ _ _ _ _ _ _ _ _ _ _ _ _ _ _ _ _ _ _ _ _ _ _ _ _ _ _ _ _ _ _ _ _ _ _ _ _ _ _ _ _ _ _ _ _ _ _ _ _ _ _ _ _ _ _ _ _ _ _ _ _ _ _ _ _ _ _ _ _ _ _ _ _ _ _ _ _ _ _ _ _ _ _ _ _ _ _ _ _ _ _ _ _ _ _ _ _ _ _ _ _ _ _ _ _ _ _ _ _ _ ?_
              intro d' wy v15 v17 v61 v62 v63 v64 v65 v66 v67 v68 v69 v70 v71 v72 v73 v74 v75 v76 v77 v78 v79 v80 v81 v82 v83 v84 v85 v86 v87 v88 v89 v90 v91 v92 v93 v94 v95 v96 v97 v98 v99 v100 v101 v102 v103 v104 v105 v106 v107 v108 v109 v110 v111 v112 v113 v114 v115 v116 v117 v118 v119 v120 v121 v122 v123 v124 v125 v126 v127 v128 v129 v130 v131 v132 v133 v134 v135 v136 v137 v138 v139 v140 v141 v142 v143 v144 v145 v146 v147 v148 v149 v150 v151 v152 v153 v154 v155 v156 v157 v158 v159 v160 v161 v162 hA
              clear q2
              go_wp2_with fail
              go_meet
              exact ⟨_, rfl, hA⟩
            by_cases q3 : sd = 3
            · refine csSw3 w W1 F b mp gs S H sd sh st sa sy sf pf pd ps pt pa py _ (unhide HW1) (unhide HV) (unhide HX) (unhide HKX) (unhide HNF) (unhide HII) q3 _ _ _ _ _ _ _ _ _ _ _ _ _ _ _ _ _ _ _ _ _ _ _ _ _ _ _ _ _ _ _ _ _ _ _ _ _ _ _ _ _ _ _ _ _ _ _ _ _ _ _ _ _ _ _ _ _ _ _ _ _ _ _ _ _ _ _ _ _ _ _ _ _ _ _ _ _ _ _ _ _ _ _ _ _ _ _ _ _ _ _ _ _ _ _ _ _ _ _ _ _ _ _ _ _ _ _ _ _ _ _ _ _ _ _ _ _ _ _ _ _ _ _ _ _ _ _ _ _ _ _ _ _ _ _ _ _ _ _ _ _ _ _ _ _ _ _ _ _ _ _ _ _ _ _ _ _ _ _ _ _ _ _ _ _ _ _ _ _ _ _ _ _ _ _ _ _ _ _ _ _ _ _ _ _ _ _ _ _ _ _ _ _ _ _ _ _ _ _ _ _ _ _ _ _ _ _ _ _ _ _ _ _ _ _ _ _ _ _ _ _ _ _ _ _ _ _ _ _ _ _ _ _ _ _ _ _ _ _ _ _ _ _ _ _ _ _ _ _ _ _ _ _ _ _ _ _ _ _ _ _ _ _ _ _ _ _ _ _ _ _ _ _ _ _ _ _ _ _ _ _ _ _ _ _ _ _ _ _ _ _ _ _ _ _ _ _ _ _ _ _ _ _ _ _ _ _ _ _ _ _ _ _ _ _ _ _ _ _ _ _ _ _ _ _ _ _ _ _ _ _ _ _ _ _ _ _ _ _ _ _ _ ?_
              intro d' wy v15 v17 v61 v62 v63 v64 v65 v66 v67 v68 v69 v70 v71 v72 v73 v74 v75 v76 v77 v78 v79 v80 v81 v82 v83 v84 v85 v86 v87 v88 v89 v90 v91 v92 v93 v94 v95 v96 v97 v98 v99 v100 v101 v102 v103 v104 v105 v106 v107 v108 v109 v110 v111 v112 v113 v114 v115 v116 v117 v118 v119 v120 v121 v122 v123 v124 v125 v126 v127 v128 v129 v130 v131 v132 v133 v134 v135 v136 v137 v138 v139 v140 v141 v142 v143 v144 v145 v146 v147 v148 v149 v150 v151 v152 v153 v154 v155 v156 v157 v158 v159 v160 v161 v162 hA
              clear q3
              go_wp2_with fail
              go_meet
              exact ⟨_, rfl, hA⟩
            by_cases q4 : sd = 4
            · by_cases qf : sf = true
              · refine csSw4t w W1 F b mp gs S H sd sh st sa sy sf pf pd ps pt pa py _ (unhide HW1) (unhide HV) (unhide HX) (unhide HKX) (unhide HNF) (unhide HII) q4 qf _ _ _ _ _ _ _ _ _ _ _ _ _ _ _ _ _ _ _ _ _ _ _ _ _ _ _ _ _ _ _ _ _ _ _ _ _ _ _ _ _ _ _ _ _ _ _ _ _ _ _ _ _ _ _ _ _ _ _ _ _ _ _ _ _ _ _ _ _ _ _ _ _ _ _ _ _ _ _ _ _ _ _ _ _ _ _ _ _ _ _ _ _ _ _ _ _ _ _ _ _ _ _ _ _ _ _ _ _ _ _ _ _ _ _ _ _ _ _ _ _ _ _ _ _ _ _ _ _ _ _ _ _ _ _ _ _ _ _ _ _ _ _ _ _ _ _ _ _ _ _ _ _ _ _ _ _ _ _ _ _ _ _ _ _ _ _ _ _ _ _ _ _ _ _ _ _ _ _ _ _ _ _ _ _ _ _ _ _ _ _ _ _ _ _ _ _ _ _ _ _ _ _ _ _ _ _ _ _ _ _ _ _ _ _ _ _ _ _ _ _ _ _ _ _ _ _ _ _ _ _ _ _ _ _ _ _ _ _ _ _ _ _ _ _ _ _ _ _ _ _ _ _ _ _ _ _ _ _ _ _ _ _ _ _ _ _ _ _ _ _ _ _ _ _ _ _ _ _ _ _ _ _ _ _ _ _ _ _ _ _ _ _ _ _ _ _ _ _ _ _ _ _ _ _ _ _ _ _ _ _ _ _ _ _ _ _ _ _ _ _ _ _ _ _ _ _ _ _ _ _ _ _ _ _ _ _ _ _ _ _ _ ?_
                intro d' wy v15 v17 v61 v62 v63 v64 v65 v66 v67 v68 v69 v70 v71 v72 v73 v74 v75 v76 v77 v78 v79 v80 v81 v82 v83 v84 v85 v86 v87 v88 v89 v90 v91 v92 v93 v94 v95 v96 v97 v98 v99 v100 v101 v102 v103 v104 v105 v106 v107 v108 v109 v110 v111 v112 v113 v114 v115 v116 v117 v118 v119 v120 v121 v122 v123 v124 v125 v126 v127 v128 v129 v130 v131 v132 v133 v134 v135 v136 v137 v138 v139 v140 v141 v142 v143 v144 v145 v146 v147 v148 v149 v150 v151 v152 v153 v154 v155 v156 v157 v158 v159 v160 v161 v162 hA
                clear q4 qf
                go_wp2_with fail
                go_meet
                exact ⟨_, rfl, hA⟩
              · refine csSw4f w W1 F b mp gs S H sd sh st sa sy sf pf pd ps pt pa py _ (unhide HW1) (unhide HV) (unhide HX) (unhide HKX) (unhide HNF) (unhide HII) q4 (by simpa using qf) _ _ _ _ _ _ _ _ _ _ _ _ _ _ _ _ _ _ _ _ _ _ _ _ _ _ _ _ _ _ _ _ _ _ _ _ _ _ _ _ _ _ _ _ _ _ _ _ _ _ _ _ _ _ _ _ _ _ _ _ _ _ _ _ _ _ _ _ _ _ _ _ _ _ _ _ _ _ _ _ _ _ _ _ _ _ _ _ _ _ _ _ _ _ _ _ _ _ _ _ _ _ _ _ _ _ _ _ _ _ _ _ _ _ _ _ _ _ _ _ _ _ _ _ _ _ _ _ _ _ _ _ _ _ _ _ _ _ _ _ _ _ _ _ _ _ _ _ _ _ _ _ _ _ _ _ _ _ _ _ _ _ _ _ _ _ _ _ _ _ _ _ _ _ _ _ _ _ _ _ _ _ _ _ _ _ _ _ _ _ _ _ _ _ _ _ _ _ _ _ _ _ _ _ _ _ _ _ _ _ _ _ _ _ _ _ _ _ _ _ _ _ _ _ _ _ _ _ _ _ _ _ _ _ _ _ _ _ _ _ _ _ _ _ _ _ _ _ _ _ _ _ _ _ _ _ _ _ _ _ _ _ _ _ _ _ _ _ _ _ _ _ _ _ _ _ _ _ _ _ _ _ _ _ _ _ _ _ _ _ _ _ _ _ _ _ _ _ _ _ _ _ _ _ _ _ _ _ _ _ _ _ _ _ _ _ _ _ _ _ _ _ _ _ _ _ _ _ _ _ _ _ _ _ _ _ _ _ _ _ _ _ ?_
                intro d' wy v15 v17 v61 v62 v63 v64 v65 v66 v67 v68 v69 v70 v71 v72 v73 v74 v75 v76 v77 v78 v79 v80 v81 v82 v83 v84 v85 v86 v87 v88 v89 v90 v91 v92 v93 v94 v95 v96 v97 v98 v99 v100 v101 v102 v103 v104 v105 v106 v107 v108 v109 v110 v111 v112 v113 v114 v115 v116 v117 v118 v119 v120 v121 v122 v123 v124 v125 v126 v127 v128 v129 v130 v131 v132 v133 v134 v135 v136 v137 v138 v139 v140 v141 v142 v143 v144 v145 v146 v147 v148 v149 v150 v151 v152 v153 v154 v155 v156 v157 v158 v159 v160 v161 v162 hA
                clear q4 qf
                go_wp2_with fail
                go_meet
                exact ⟨_, rfl, hA⟩
            refine csSw5 w W1 F b mp gs S H sd sh st sa sy sf pf pd ps pt pa py _ (unhide HW1) (unhide HV) (unhide HX) (unhide HKX) (unhide HNF) (unhide HII) ⟨q0, q1, q2, q3, q4⟩ _ _ _ _ _ _ _ _ _ _ _ _ _ _ _ _ _ _ _ _ _ _ _ _ _ _ _ _ _ _ _ _ _ _ _ _ _ _ _ _ _ _ _ _ _ _ _ _ _ _ _ _ _ _ _ _ _ _ _ _ _ _ _ _ _ _ _ _ _ _ _ _ _ _ _ _ _ _ _ _ _ _ _ _ _ _ _ _ _ _ _ _ _ _ _ _ _ _ _ _ _ _ _ _ _ _ _ _ _ _ _ _ _ _ _ _ _ _ _ _ _ _ _ _ _ _ _ _ _ _ _ _ _ _ _ _ _ _ _ _ _ _ _ _ _ _ _ _ _ _ _ _ _ _ _ _ _ _ _ _ _ _ _ _ _ _ _ _ _ _ _ _ _ _ _ _ _ _ _ _ _ _ _ _ _ _ _ _ _ _ _ _ _ _ _ _ _ _ _ _ _ _ _ _ _ _ _ _ _ _ _ _ _ _ _ _ _ _ _ _ _ _ _ _ _ _ _ _ _ _ _ _ _ _ _ _ _ _ _ _ _ _ _ _ _ _ _ _ _ _ _ _ _ _ _ _ _ _ _ _ _ _ _ _ _ _ _ _ _ _ _ _ _ _ _ _ _ _ _ _ _ _ _ _ _ _ _ _ _ _ _ _ _ _ _ _ _ _ _ _ _ _ _ _ _ _ _ _ _ _ _ _ _ _ _ _ _ _ _ _ _ _ _ _ _ _ _ _ _ _ _ _ _ _ _ _ _ _ _ _ _ _ ?_
            intro d' wy v15 v17 v61 v62 v63 v64 v65 v66 v67 v68 v69 v70 v71 v72 v73 v74 v75 v76 v77 v78 v79 v80 v81 v82 v83 v84 v85 v86 v87 v88 v89 v90 v91 v92 v93 v94 v95 v96 v97 v98 v99 v100 v101 v102 v103 v104 v105 v106 v107 v108 v109 v110 v111 v112 v113 v114 v115 v116 v117 v118 v119 v120 v121 v122 v123 v124 v125 v126 v127 v128 v129 v130 v131 v132 v133 v134 v135 v136 v137 v138 v139 v140 v141 v142 v143 v144 v145 v146 v147 v148 v149 v150 v151 v152 v153 v154 v155 v156 v157 v158 v159 v160 v161 v162 hA
            clear q0 q1 q2 q3 q4
            go_wp2_with fail
            go_meet
            exact ⟨_, rfl, hA⟩
          case rest =>
            obtain ⟨d', rfl, F', S', H', hW2, hV2, hX2, hday, hNF2⟩ := hcut
            dsimp only at hday
            apply_assumption
            refine csRest w _ F' b mp gs k S' H' sd sh st sa sy sf pf pd ps pt pa py d' _ hW2 hV2 hX2 hday hkk _ _ _ _ _ _ _ _ _ _ _ _ _ _ _ _ _ _ _ _ _ _ _ _ _ _ _ _ _ _ _ _ _ _ _ _ _ _ _ _ _ _ _ _ _ _ _ _ _ _ _ _ _ _ _ _ _ _ _ _ _ _ _ _ _ _ _ _ _ _ _ _ _ _ _ _ _ _ _ _ _ _ _ _ _ _ _ _ _ _ _ _ _ _ _ _ _ _ _ _ _ _ _ _ _ _ _ _ _ _ _ _ _ _ _ _ _ _ _ _ _ _ _ _ _ _ _ _ _ _ _ _ _ _ _ _ _ _ _ _ _ _ _ _ _ _ _ _ _ _ _ _ _ _ _ _ _ _ _ _ _ _ _ _ _ _ _ _ _ _ _ _ _ _ _ _ _ _ _ _ _ _ _ _ _ _ _ _ _ _ _ _ _ _ _ _ _ _ _ _ _ _ _ _ _ _ _ _ _ _ _ _ _ _ _ _ _ _ _ _ _ _ _ _ _ _ _ _ _ _ _ _ _ _ _ _ _ _ _ _ _ _ _ _ _ _ _ _ _ _ _ _ _ _ _ _ _ _ _ _ _ _ _ _ _ _ _ _ _ _ _ _ _ _ _ _ _ _ _ _ _ _ _ _ _ _ _ _ _ _ _ _ _ _ _ _ _ _ _ _ _ _ _ _ _ _ _ _ _ _ _ _ _ _ _ _ _ _ _ _ _ _ _ _ _ _ _ _ _ _ _ _ _ _ _ _ _ _ _ _ _ _ _ ?_
            intro wy v4 v18 v19 v20 v21 v22 v23 v24 v25 v163 v164 v165 v166 v167 v168 v169 v170 v171 v172 v173 v174 v175 v176 v177 v178 v179 v180 v181 v182 v183 v184 v185 v186 v187 v188 v189 v190 v191 v192 v193 v194 v195 v196 v197 v198 v199 v200 v201 v202 v203 v204 v205 v206 v207 v208 v209 v210 v211 v212 v213 v214 v215 v216 v217 v218 v219 v220 v221 v222 v223 v224 v225 v226 v227 v228 v229 v230 v231 v232 v233 v234 v235 v236 v237 v238 v239 v240 v241 v242 v243 v244 v245 v246 v247 v248 v249 v250 v251 v252 v253 v254 v255 v256 v257 v258 v259 v260 v261 hA
            go_wp2
            go_roundw
            case rel => exact ⟨k + 1, _, by omega, by go_num, rfl, hA⟩
            case measure => simp [intOf]; omega
        · have hlf : ¬ (k : Int) < (l.length : Int) := by omega
          obtain ⟨F, S, H, rfl, hW, hV⟩ := hA
          have HAA : Hid (CsA w wr b ⟨mp, mp + 1, mp + 1 + 1, mp + 1 + 1 + 1⟩ S.last) := hide ⟨F, S, H, rfl, hW, hV⟩
          clear hW hV
          go_wp2_with fail
          go_meet
          exact ⟨_, rfl, unhide HAA⟩
    case rest =>
      obtain ⟨d, rfl, F, S, H, rfl, hW, hV⟩ := hcut
      apply_assumption
      exact csTail w _ F b mp S H hW hV _ _ _ _ _ _ _ _ _ _ _ _ _ _ _ _ _ _ _ _ _ _ _ _ _ _ _ _ _ _ _ _ _ _ _ _ _ _ _ _ _ _ _ _ _ _ _ _ _ _ _ _ _ _ _ _ _ _ _ _ _ _ _ _ _ _ _ _ _ _ _ _ _ _ _ _ _ _ _ _ _ _ _ _ _ _ _ _ _ _ _ _ _ _ _ _ _ _ _ _ _ _ _ _ _ _ _ _ _ _ _ _ _ _ _ _ _ _ _ _ _ _ _ _ _ _ _ _ _ _ _ _ _ _ _ _ _ _ _ _ _ _ _ _ _ _ _ _ _ _ _ _ _ _ _ _ _ _ _ _ _ _ _ _ _ _ _ _ _ _ _ _ _ _ _ _ _ _ _ _ _ _ _ _ _ _ _ _ _ _ _ _ _ _ _ _ _ _ _ _ _ _ _ _ _ _ _ _ _ _ _ _ _ _ _ _ _ _ _ _ _ _ _ _ _ _ _ _ _ _ _ _ _ _ _ _ _ _ _ _ _ _ _ _ _ _ _ _ _ _ _ _ _ _ _ _ _ _ _ _ _ _ _ _ _ _ _ _ _ _ _ _ _ _ _ _ _ _ _ _ _ _ _ _ _ _ _ _ _ _ _ _ _ _ _ _ _ _ _ _ _ _ _ _ _ _ _ _ _ _ _ _ _ _ _ _ _ _ _ _ _ _ _ _ _ _ _ _ _ _ _ _ _ _ _ _ _ _ _ _ _ _ _ _ _
end Go.Proofs.Ytdameincehiieaa
